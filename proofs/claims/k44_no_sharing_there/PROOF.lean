import PyProof.Rows.All
import Wide.All
import OpenK.AllK
import Wide.FinOn
import Lean
import PyProof.EqAt
import PyProof.EqKinds
import PyProof.TupleCall
import KE.KIsAll
import KE.RegKIsAll
import PyProof.ExcArgsOwn
import PyProof.InstStoreFacts
import PyProof.Rows.MinMaxN
import PyProof.Rows.CallKwBuiltin
import KE.KMinKey
import KE.KDictOf
import PyProof.AttrMissSeq
import KE.KSortAsk
import KE.KSortKey
import KE.KSortTup
import KE.KNest
import PySem.Challenge.RW_friezeyard_k44_no_sharing_there
set_option compiler.extract_closed false
noncomputable section
open PySem.W (Frag Looks codeIn hideAll hideAll_get hideAll_none keepIn kia_one kitOne kla_fn mroIn nsIn of_hideAll tabIn)
set_option Elab.async false
set_option linter.all false
set_option maxRecDepth 100000
namespace L2
open PySem PySem.Spec PyProof.Rows
abbrev Key:=Sum Int Str
noncomputable def ze3:Key->Value->Bool
 | .inl k,v=>Value.isInt k v
 | .inr x,v=>Value.isStrOf x v
noncomputable def y0v (w:World):Key->Int
 | .inl k=>hashInt k
 | .inr x=>hashStr w x
theorem z0h:∀{k:Key} {v:Value},ze3 k v=true->(∃i t,k=Sum.inl i/\v=Value.int i t)\/(∃x t,k=Sum.inr x/\v=Value.str x t)
 | .inl i,v,h=>by
  obtain ⟨t,e⟩:=Value.isInt_shape (k:=i) (v:=v) h
  exact .inl ⟨i,t,rfl,e⟩
 | .inr x,v,h=>by
  obtain ⟨t,e⟩:=Value.isStrOf_shape (x:=x) (v:=v) h
  exact .inr ⟨x,t,rfl,e⟩
theorem zf2 (i:Int) (t:Tok):ze3 (.inl i) (.int i t)=true:=by simp [ze3,Value.isInt]
theorem zf3 (x:Str) (t:Tok):ze3 (.inr x) (.str x t)=true:=by simp [ze3,Value.isStrOf]
theorem zqw (a b:Int):decide ((Sum.inl a:Key)=Sum.inl b)=(a==b):=by
 by_cases e:a=b
 . subst e;simp
 . have h:¬(Sum.inl a:Key)=Sum.inl b:=fun q=>e (Sum.inl.inj q)
   rw [decide_eq_false h]
   exact (beq_eq_false_iff_ne.mpr e).symm
theorem zqx (a b:Str):decide ((Sum.inr a:Key)=Sum.inr b)=decide (a=b):=by
 by_cases e:a=b
 . subst e;simp
 . have h:¬(Sum.inr a:Key)=Sum.inr b:=fun q=>e (Sum.inr.inj q)
   rw [decide_eq_false h,decide_eq_false e]
theorem zqy (a:Int) (b:Str):decide ((Sum.inl a:Key)=Sum.inr b)=false:=decide_eq_false (fun q=>nomatch q)
theorem zqz (a:Str) (b:Int):decide ((Sum.inr a:Key)=Sum.inl b)=false:=decide_eq_false (fun q=>nomatch q)
noncomputable def z0s (prog:Program) (w:World):PySem.KeyKind prog w Key where
 is:=ze3
 hash:=y0v w
 inj:=fun v a b ha hb=>by
  rcases z0h ha with ⟨i,t,rfl,rfl⟩ | ⟨x,t,rfl,rfl⟩
  . rcases z0h hb with ⟨j,u,rfl,e⟩ | ⟨y,u,rfl,e⟩
    . injection e with e1 _;rw [e1]
    . exact nomatch e
  . rcases z0h hb with ⟨j,u,rfl,e⟩ | ⟨y,u,rfl,e⟩
    . exact nomatch e
    . injection e with e1 _;rw [e1]
 byValue:=fun k v h=>by
  rcases z0h h with ⟨i,t,rfl,rfl⟩ | ⟨x,t,rfl,rfl⟩<;>rfl
 pyHash:=fun hv h=>by
  rcases z0h hv with ⟨i,t,rfl,rfl⟩ | ⟨x,t,rfl,rfl⟩
  . exact wpAny_pyHash_int h
  . exact wpAny_pyHash_str h
 eqBool:=fun hu hv h=>by
  rcases z0h hu with ⟨i,t,rfl,rfl⟩ | ⟨x,t,rfl,rfl⟩
  . rcases z0h hv with ⟨j,u,rfl,rfl⟩ | ⟨y,u,rfl,rfl⟩
    . rw [zqw] at h;exact wpAny_eqBool_int h
    . rw [zqy] at h;exact SeqAt.EqAt.int_str i t y u _ _ _ _ h
  . rcases z0h hv with ⟨j,u,rfl,rfl⟩ | ⟨y,u,rfl,rfl⟩
    . rw [zqz] at h;exact SeqAt.EqAt.str_int x t j u _ _ _ _ h
    . rw [zqx] at h;exact wpAny_eqBool_str h
 «strs»:=fun k x t v h=>by
  rcases z0h h with ⟨i,u,rfl,e⟩ | ⟨y,u,rfl,e⟩
  . exact nomatch e
  . injection e with e1 _
    subst e1
    cases v<;>rfl
theorem zbj (prog:Program) (w:World) (i:Int) (t:Tok):(z0s prog w).is (.inl i) (.int i t)=true:=zf2 i t
theorem zbk (prog:Program) (w:World) (x:Str) (t:Tok):(z0s prog w).is (.inr x) (.str x t)=true:=zf3 x t
inductive V where
 | non | bl (b:Bool) | int (i:Int) | str (x:Str) | byt (b:Array UInt8) | flt (b:UInt64) | ref (a:Addr) | ty (n:String)
 deriving DecidableEq
def RelV:V->Value->Prop
 | .non,u=>u=Value.none
 | .bl b,u=>u=Value.bool b
 | .int i,u=>∃t,u=Value.int i t
 | .str x,u=>∃t,u=Value.str x t
 | .byt b,u=>∃t,u=Value.bytes b t
 | .flt b,u=>∃t,u=Value.float b t
 | .ref a,u=>u=Value.ref a
 | .ty n,u=>u=Value.type n
abbrev Vals:List V->List Value->Prop:=Paired RelV
theorem Vals.length {xs:List V} {us:List Value} (r:Vals xs us):xs.length=us.length:=Paired.length r
theorem Vals.get:∀{xs:List V} {us:List Value} {i:Nat} {x:V},Vals xs us->xs[i]?=some x->∃u,us[i]?=some u/\RelV x u
 | _,_,_,_,.nil,e=>by simp at e
 | _,_,0,_,.cons r _,e=>by simp at e;subst e;exact ⟨_,rfl,r⟩
 | _,_,i+1,x,.cons _ t,e=>by
  obtain ⟨u,h1,h2⟩:=Vals.get (i:=i) (x:=x) t (by simpa using e)
  exact ⟨u,by simpa using h1,h2⟩
theorem Vals.set {x:V} {u:Value} (r:RelV x u):∀{xs:List V} {us:List Value} (i:Nat),Vals xs us->Vals (xs.set i x) (us.set i u)
 | _,_,_,.nil=>.nil
 | _,_,0,.cons _ t=>.cons r t
 | _,_,i+1,.cons q t=>.cons q (Vals.set r i t)
theorem Vals.append:∀{xs ys:List V} {us ws:List Value},Vals xs us->Vals ys ws->Vals (xs++ys) (us++ws)
 | _,_,_,_,.nil,s=>s
 | _,_,_,_,.cons r t,s=>.cons r (Vals.append t s)
theorem Vals.take:∀{xs:List V} {us:List Value} (n:Nat),Vals xs us->Vals (xs.take n) (us.take n)
 | _,_,0,_=>.nil
 | _,_,_+1,.nil=>.nil
 | _,_,n+1,.cons r t=>.cons r (Vals.take n t)
theorem Vals.drop:∀{xs:List V} {us:List Value} (n:Nat),Vals xs us->Vals (xs.drop n) (us.drop n)
 | _,_,0,r=>r
 | _,_,_+1,.nil=>.nil
 | _,_,n+1,.cons _ t=>Vals.drop n t
def RelO:Option V->Option Value->Prop
 | some v,some u=>RelV v u
 | none,none=>True
 | _,_=>False
def KV {κ:Type}:List (κ×V)->List (κ×Value)->Prop:=Paired fun (p:κ×V) (q:κ×Value)=>p.1=q.1/\RelV p.2 q.2
noncomputable def kV:Key->V
 | .inl i=>.int i
 | .inr x=>.str x
inductive HO where
 /-- a list -/
 | lst (xs:List V)
 /-- a tuple (never changes) -/
 | tup (xs:List V)
 /-- a dict whose keys are ints and texts;one whose keys are tuples of ints and texts (the empty one is both) -/
 | dK (kvs:List (Key×V)) | dT (kvs:List (List Key×V))
 /-- a set of ints: its members,its size -/
 | set (S:Int->Bool) (n:Nat)
 /-- an instance of the class at C,its dict at dx,its attributes -/
 | ins (C dx:Addr) (fs:List (Str×V))
 /-- the dict of the instance at x -/
 | own (x:Addr)
 /-- the dict of an exception -/
 | xd (fs:List (Str×V))
 /-- a bound method,f of x -/
 | met (f x:Addr)
 /-- a range object lo,lo+1,.. below hi -/
 | rng (lo hi:Int)
 /-- a thing that is known to the object (the script;a dict while a loop walks it): read,never written while it is so -/
 | frz (o:Obj) (u:HO)
 /-- a code object's table -/
 | tbl (ps:Array Value)
 /-- the table of a def that makes lambdas,all of the qualname q -/
 | ctb (q:Str)
 /-- any other thing,by what is true of its one object (a def of one's own: SetO a S n:=HO.ext fun h=>..) -/
 | ext (φ:Heap->Prop)
abbrev Hp:=Addr->Option HO
noncomputable def upd (H:Hp) (a:Addr) (o:HO):Hp:=fun b=>if b=a then some o else H b
theorem z05 {H:Hp} {a:Addr} {o:HO}:upd H a o a=some o:=by unfold upd;rw [if_pos rfl]
theorem z02 {H:Hp} {a b:Addr} {o:HO} (h:b≠a):upd H a o b=H b:=by unfold upd;rw [if_neg h]
theorem zwk {H:Hp} {a b:Addr} {o u:HO} (h:H a=some o) (h':H b=some u) (d:o≠u):a≠b:=by
 intro e;subst e;rw [h] at h';exact d (Option.some.inj h')
theorem z0b {H:Hp} {a b:Addr} {o:HO} (h:H a=some o) (h':H b=none):a≠b:=by
 intro e;subst e;rw [h] at h';cases h'
section
variable (P:Program) (w:World)
def ObjOk (H:Hp) (h:Heap) (a:Addr):HO->Prop
 | .lst xs=>xs.length<=sizeLine/\∃(its:List Value) (n:Nat),Vals xs its/\h.get? a=some { cls:=.type "list",data:=.seq its.toArray n }
 | .tup xs=>xs.length<=sizeLine/\∃its:List Value,Vals xs its/\IsTup h a its.toArray
 | .dK kvs=>kvs.length<=sizeLine/\(a==sysModules)=false/\∃vs,KV kvs vs/\h.DictOf (z0s P w) a vs
 | .dT kvs=>kvs.length<=sizeLine/\(a==sysModules)=false/\∃xs:List (List Key×Addr×Value),
  Paired (fun (p:List Key×V) (q:List Key×Addr×Value)=>p.1=q.1/\H q.2.1=some (.tup (p.1.map kV))/\RelV p.2 q.2.2) kvs xs /\
  ∃o es ep,h.get? a=some o/\o.ExactDict/\o.data=.dict es ep/\es.toList=xs.map (entryOfKey (tupleKind (z0s P w)))/\(xs.map (·.1)).Nodup
 | .set S n=>h.SetOf (intKind P w) a S n
 | .ins C dx fs=>H dx=some (.own a)/\fs.length<=1000/\dx≠a/\h.get? a=some (PySem.W.instObj C dx) /\
  ∃mA,h.Ns1 dx mA/\(∀f,RelO (fs.lookup f) (mA f))/\PySem.Within mA (fs.map (·.1))
 | .own _=>∃o,h.get? a=some o
 | .xd fs=>∃mA,h.Ns1 a mA/\∀f,RelO (fs.lookup f) (mA f)
 | .rng lo hi=>∃t u v,h.get? a=some { cls:=.type "range",data:=.fields #[.int lo t,.int hi u,.int 1 v] }
 | .frz o u=>h.get? a=some o/\ObjOk H h a u
 | .tbl ps=>h.get? a=some { cls:=.none,data:=.fields ps }
 | .ctb q=>∃ps:Array Value,h.get? a=some { cls:=.none,data:=.fields ps }/\TriplesOk ps.toList/\∀(pos:Pos) (v:Value),codeAmong pos ps.toList=some v->∃c,v=.ref c/\H c=some (.own a)/\h.CodeRec (.ref c) q
 | .met f x=>h.get? a=some (PySem.W.methodObj (.ref f) (.ref x))
 | .ext φ=>φ h/\(∃o,h.get? a=some o)/\∀h1 h2:Heap,φ h1->(∀o,h1.get? a=some o->h2.get? a=some o)->φ h2
def HOk (H:Hp) (h:Heap):Prop:=∀a o,H a=some o->ObjOk P w H h a o
end
section
variable {P:Program} {w:World} {H H':Hp} {h h':Heap} {a:Addr} {o:HO}
theorem ObjOk.lt (x:ObjOk P w H h a o):a<h.objs.size:=by
 cases o with
 | lst xs=>obtain ⟨_,_,_,_,e⟩:=x;exact Heap.lt_size e
 | tup xs=>obtain ⟨_,_,_,p⟩:=x;exact p.lt
 | dK kvs=>obtain ⟨_,_,_,_,o,_,_,e,_⟩:=x;exact Heap.lt_size e
 | dT kvs=>obtain ⟨_,_,_,_,o,_,_,e,_⟩:=x;exact Heap.lt_size e
 | set S n=>obtain ⟨o,_,_,_,e,_⟩:=x;exact Heap.lt_size e
 | ins C dx fs=>obtain ⟨_,_,_,e,_⟩:=x;exact Heap.lt_size e
 | own y=>obtain ⟨_,e⟩:=x;exact Heap.lt_size e
 | xd fs=>obtain ⟨_,⟨_,_,_,e,_⟩,_⟩:=x;exact Heap.lt_size e
 | rng lo hi=>obtain ⟨_,_,_,e⟩:=x;exact Heap.lt_size e
 | frz ob u=>obtain ⟨e,_⟩:=x;exact Heap.lt_size e
 | tbl ps=>exact Heap.lt_size (show h.get? a=some _ from x)
 | ctb q=>obtain ⟨_,e,_⟩:=x;exact Heap.lt_size e
 | met f y=>exact Heap.lt_size (show h.get? a=some _ from x)
 | ext φ=>obtain ⟨_,⟨_,e⟩,_⟩:=x;exact Heap.lt_size e
theorem Paired.mapP {α β:Type} {F G:α->β->Prop}:∀{l₁:List α} {l₂:List β},Paired F l₁ l₂->(∀a b,F a b->G a b)->Paired G l₁ l₂
 | _,_,.nil,_=>.nil
 | _,_,.cons r t,f=>.cons (f _ _ r) (Paired.mapP t f)
theorem ObjOk.stay (x:ObjOk P w H h a o) (k:∀b u,(b=a\/H b=some (.own a))->h.get? b=some u->h'.get? b=some u)
  (ho:∀b,H b=some (.own a)->H' b=some (.own a)) (ht:∀b xs,H b=some (.tup xs)->H' b=some (.tup xs)):ObjOk P w H' h' a o:=by
 induction o with
 | lst xs=>obtain ⟨z,its,n,r,e⟩:=x;exact ⟨z,its,n,r,k _ _ (.inl rfl) e⟩
 | tup xs=>obtain ⟨z,its,r,ob,e,c⟩:=x;exact ⟨z,its,r,ob,k _ _ (.inl rfl) e,c⟩
 | dK kvs=>obtain ⟨z,y,vs,r,ob,es,ep,e,c⟩:=x;exact ⟨z,y,vs,r,ob,es,ep,k _ _ (.inl rfl) e,c⟩
 | dT kvs=>
  obtain ⟨z,y,xs,r,ob,es,ep,e,c⟩:=x
  exact ⟨z,y,xs,Paired.mapP r fun p q z=>⟨z.1,ht _ _ z.2.1,z.2.2⟩,ob,es,ep,k _ _ (.inl rfl) e,c⟩
 | set S n=>obtain ⟨ob,es,ep,t,e,c⟩:=x;exact ⟨ob,es,ep,t,k _ _ (.inl rfl) e,c⟩
 | ins C dx fs=>
  obtain ⟨d,z,ne,e,mA,⟨od,es,ep,e2,c⟩,r⟩:=x
  exact ⟨ho _ d,z,ne,k _ _ (.inl rfl) e,mA,⟨od,es,ep,k _ _ (.inr d) e2,c⟩,r⟩
 | own y=>obtain ⟨ob,e⟩:=x;exact ⟨ob,k _ _ (.inl rfl) e⟩
 | xd fs=>obtain ⟨mA,⟨od,es,ep,e,c⟩,r⟩:=x;exact ⟨mA,⟨od,es,ep,k _ _ (.inl rfl) e,c⟩,r⟩
 | rng lo hi=>obtain ⟨t,u,v,e⟩:=x;exact ⟨t,u,v,k _ _ (.inl rfl) e⟩
 | frz ob u ih=>obtain ⟨e,q⟩:=x;exact ⟨k _ _ (.inl rfl) e,ih q⟩
 | tbl ps=>
  have e:h.get? a=some { cls:=.none,data:=.fields ps }:=x
  show h'.get? a=some { cls:=.none,data:=.fields ps }
  exact k a _ (.inl rfl) e
 | ctb q=>
  obtain ⟨ps,e,t,c⟩:=x
  refine ⟨ps,k _ _ (.inl rfl) e,t,fun pos v hb=>?_⟩
  obtain ⟨b,rfl,z,c2,oc,vs,tq,e1,e2,e3⟩:=c pos v hb
  cases e1
  exact ⟨b,rfl,ho _ z,b,oc,vs,tq,rfl,k _ _ (.inr z) e2,e3⟩
 | met f y=>
  have e:h.get? a=some (PySem.W.methodObj (.ref f) (.ref y)):=x
  show h'.get? a=some (PySem.W.methodObj (.ref f) (.ref y))
  exact k a _ (.inl rfl) e
 | ext φ=>obtain ⟨p,⟨o,e⟩,st⟩:=x;exact ⟨st _ _ p fun o q=>k _ _ (.inl rfl) q,⟨o,k _ _ (.inl rfl) e⟩,st⟩
theorem HOk.lt (x:HOk P w H h) (e:H a=some o):a<h.objs.size:=(x a o e).lt
theorem HOk.fresh (x:HOk P w H h) (e:h.objs.size<=a):H a=none:=by
 cases q:H a with
 | none=>rfl
 | some u=>exact absurd (Nat.lt_of_lt_of_le (x.lt q) e) (Nat.lt_irrefl _)
theorem HOk.kept (x:HOk P w H h) (k:∀b u,h.get? b=some u->h'.get? b=some u):HOk P w H h':=fun a o e=>
 (x a o e).stay (fun b u _ q=>k b u q) (fun _ q=>q) fun _ _ q=>q
theorem HOk.laid (x:HOk P w H h) (k:∀b u,h.get? b=some u->h'.get? b=some u) (hp:h.objs.size<=a) (new:ObjOk P w (upd H a o) h' a o):HOk P w (upd H a o) h':=fun b u e=>by
 have hn:=x.fresh hp
 by_cases hb:b=a
 . subst hb;rw [z05] at e;cases e;exact new
 . rw [z02 hb] at e
   exact (x b u e).stay (fun c v _ q=>k c v q) (fun c q=>by rw [z02 (z0b q hn)];exact q) fun c xs q=>by rw [z02 (z0b q hn)];exact q
end
def Rd (H:Hp) (a:Addr) (u:HO):Prop:=H a=some u\/∃o,H a=some (.frz o u)
theorem Rd.of {H:Hp} {a:Addr} {u:HO} (h:H a=some u):Rd H a u:=.inl h
theorem Rd.ok {P:Program} {w:World} {H:Hp} {h:Heap} {a:Addr} {u:HO} (r:Rd H a u) (x:HOk P w H h):ObjOk P w H h a u:=by
 rcases r with r | ⟨o,r⟩
 . exact x a u r
 . obtain ⟨_,q⟩:=x a _ r
   exact q
def Mut:Option HO->Prop
 | some (.lst _)=>True
 | some (.dK _)=>True
 | some (.dT _)=>True
 | some (.set _ _)=>True
 | some (.ins _ _ _)=>True
 | some (.ext _)=>True
 | _=>False
section
variable {P:Program} {w:World} {H:Hp} {h h':Heap} {x e:Addr} {o':HO}
theorem HOk.write (ok:HOk P w H h) (mu:Mut (H x)) (he:e=x\/H e=some (.own x)) (k:∀b u,b≠e->h.get? b=some u->h'.get? b=some u) (heo:∃u,h'.get? e=some u)
  (new:ObjOk P w (upd H x o') h' x o'):HOk P w (upd H x o') h':=fun b u q=>by
 have nown:∀c y,H c=some (.own y)->c≠x:=fun c y r z=>by subst z;rw [r] at mu;exact mu
 have ntup:∀c xs,H c=some (.tup xs)->c≠x:=fun c xs r z=>by subst z;rw [r] at mu;exact mu
 by_cases hb:b=x
 . subst hb;rw [z05] at q;cases q;exact new
 . rw [z02 hb] at q
   by_cases hbe:b=e
   . have q':H b=some (.own x):=by
      rcases he with z | z
      . exact absurd (hbe.trans z) hb
      . rw [hbe];exact z
     rw [q] at q';cases q'
     obtain ⟨v,hv⟩:=heo
     exact ⟨v,by rw [hbe];exact hv⟩
   . refine (ok b u q).stay (fun c v hc r=>k c v ?_ r) (fun c r=>by rw [z02 (nown c b r)];exact r) fun c xs r=>by rw [z02 (ntup c xs r)];exact r
     rcases hc with rfl | hc
     . exact hbe
     . rintro rfl
       rcases he with z | z
       . exact nown c b hc z
       . rw [hc] at z;cases z;exact hb rfl
end
structure Un (fs ex:List Addr) (H H':Hp) (h h':Heap):Prop where
 keep:∀b o,h.get? b=some o->H b=none->b∉fs->b∉ex->h'.get? b=some o
 slot:∀b o,h.get? b=some o->H b=none->b∈fs->b∉ex->∃sl,h'.get? b=some { o with slots:=sl }
 free:∀b o,h.get? b=some o->H b=none->b∉ex->H' b=none
 there:∀b o,h.get? b=some o->b∉ex->∃o',h'.get? b=some o'
 tups:∀b xs,H b=some (.tup xs)->H' b=some (.tup xs)
 frzs:∀b o u,H b=some (.frz o u)->H' b=some (.frz o u)
 tbls:∀b ps,H b=some (.tbl ps)->∃more,H' b=some (.tbl (ps++more))
section
variable {fs ex:List Addr} {H H1 H2:Hp} {h h1 h2 h':Heap} {a x e:Addr} {o:HO}
theorem Un.any (u:Un fs ex H H1 h h1) {b:Addr} {ob:Obj} (q:h.get? b=some ob) (n:H b=none) (hx:b∉ex):∃sl,h1.get? b=some { ob with slots:=sl }:=by
 by_cases hb:b∈fs
 . exact u.slot b ob q n hb hx
 . exact ⟨ob.slots,u.keep b ob q n hb hx⟩
theorem Un.trans (a:Un fs ex H H1 h h1) (b:Un fs ex H1 H2 h1 h2):Un fs ex H H2 h h2 where
 keep:=fun c ob q n hc hx=>b.keep c ob (a.keep c ob q n hc hx) (a.free c ob q n hx) hc hx
 slot:=fun c ob q n hc hx=>by
  obtain ⟨sl,e1⟩:=a.slot c ob q n hc hx
  obtain ⟨sl',e2⟩:=b.slot c _ e1 (a.free c ob q n hx) hc hx
  exact ⟨sl',e2⟩
 free:=fun c ob q n hx=>by
  obtain ⟨o',e1⟩:=a.there c ob q hx
  exact b.free c o' e1 (a.free c ob q n hx) hx
 there:=fun c ob q hx=>by
  obtain ⟨o',e1⟩:=a.there c ob q hx
  exact b.there c o' e1 hx
 tups:=fun c xs q=>b.tups c xs (a.tups c xs q)
 frzs:=fun c ob xs q=>b.frzs c ob xs (a.frzs c ob xs q)
 tbls:=fun c ps q=>by
  obtain ⟨m1,e1⟩:=a.tbls c ps q
  obtain ⟨m2,e2⟩:=b.tbls c _ e1
  exact ⟨m1++m2,by rw [e2,Array.append_assoc]⟩
theorem Un.kept (k:∀b u,h.get? b=some u->h'.get? b=some u):Un fs ex H H h h':=
 ⟨fun b ob q _ _ _=>k b ob q,fun b ob q _ _ _=>⟨ob.slots,k b ob q⟩,fun _ _ _ n _=>n,fun b ob q _=>⟨ob,k b ob q⟩,fun _ _ q=>q,fun _ _ _ q=>q,fun _ ps q=>⟨#[],by rw [q];simp⟩⟩
theorem Un.refl:Un fs ex H H h h:=Un.kept fun _ _ q=>q
theorem Un.laid (k:∀b u,h.get? b=some u->h'.get? b=some u) (hp:h.objs.size<=a) (hn:H a=none):Un fs ex H (upd H a o) h h' where
 keep:=fun b u q _ _ _=>k b u q
 slot:=fun b u q _ _ _=>⟨u.slots,k b u q⟩
 free:=fun b u q n _=>by rw [z02 (Nat.ne_of_lt (Nat.lt_of_lt_of_le (Heap.lt_size q) hp))];exact n
 there:=fun b u q _=>⟨u,k b u q⟩
 tups:=fun b xs q=>by rw [z02 (z0b q hn)];exact q
 frzs:=fun b u xs q=>by rw [z02 (z0b q hn)];exact q
 tbls:=fun b ps q=>⟨#[],by rw [z02 (z0b q hn),q];simp⟩
theorem Un.write (mu:Mut (H x)) (he:e=x\/H e=some (.own x)) (k:∀b u,b≠e->h.get? b=some u->h'.get? b=some u) (heo:∃u,h'.get? e=some u):Un fs ex H (upd H x o) h h':=by
 have hx:∀b,H b=none->b≠x:=fun b n z=>by subst z;rw [n] at mu;exact mu
 have hb:∀b,H b=none->b≠e:=fun b n z=>by
  subst z
  rcases he with r | r
  . exact hx b n r
  . rw [n] at r;cases r
 have hm:∀b u,H b=some u->¬Mut (some u)->b≠x:=fun b u q nm z=>by subst z;rw [q] at mu;exact nm mu
 refine ⟨fun b u q n _ _=>k b u (hb b n) q,fun b u q n _ _=>⟨u.slots,k b u (hb b n) q⟩,fun b u q n _=>by rw [z02 (hx b n)];exact n,fun b u q _=>?_,
  fun b xs q=>by rw [z02 (hm b _ q fun z=>z)];exact q,fun b u xs q=>by rw [z02 (hm b _ q fun z=>z)];exact q,fun b ps q=>⟨#[],by rw [z02 (hm b _ q fun z=>z),q];simp⟩⟩
 by_cases hbe:b=e
 . subst hbe;exact heo
 . exact ⟨u,k b u hbe q⟩
end
noncomputable def trk (h:Heap) (H:Hp):List Addr:=(List.range h.objs.size).filter fun a=>(H a).isSome
noncomputable def zii (h:Heap) (H:Hp):Heap:=hideAll h (trk h H)
theorem zf4 (h:Heap) (H:Hp):(zii h H).objs.size=h.objs.size:=PySem.W.hideAll_size _ _
theorem zik {h:Heap} {H:Hp} {b:Addr} {o:Obj} (e:h.get? b=some o) (n:H b=none):(zii h H).get? b=some o:=
 hideAll_get _ e fun hm=>by
  have q:(H b).isSome=true:=(List.mem_filter.mp hm).2
  rw [n] at q;simp at q
theorem zmt {h:Heap} {H:Hp} {b:Addr} {o:Obj} (e:(zii h H).get? b=some o):h.get? b=some o/\H b=none:=by
 have e':h.get? b=some o:=of_hideAll (trk h H) e
 refine ⟨e',?_⟩
 cases q:H b with
 | none=>rfl
 | some x=>
  have hm:b∈trk h H:=List.mem_filter.mpr ⟨List.mem_range.mpr (Heap.lt_size e'),by simp [q]⟩
  have z:(zii h H).get? b=none:=hideAll_none (trk h H) hm
  rw [z] at e;cases e
noncomputable def z6l (g h:Heap) (L:Addr):List (Addr×Obj):=(List.range h.objs.size).filterMap fun a=>if a=L\/(g.get? a).isSome=true then none else (h.get? a).map fun o=>(a,o)
theorem z2j {g h:Heap} {L a:Addr} {o:Obj} (h1:a≠L) (h2:g.get? a=none) (h3:h.get? a=some o):(a,o)∈z6l g h L:=
 List.mem_filterMap.mpr ⟨a,List.mem_range.mpr (Heap.lt_size h3),by simp [h1,h2,h3]⟩
theorem z3p {g h:Heap} {L:Addr} {p:Addr×Obj} (hp:p∈z6l g h L):p.1≠L/\g.get? p.1=none/\h.get? p.1=some p.2:=by
 obtain ⟨b,_,e⟩:=List.mem_filterMap.mp hp
 split at e
 . cases e
 . rename_i hn
   cases q:h.get? b with
   | none=>rw [q] at e;simp at e
   | some u=>
    rw [q] at e
    simp only [Option.map_some,Option.some.injEq] at e
    subst e
    refine ⟨fun z=>hn (.inl z),?_,q⟩
    show g.get? b=none
    cases r:g.get? b with
    | none=>rfl
    | some v=>exact (hn (.inr (by simp [r]))).elim
noncomputable def rest (g h:Heap) (L d:Addr):List (Addr×Obj):=(z6l g h L).filter fun p=>decide (p.1≠d)
theorem zbl {g h:Heap} {L d:Addr}:∀p∈rest g h L d,p.1≠d:=fun p hp=>of_decide_eq_true (List.mem_filter.mp hp).2
theorem zil {g h:Heap} {L d a:Addr} {o:Obj} (h1:a≠L) (h2:g.get? a=none) (h3:h.get? a=some o) (h4:a≠d):(a,o)∈rest g h L d:=
 List.mem_filter.mpr ⟨z2j h1 h2 h3,decide_eq_true h4⟩
theorem z6c {g h:Heap} {L:Addr}:News g L h (z6l g h L):=fun p hp=>let ⟨a,b,c⟩:=z3p hp;⟨c,a,b⟩
theorem zbm {g h:Heap} {L d:Addr} {o:Obj} (h1:d≠L) (h2:g.get? d=none) (h3:h.get? d=some o):News g L h ((d,o)::rest g h L d):=fun p hp=>by
 rcases List.mem_cons.mp hp with rfl | hp
 . exact ⟨h3,h1,h2⟩
 . exact z6c p (List.mem_filter.mp hp).1
theorem z2y {g h h':Heap} {L d:Addr} {m:Str->Option Value} (k:∀b o,g.get? b=some o->h.get? b=some o) (F:Fr g L h' m) (N:News g L h' (rest g h L d)) :
  ∀b o,b≠L->b≠d->h.get? b=some o->h'.get? b=some o:=fun b o h1 h2 e=>by
 cases q:g.get? b with
 | some u=>
  have:=k b u q
  rw [e] at this;cases this
  exact F.keep b _ q
 | none=>exact (N (b,o) (zil h1 q e h2)).1
structure Mod (K:Frag) (mg:Str->Option Value) (base:Heap):Prop where
 kin:K.In base
 glob:base.Ns mainGlobals mg
 blt:∃mb,base.Ns builtinsNs mb/\∀x:Str,x≠"__name__"->mb x=bootBuiltins x
 nolimit:base.NoLimit
structure Cx where
 prog:Program
 w:World
 K:Frag
 mg:Str->Option Value
 base:Heap
 A:Around
 N:List Str
 s₀:Shared
 H₀:Hp
 env:Env
 outer:List Env
 stack:List Env
 ex:List Addr
 fn:Str->Bool
 calm:Bool
 pn:List (Addr×Obj)
 xe:Value->Shared->Prop
noncomputable def frs (l:List Env):List Addr:=l.filterMap (·.frame)
abbrev Cx.fs (X:Cx):List Addr:=frs X.outer
def Vis (sc:Scope) (x:Str):Prop:=sc.names.lookup x=some .local\/sc.names.lookup x=some .cell\/sc.names.lookup x=some .free
def Loc (sc:Scope) (x:Str):Prop:=sc.names.lookup x=some .local\/sc.names.lookup x=some .cell
def y0w (env:Env) (h:Heap) (m:Str->Option Value) (x:Str) (u:Value):Prop:=
 (env.kindOf x=some .local/\m x=some u)\/((env.kindOf x=some .cell\/env.kindOf x=some .free)/\∃c,env.cells.lookup x=some c/\h.IsCell c (some u))
structure Cx.Ok (X:Cx):Prop where
 mod:Mod X.K X.mg X.base
 kind:X.env.scope.kind=.function
 glob:X.env.globals=mainGlobals
 blt:X.env.builtins=builtinsNs
 above:X.s₀.heap.objs.size<=X.env.locals
 inj:∀x y c,X.env.cells.lookup x=some c->X.env.cells.lookup y=some c->x=y
 has:∀x,(X.env.kindOf x=some .cell\/X.env.kindOf x=some .free)->∃c,X.env.cells.lookup x=some c
 cab:∀x c,X.fn x=true->X.env.cells.lookup x=some c->X.s₀.heap.objs.size<=c
 hd:X.calm=true->X.A.handled=none
 frames:X.A.frames=some X.stack
 stk:X.stack=X.outer\/(X.stack=X.env::X.outer/\X.env.frame=some X.env.locals)
 exf:∀b∈X.ex,b≠X.env.locals/\∀x c,X.env.cells.lookup x=some c->c≠b
 bs:∀b o,X.base.get? b=some o->X.s₀.heap.get? b=some o/\X.H₀ b=none
 bsz:X.base.objs.size<=X.s₀.heap.objs.size
 noex:∀b o,X.base.get? b=some o->b∉X.ex
 exfs:∀b∈X.ex,b∉X.fs
 funs:X.s₀.heap.FunFrames X.base X.outer
 frf:∀b∈X.fs,X.H₀ b=none
structure Inv (X:Cx) (pins:List (Addr×Obj)) (σ:List (Option V)) (H:Hp) (s:Shared):Prop where
 ok:X.Ok
 os:s.os=X.s₀.os
 bare:AllBare s.gens
 base:Un X.fs X.ex X.H₀ H X.s₀.heap s.heap
 loc:∃m,s.heap.Ns X.env.locals m/\∀(i:Nat) (x:Str) (v:V),X.N[i]?=some x->σ[i]?=some (some v)->Vis X.env.scope x->∃u,RelV v u/\y0w X.env s.heap m x u
 cell:∀x c,X.env.cells.lookup x=some c->∃v,s.heap.IsCell c v
 free:H X.env.locals=none
 freeC:∀x c,X.env.cells.lookup x=some c->H c=none
 pin:∀p∈X.pn++pins,s.heap.get? p.1=some p.2/\H p.1=none/\p.1≠X.env.locals/\p.1∉X.fs/\∀v,p.2.data≠.cell v
 hok:HOk X.prog X.w H s.heap
 len:σ.length=X.N.length
section
variable {X:Cx} {pins:List (Addr×Obj)} {σ:List (Option V)} {H H':Hp} {s:Shared} {h':Heap}
theorem Cx.Ok.nofr (ok:X.Ok) {b:Addr} {o:Obj} (e:X.base.get? b=some o):b∉X.fs:=fun hb=>by
 have:=(ok.funs.mem hb).1
 rw [e] at this;cases this
theorem Inv.bs (I:Inv X pins σ H s):∀b o,X.base.get? b=some o->s.heap.get? b=some o/\H b=none:=fun b o e=>
 ⟨I.base.keep b o (I.ok.bs b o e).1 (I.ok.bs b o e).2 (I.ok.nofr e) (I.ok.noex b o e),I.base.free b o (I.ok.bs b o e).1 (I.ok.bs b o e).2 (I.ok.noex b o e)⟩
theorem Inv.bk (I:Inv X pins σ H s):∀b o,X.base.get? b=some o->s.heap.get? b=some o:=fun b o e=>(I.bs b o e).1
theorem Inv.mod (I:Inv X pins σ H s):Mod X.K X.mg X.base:=I.ok.mod
theorem Inv.kIn (I:Inv X pins σ H s):X.K.In s.heap:=I.ok.mod.kin.keeps I.bk
theorem Inv.nolimit (I:Inv X pins σ H s):s.heap.NoLimit:=I.ok.mod.nolimit.keeps I.bk
theorem Inv.lt (I:Inv X pins σ H s):X.env.locals<s.heap.objs.size:=let ⟨_,hn,_⟩:=I.loc;hn.lt
theorem Inv.sz (I:Inv X pins σ H s):X.s₀.heap.objs.size<=s.heap.objs.size:=Nat.le_trans I.ok.above (Nat.le_of_lt I.lt)
theorem Inv.nofs (I:Inv X pins σ H s) {a:Addr} (h:s.heap.objs.size<=a):a∉X.fs:=fun hb=>by
 obtain ⟨_,o,ho,_⟩:=I.ok.funs.mem hb
 exact absurd (Nat.lt_of_lt_of_le (Heap.lt_size ho) (Nat.le_trans I.sz h)) (Nat.lt_irrefl _)
theorem Inv.cne (I:Inv X pins σ H s):∀x c,X.env.cells.lookup x=some c->c≠X.env.locals:=fun x c e z=>by
 obtain ⟨v,o,ho,hd⟩:=I.cell x c e
 obtain ⟨m,⟨o',es,ep,ho',hd',_⟩,_⟩:=I.loc
 rw [z,ho'] at ho;cases ho;rw [hd'] at hd;cases hd
theorem Inv.funs (I:Inv X pins σ H s):s.heap.FunFrames X.base X.outer:=by
 have all:∀(l:List Env),(∀b∈frs l,b∈X.fs)->X.s₀.heap.FunFrames X.base l->s.heap.FunFrames X.base l:=by
  intro l
  induction l with
  | nil=>intro _ _;trivial
  | cons env r ih=>
   intro hs hl
   obtain ⟨hk,⟨L,o,hf,hn,ho,hd⟩,hr⟩:=hl
   have hL:L∈X.fs:=hs L (by unfold frs;rw [List.filterMap_cons,hf];exact List.mem_cons_self)
   obtain ⟨sl,e⟩:=I.base.slot L o ho (I.ok.frf L hL) hL fun z=>I.ok.exfs L z hL
   exact ⟨hk,⟨L,_,hf,hn,e,hd⟩,ih (fun b hb=>hs b (by unfold frs;rw [List.filterMap_cons,hf];exact List.mem_cons_of_mem _ hb)) hr⟩
 exact all X.outer (fun _ hb=>hb) I.ok.funs
theorem Inv.stack (I:Inv X pins σ H s):s.heap.FunFrames X.base X.stack:=by
 rcases I.ok.stk with e | ⟨e,hf⟩
 . rw [e];exact I.funs
 . rw [e]
   obtain ⟨m,hn,_⟩:=I.loc
   refine .cons (by rw [I.ok.kind];decide) hf hn ?_ I.funs
   exact Heap.get?_none_of_le (Nat.le_trans I.ok.bsz I.ok.above)
theorem Inv.stkSub (I:Inv X pins σ H s):∀b∈frs X.stack,b∈X.env.locals::X.fs:=fun b hb=>by
 rcases I.ok.stk with e | ⟨e,hf⟩
 . rw [e] at hb;exact List.mem_cons_of_mem _ hb
 . rw [e] at hb
   unfold frs at hb
   rw [List.filterMap_cons,hf] at hb
   exact hb
theorem Inv.stkFree (I:Inv X pins σ H s):∀b∈frs X.stack,H b=none:=fun b hb=>by
 rcases List.mem_cons.mp (I.stkSub b hb) with e | hb
 . rw [e];exact I.free
 . obtain ⟨_,o,ho,_⟩:=I.ok.funs.mem hb
   exact I.base.free b o ho (I.ok.frf b hb) fun z=>I.ok.exfs b z hb
theorem Inv.step {g':Array GenState} {t':Nat} {d':Drawn} {ch:List Addr} (I:Inv X pins σ H s)
  (hch:∀b∈ch,(b∈X.ex\/X.s₀.heap.objs.size<=b)/\b≠X.env.locals/\(∀x c,X.env.cells.lookup x=some c->c≠b)/\∀p∈X.pn++pins,p.1≠b)
  (keep:∀b o,b≠X.env.locals->b∉X.fs->b∉ch->s.heap.get? b=some o->H b=none->h'.get? b=some o)
  (slot:∀b o,b≠X.env.locals->b∈X.fs->b∉ch->s.heap.get? b=some o->H b=none->∃sl,h'.get? b=some { o with slots:=sl }) (free:∀b o,b∉ch->s.heap.get? b=some o->H b=none->H' b=none)
  (there:∀b o,b∉ch->s.heap.get? b=some o->∃o',h'.get? b=some o')
  (tups:∀b xs,H b=some (.tup xs)->H' b=some (.tup xs)) (frzs:∀b o u,H b=some (.frz o u)->H' b=some (.frz o u)) (tbls:∀b ps,H b=some (.tbl ps)->∃more,H' b=some (.tbl (ps++more)))
  (ns:∀m,s.heap.Ns X.env.locals m->h'.Ns X.env.locals m) (hok:HOk X.prog X.w H' h') (hg:AllBare g') :
  Inv X pins σ H' { s with heap:=h',gens:=g',drawn:=d',toks:=t' }:=by
 have neL:∀b o,X.s₀.heap.get? b=some o->b≠X.env.locals:=fun b o e=>Nat.ne_of_lt (Nat.lt_of_lt_of_le (Heap.lt_size e) I.ok.above)
 have neC:∀b o,X.s₀.heap.get? b=some o->b∉X.ex->b∉ch:=fun b o e hx hb=>by
  rcases (hch b hb).1 with z | z
  . exact hx z
  . exact absurd (Nat.lt_of_lt_of_le (Heap.lt_size e) z) (Nat.lt_irrefl _)
 have cellK:∀x c,X.env.cells.lookup x=some c->∀v,s.heap.IsCell c v->h'.IsCell c v:=fun x c e v ⟨o,ho,hd⟩=>by
  have nch:c∉ch:=fun z=>(hch c z).2.2.1 x c e rfl
  by_cases hc:c∈X.fs
  . obtain ⟨sl,q⟩:=slot c o (I.cne x c e) hc nch ho (I.freeC x c e)
    exact ⟨_,q,hd⟩
  . exact ⟨o,keep c o (I.cne x c e) hc nch ho (I.freeC x c e),hd⟩
 refine ⟨I.ok,I.os,hg,⟨fun b o e n hb hx=>?_,fun b o e n hb hx=>?_,fun b o e n hx=>?_,fun b o e hx=>?_,fun b xs e=>tups b xs (I.base.tups b xs e),fun b o xs e=>frzs b o xs (I.base.frzs b o xs e),fun b ps e=>?_⟩,?_,fun x c e=>?_,?_,fun x c e=>?_,fun p hp=>?_,hok,I.len⟩
 . exact keep b o (neL b o e) hb (neC b o e hx) (I.base.keep b o e n hb hx) (I.base.free b o e n hx)
 . obtain ⟨sl,e1⟩:=I.base.slot b o e n hb hx
   obtain ⟨sl',e2⟩:=slot b _ (neL b o e) hb (neC b o e hx) e1 (I.base.free b o e n hx)
   exact ⟨sl',e2⟩
 . obtain ⟨o',e1⟩:=I.base.there b o e hx
   exact free b o' (neC b o e hx) e1 (I.base.free b o e n hx)
 . obtain ⟨o',e1⟩:=I.base.there b o e hx
   exact there b o' (neC b o e hx) e1
 . obtain ⟨m1,e1⟩:=I.base.tbls b ps e
   obtain ⟨m2,e2⟩:=tbls b _ e1
   exact ⟨m1++m2,by rw [e2,Array.append_assoc]⟩
 . obtain ⟨m,hn,hl⟩:=I.loc
   refine ⟨m,ns m hn,fun i x v e1 e2 e3=>?_⟩
   obtain ⟨u,r,l⟩:=hl i x v e1 e2 e3
   refine ⟨u,r,?_⟩
   rcases l with l | ⟨k,c,e,z⟩
   . exact .inl l
   . exact .inr ⟨k,c,e,cellK x c e _ z⟩
 . obtain ⟨v,z⟩:=I.cell x c e
   exact ⟨v,cellK x c e v z⟩
 . obtain ⟨m,⟨o,_,_,ho,_⟩,_⟩:=I.loc
   exact free _ o (fun z=>(hch _ z).2.1 rfl) ho I.free
 . obtain ⟨v,o,ho,hd⟩:=I.cell x c e
   exact free c o (fun z=>(hch c z).2.2.1 x c e rfl) ho (I.freeC x c e)
 . obtain ⟨e,n,ne,nf,d⟩:=I.pin p hp
   have nch:p.1∉ch:=fun z=>(hch p.1 z).2.2.2 p hp rfl
   exact ⟨keep p.1 p.2 ne nf nch e n,free p.1 p.2 nch e n,ne,nf,d⟩
theorem Inv.un {t':Nat} (I:Inv X pins σ H s) (u:Un X.fs [] H H' s.heap h') (hok:HOk X.prog X.w H' h'):Inv X pins σ H' { s with heap:=h',toks:=t' }:=by
 obtain ⟨m,⟨o,es,ep,ho,r⟩,_⟩:=id I.loc
 obtain ⟨sl,hL⟩:=u.any ho I.free (by simp)
 exact I.step (g':=s.gens) (d':=s.drawn) (ch:=[]) (fun _ z=>nomatch z) (fun b o _ hb _ e n=>u.keep b o e n hb (by simp)) (fun b o _ hb _ e n=>u.slot b o e n hb (by simp)) (fun b o _ e n=>u.free b o e n (by simp)) (fun b o _ e=>u.there b o e (by simp)) u.tups u.frzs u.tbls (fun m' hm=>by
  obtain ⟨o',es',ep',ho',r'⟩:=hm
  rw [ho] at ho';cases ho'
  exact ⟨_,es',ep',hL,r'⟩) hok I.bare
theorem Inv.call {g':Array GenState} {t':Nat} {d':Drawn} {ch:List Addr} (I:Inv X pins σ H s) (u:Un (frs X.stack) ch H H' s.heap h') (hok:HOk X.prog X.w H' h') (hg:AllBare g')
  (hch:∀b∈ch,(b∈X.ex\/X.s₀.heap.objs.size<=b)/\b≠X.env.locals/\(∀x c,X.env.cells.lookup x=some c->c≠b)/\∀p∈X.pn++pins,p.1≠b) :
  Inv X pins σ H' { s with heap:=h',gens:=g',drawn:=d',toks:=t' }:=by
 obtain ⟨m,⟨o,es,ep,ho,r⟩,_⟩:=id I.loc
 obtain ⟨sl,hL⟩:=u.any ho I.free fun z=>(hch _ z).2.1 rfl
 exact I.step (ch:=ch) hch (fun b o hL hb hc e n=>u.keep b o e n (fun z=>(List.mem_cons.mp (I.stkSub b z)).elim hL hb) hc) (fun b o _ _ hc e n=>u.any e n hc) (fun b o hc e n=>u.free b o e n hc) (fun b o hc e=>u.there b o e hc) u.tups u.frzs u.tbls (fun m' hm=>by
  obtain ⟨o',es',ep',ho',r'⟩:=hm
  rw [ho] at ho';cases ho'
  exact ⟨_,es',ep',hL,r'⟩) hok hg
theorem Inv.turned {t':Nat} {it:Addr} (I:Inv X pins σ H s) (k:∀b o,b≠it->s.heap.get? b=some o->h'.get? b=some o) (hn:H it=none) (hL:it≠X.env.locals)
  (h1:it∈X.ex\/X.s₀.heap.objs.size<=it) (h2:∀x c,X.env.cells.lookup x=some c->c≠it) (h3:∀p∈X.pn++pins,p.1≠it):Inv X pins σ H { s with heap:=h',toks:=t' }:=by
 have nit:∀b u,H b=some u->b≠it:=fun b u e z=>by rw [z,hn] at e;cases e
 refine I.step (g':=s.gens) (d':=s.drawn) (ch:=[it]) (fun b hb=>?_) (fun b o _ _ hc e _=>k b o (fun z=>hc (by simp [z])) e) (fun b o _ _ hc e _=>⟨o.slots,k b o (fun z=>hc (by simp [z])) e⟩) (fun _ _ _ _ n=>n)
  (fun b o hc e=>⟨o,k b o (fun z=>hc (by simp [z])) e⟩) (fun _ _ e=>e) (fun _ _ _ e=>e) (fun b ps e=>⟨#[],by rw [e];simp⟩) (fun m hm=>?_) (fun b u e=>?_) I.bare
 . have e:b=it:=by simpa using hb
   subst e
   exact ⟨h1,hL,h2,h3⟩
 . obtain ⟨o,es,ep,ho,r⟩:=hm
   exact ⟨o,es,ep,k _ o (Ne.symm hL) ho,r⟩
 . refine (I.hok b u e).stay (fun c v hc q=>k c v ?_ q) (fun _ q=>q) fun _ _ q=>q
   rcases hc with z | z
   . rw [z];exact nit b u e
   . exact nit c _ z
theorem Inv.tok (I:Inv X pins σ H s) (t:Nat):Inv X pins σ H { s with toks:=t }:=I.un (h':=s.heap) (t':=t) Un.refl I.hok
theorem Inv.kept {t':Nat} (I:Inv X pins σ H s) (k:∀b u,s.heap.get? b=some u->h'.get? b=some u):Inv X pins σ H { s with heap:=h',toks:=t' }:=I.un (Un.kept k) (I.hok.kept k)
theorem Inv.laid {a:Addr} {o:HO} {t':Nat} (I:Inv X pins σ H s) (k:∀b u,s.heap.get? b=some u->h'.get? b=some u) (hp:s.heap.objs.size<=a) (new:ObjOk X.prog X.w (upd H a o) h' a o) :
 Inv X pins σ (upd H a o) { s with heap:=h',toks:=t' }:=I.un (Un.laid k hp (I.hok.fresh hp)) (I.hok.laid k hp new)
theorem Inv.write {x e:Addr} {o:HO} {t':Nat} (I:Inv X pins σ H s) (mu:Mut (H x)) (he:e=x\/H e=some (.own x)) (k:∀b u,b≠e->s.heap.get? b=some u->h'.get? b=some u) (heo:∃u,h'.get? e=some u)
 (new:ObjOk X.prog X.w (upd H x o) h' x o):Inv X pins σ (upd H x o) { s with heap:=h',toks:=t' }:=I.un (Un.write mu he k heo) (I.hok.write mu he k heo new)
theorem Inv.pins_of {pins':List (Addr×Obj)} (I:Inv X pins σ H s) (h:∀p∈pins',s.heap.get? p.1=some p.2/\H p.1=none/\p.1≠X.env.locals/\p.1∉X.fs/\∀v,p.2.data≠.cell v):Inv X pins' σ H s:=
 ⟨I.ok,I.os,I.bare,I.base,I.loc,I.cell,I.free,I.freeC,fun p hp=>(List.mem_append.mp hp).elim (fun z=>I.pin p (List.mem_append_left _ z)) (h p),I.hok,I.len⟩
theorem z8i {N:List Str} (hN:N.Nodup) {i j:Nat} {x:Str} (a:N[i]?=some x) (b:N[j]?=some x):i=j:=by
 obtain ⟨h1,e1⟩:=List.getElem?_eq_some_iff.mp a
 obtain ⟨h2,e2⟩:=List.getElem?_eq_some_iff.mp b
 exact (List.getElem_inj hN).mp (e1.trans e2.symm)
theorem z9y {M:Model} {A:Around} {E:Value->Shared->Prop} {i:Nat} {x:Str} {v:V} {u:Value} {Q:Unit->Shared->Prop} (I:Inv X pins σ H s) (hN:X.N.Nodup) (hi:X.N[i]?=some x) (hx:Loc X.env.scope x) (r:RelV v u)
  (h:∀s',Inv X pins (σ.set i (some v)) H s'->(∃a,Heap.SameBut a s.heap s'.heap/\(a=X.env.locals\/X.env.cells.lookup x=some a))->Q () s') (hf:X.fn x=true\/X.env.scope.names.lookup x=some .local:=by first | exact .inl rfl | exact .inr rfl | assumption):wpAny M A (storeName X.env x u) Q E s:=by
 obtain ⟨m,hn,hl⟩:=id I.loc
 have hcls:(X.env.scope.kind==.class||(X.env.scope.kind==.module&&X.env.locals != X.env.globals))=false:=by rw [I.ok.kind];rfl
 have hiσ:i<σ.length:=by rw [I.len];exact (List.getElem?_eq_some_iff.mp hi).1
 have cne:=I.cne
 have tracked:∀{a:Addr} {h':Heap},(∃o,s.heap.get? a=some o/\H a=none)->Heap.SameBut a s.heap h'->HOk X.prog X.w H h':=fun {a h'} ha hs b ob e=>by
  obtain ⟨_,_,hfree⟩:=ha
  refine (I.hok b ob e).stay (fun c w' hc q=>(hs.2 c ?_).trans q) (fun _ q=>q) fun _ _ q=>q
  rintro rfl
  rcases hc with rfl | hc
  . rw [hfree] at e;cases e
  . rw [hfree] at hc;cases hc
 rcases hx with hk | hk
 . refine wpAny_storeName_local hk hn (fun h' hn' hs=>?_) hcls
   obtain ⟨oL,_,_,hoL,_⟩:=id hn
   refine h _ ⟨I.ok,I.os,I.bare,⟨fun b o e n hb hx=>?_,fun b o e n hb hx=>?_,I.base.free,fun b o e hx=>?_,I.base.tups,I.base.frzs,I.base.tbls⟩,⟨_,hn',fun j y v' e1 e2 e3=>?_⟩,fun y c e=>?_,I.free,I.freeC,fun p hp=>?_,tracked ⟨oL,hoL,I.free⟩ hs,by simpa using I.len⟩ ⟨_,hs,.inl rfl⟩
   . exact (hs.2 b (Nat.ne_of_lt (Nat.lt_of_lt_of_le (Heap.lt_size e) I.ok.above))).trans (I.base.keep b o e n hb hx)
   . obtain ⟨sl,e1⟩:=I.base.slot b o e n hb hx
     exact ⟨sl,(hs.2 b (Nat.ne_of_lt (Nat.lt_of_lt_of_le (Heap.lt_size e) I.ok.above))).trans e1⟩
   . obtain ⟨o',e1⟩:=I.base.there b o e hx
     exact ⟨o',(hs.2 b (Nat.ne_of_lt (Nat.lt_of_lt_of_le (Heap.lt_size e) I.ok.above))).trans e1⟩
   . by_cases hj:j=i
     . subst hj
       rw [hi] at e1;cases e1
       rw [List.getElem?_set_self hiσ] at e2
       cases e2
       exact ⟨u,r,.inl ⟨hk,by simp⟩⟩
     . rw [List.getElem?_set_ne (Ne.symm hj)] at e2
       obtain ⟨u',r',q⟩:=hl j y v' e1 e2 e3
       refine ⟨u',r',?_⟩
       rcases q with ⟨k,e⟩ | ⟨k,c,e,z⟩
       . refine .inl ⟨k,?_⟩
         have:y≠x:=fun e=>hj (z8i hN e1 (e ▸ hi))
         simp [this,e]
       . exact .inr ⟨k,c,e,z.sameBut hs (cne y c e)⟩
   . obtain ⟨w',z⟩:=I.cell y c e
     exact ⟨w',z.sameBut hs (cne y c e)⟩
   . obtain ⟨e,n,ne,nf,d⟩:=I.pin p hp
     exact ⟨(hs.2 p.1 ne).trans e,n,ne,nf,d⟩
 . have hfn:X.fn x=true:=by
    rcases hf with z | z
    . exact z
    . rw [z] at hk;cases hk
   obtain ⟨c,hc⟩:=I.ok.has x (.inl hk)
   obtain ⟨w',z⟩:=I.cell x c hc
   refine wpAny_storeName_cell I.ok.kind hk hc z (fun h' hc' hs=>?_)
   obtain ⟨oc,hoc,hocd⟩:=id z
   refine h { s with heap:=h' } ⟨I.ok,I.os,I.bare,⟨fun b o e n hb hx=>?_,fun b o e n hb hx=>?_,I.base.free,fun b o e hx=>?_,I.base.tups,I.base.frzs,I.base.tbls⟩,⟨m,hn.sameBut hs (Ne.symm (cne x c hc)),fun j y v' e1 e2 e3=>?_⟩,fun y c' e=>?_,I.free,I.freeC,fun p hp=>?_,tracked ⟨oc,hoc,I.freeC x c hc⟩ hs,by simpa using I.len⟩ ⟨c,hs,.inr hc⟩
   . exact (hs.2 b (Nat.ne_of_lt (Nat.lt_of_lt_of_le (Heap.lt_size e) (I.ok.cab x c hfn hc)))).trans (I.base.keep b o e n hb hx)
   . obtain ⟨sl,e1⟩:=I.base.slot b o e n hb hx
     exact ⟨sl,(hs.2 b (Nat.ne_of_lt (Nat.lt_of_lt_of_le (Heap.lt_size e) (I.ok.cab x c hfn hc)))).trans e1⟩
   . obtain ⟨o',e1⟩:=I.base.there b o e hx
     exact ⟨o',(hs.2 b (Nat.ne_of_lt (Nat.lt_of_lt_of_le (Heap.lt_size e) (I.ok.cab x c hfn hc)))).trans e1⟩
   . by_cases hj:j=i
     . subst hj
       rw [hi] at e1;cases e1
       rw [List.getElem?_set_self hiσ] at e2
       cases e2
       exact ⟨u,r,.inr ⟨.inl hk,c,hc,hc'⟩⟩
     . rw [List.getElem?_set_ne (Ne.symm hj)] at e2
       obtain ⟨u',r',q⟩:=hl j y v' e1 e2 e3
       refine ⟨u',r',?_⟩
       rcases q with q | ⟨k,c',e,z'⟩
       . exact .inl q
       . refine .inr ⟨k,c',e,z'.sameBut hs ?_⟩
         rintro rfl
         exact hj (z8i hN e1 (I.ok.inj _ _ _ e hc ▸ hi))
   . by_cases hcc:c'=c
     . subst hcc;exact ⟨_,hc'⟩
     . obtain ⟨w2,z2⟩:=I.cell y c' e
       exact ⟨w2,z2.sameBut hs hcc⟩
   . obtain ⟨e,n,ne,nf,d⟩:=I.pin p hp
     refine ⟨(hs.2 p.1 ?_).trans e,n,ne,nf,d⟩
     intro q
     rw [q,hoc] at e
     have q':oc=p.2:=Option.some.inj e
     exact d w' (by rw [<-q'];exact hocd)
theorem z8j {M:Model} {A:Around} {E:Value->Shared->Prop} {i:Nat} {x:Str} {v:V} {u:Value} {Q:Unit->Shared->Prop} (I:Inv X pins σ H s) (hN:X.N.Nodup) (hi:X.N[i]?=some x) (hx:Loc X.env.scope x) (r:RelV v u)
  (h:∀s',Inv X pins (σ.set i (some v)) H s'->Q () s') (hf:X.fn x=true\/X.env.scope.names.lookup x=some .local:=by first | exact .inl rfl | exact .inr rfl | assumption):wpAny M A (storeName X.env x u) Q E s:=
 z9y I hN hi hx r (fun s' I' _=>h s' I') hf
theorem Inv.call' {s':Shared} {ch:List Addr} (I:Inv X pins σ H s) (ho:s'.os=s.os) (u:Un (frs X.stack) ch H H' s.heap s'.heap) (hok:HOk X.prog X.w H' s'.heap) (hg:AllBare s'.gens)
  (hch:∀b∈ch,(b∈X.ex\/X.s₀.heap.objs.size<=b)/\b≠X.env.locals/\(∀x c,X.env.cells.lookup x=some c->c≠b)/\∀p∈X.pn++pins,p.1≠b):Inv X pins σ H' s':=by
 obtain ⟨h',g',d',t',o'⟩:=s'
 have e:o'=s.os:=ho
 subst e
 exact I.call (g':=g') (t':=t') (d':=d') u hok hg hch
end
abbrev XK:=Value->Option Addr->Hp->Prop
abbrev St:=List (Option V)
abbrev VK:=V->Hp->Prop
abbrev TE:=St->Hp->VK->Prop
abbrev TT:=St->Hp->(Bool->Hp->Prop)->Prop
abbrev TA:=St->Hp->(List V->Hp->Prop)->Prop
structure Ends where
 nx:St->Hp->Prop
 rt:VK
 bk:St->Hp->Prop:=fun _ _=>False
 ct:St->Hp->Prop:=fun _ _=>False
abbrev TS:=Ends->St->Hp->Prop
def EP (X:Cx) (pins:List (Addr×Obj)) (σ:St) (Q:VK) (u:Value) (s':Shared):Prop:=∃v H',Inv X pins σ H' s'/\RelV v u/\Q v H'
def TP (X:Cx) (pins:List (Addr×Obj)) (σ:St) (Q:Bool->Hp->Prop) (b:Bool) (s':Shared):Prop:=∃H',Inv X pins σ H' s'/\Q b H'
def AP (X:Cx) (pins:List (Addr×Obj)) (σ:St) (Q:List V->Hp->Prop) (us:List Value) (s':Shared):Prop:=∃vs H',Inv X pins σ H' s'/\Vals vs us/\Q vs H'
def SP (X:Cx) (pins:List (Addr×Obj)) (D:Ends) (f:Flow) (s':Shared):Prop:=
 match f with
 | .next=>∃σ' H',Inv X pins σ' H' s'/\D.nx σ' H'
 | .brk=>∃σ' H',Inv X pins σ' H' s'/\D.bk σ' H'
 | .cont=>∃σ' H',Inv X pins σ' H' s'/\D.ct σ' H'
 | .ret u=>∃v σ' H',Inv X pins σ' H' s'/\RelV v u/\D.rt v H'
def PE (X:Cx) (e:Expr) (t:TE):Prop:=
 ∀(pins:List (Addr×Obj)) (s:Shared) (σ:St) (H:Hp) (Q:VK),Inv X pins σ H s->t σ H Q->wpAny (model X.prog X.w) X.A (eval e X.env) (EP X pins σ Q) X.xe s
def PT (X:Cx) (e:Expr) (t:TT):Prop:=
 ∀(pins:List (Addr×Obj)) (s:Shared) (σ:St) (H:Hp) (Q:Bool->Hp->Prop),Inv X pins σ H s->t σ H Q->wpAny (model X.prog X.w) X.A (isTrue e X.env (eval e X.env)) (TP X pins σ Q) X.xe s
def PW (X:Cx) (e:Expr) (t:TT):Prop:=
 ∀(whole:Sem Value) (pins:List (Addr×Obj)) (s:Shared) (σ:St) (H:Hp) (Q:Bool->Hp->Prop),Inv X pins σ H s->t σ H Q->wpAny (model X.prog X.w) X.A (isTrue e X.env whole) (TP X pins σ Q) X.xe s
theorem PW.pt {X:Cx} {e:Expr} {t:TT} (h:PW X e t):PT X e t:=h _
def PA (X:Cx) (es:List Expr) (t:TA):Prop:=
 ∀(pos:Pos) (pins:List (Addr×Obj)) (s:Shared) (σ:St) (H:Hp) (Q:List V->Hp->Prop),Inv X pins σ H s->t σ H Q->wpAny (model X.prog X.w) X.A (spliced (backTo pos (starEach es X.env))) (AP X pins σ Q) X.xe s
def PS (X:Cx) (st:Stmt) (t:TS):Prop:=
 ∀(pins:List (Addr×Obj)) (s:Shared) (σ:St) (H:Hp) (D:Ends),Inv X pins σ H s->t D σ H->wpAny (model X.prog X.w) X.A (exec st X.env) (SP X pins D) X.xe s
def PSs (X:Cx) (st:List Stmt) (t:TS):Prop:=
 ∀(pins:List (Addr×Obj)) (s:Shared) (σ:St) (H:Hp) (D:Ends),Inv X pins σ H s->t D σ H->wpAny (model X.prog X.w) X.A (execs st X.env) (SP X pins D) X.xe s
theorem thn {α:Type} {t:Sem α} {Q Q':α->Shared->Prop} {M:Model} {A:Around} {E:Value->Shared->Prop} {s:Shared} (h:wpAny M A t Q E s) (hQ:∀a s,Q a s->Q' a s):wpAny M A t Q' E s:=wpAny_mono h hQ fun _ _ x=>x
section
variable {X:Cx}
theorem bin {a b:Expr} {ta tb:TE} (ha:PE X a ta) (hb:PE X b tb) {pins:List (Addr×Obj)} {s:Shared} {σ:St} {H:Hp} {R:V->V->Hp->Prop} (I:Inv X pins σ H s) (h:ta σ H fun x H1=>tb σ H1 fun y H2=>R x y H2)
  {α:Type} {Q:α->Shared->Prop} {f:Value->Value->Sem α}
  (hf:∀v u s2 x y H2,Inv X pins σ H2 s2->RelV x v->RelV y u->R x y H2->wpAny (model X.prog X.w) X.A (f v u) Q X.xe s2) :
  wpAny (model X.prog X.w) X.A (eval a X.env) (fun v s₁=>wpAny (model X.prog X.w) X.A (eval b X.env) (fun u s₂=>wpAny (model X.prog X.w) X.A (f v u) Q X.xe s₂) X.xe s₁) X.xe s:=by
 refine thn (ha pins s σ H _ I h) fun v s1 ⟨x,H1,I1,r1,q1⟩=>?_
 refine thn (hb pins s1 σ H1 _ I1 q1) fun u s2 ⟨y,H2,I2,r2,q2⟩=>?_
 exact hf v u s2 x y H2 I2 r1 r2 q2
noncomputable def zzr (i:Nat):TE:=fun σ H Q=>∃v,σ[i]?=some (some v)/\Q v H
noncomputable def tC (v:V):TE:=fun _ H Q=>Q v H
theorem zks {i:Nat} {x:Str} {pos:Pos} (hN:X.N[i]?=some x) (hv:Vis X.env.scope x) (hd:(x==("__debug__":Str))=false:=by decide) (hcd:(x==("__classdict__":Str))=false:=by decide):PE X (.Name x pos) (zzr i):=by
 intro pins s σ H Q I h
 obtain ⟨v,e,h⟩:=h
 obtain ⟨m,hn,hl⟩:=I.loc
 obtain ⟨u,r,l⟩:=hl i x v hN e hv
 have fin:EP X pins σ Q u s:=⟨v,H,I,r,h⟩
 rcases l with ⟨hk,hm⟩ | ⟨hk,c,hc,hcell⟩
 . exact wpAny_Name (wpAny_loadName_local I.ok.kind hk hn hm fin) hd
 . rcases hk with hk | hk
   . exact wpAny_Name (wpAny_loadName_cell I.ok.kind hk hc hcell fin) hd
   . exact wpAny_Name (wpAny_loadName_free I.ok.kind hk hc hcell fin hcd) hd
theorem pe_int {i j pos}:PE X (.Constant (.int i) j pos) (tC (.int i)):=fun _ _ _ H _ I h=>wpAny_Constant_int ⟨.int i,H,I.tok _,⟨_,rfl⟩,h⟩
theorem pe_bl {b j pos}:PE X (.Constant (.bool b) j pos) (tC (.bl b)):=fun _ _ _ H _ I h=>Constant_bool ⟨.bl b,H,I,rfl,h⟩
theorem pe_non {j pos}:PE X (.Constant .none j pos) (tC .non):=fun _ _ _ H _ I h=>Constant_none ⟨.non,H,I,rfl,h⟩
theorem pe_str {x j pos}:PE X (.Constant (.str x) j pos) (tC (.str x)):=fun _ _ _ H _ I h=>Calls.Constant_str ⟨.str x,H,I.tok _,⟨_,rfl⟩,h⟩
def Gl (X:Cx) (x:Str):Prop:=X.env.kindOf x=some .globalImplicit
theorem z58 {E:Value->Shared->Prop} {pins:List (Addr×Obj)} {s:Shared} {σ:St} {H:Hp} {x:Str} {u:Value} {pos:Pos} {Q:Value->Shared->Prop} (I:Inv X pins σ H s) (hg:Gl X x) (hm:X.mg x=some u) (h:Q u s)
  (hd:(x==("__debug__":Str))=false:=by decide):wpAny (model X.prog X.w) X.A (eval (.Name x pos) X.env) Q E s:=
 Calls.Name_function_global I.ok.kind hg (Calls.loadGlobal_global (by rw [I.ok.glob];exact I.mod.glob.keeps I.bk) hm h) hd
theorem z4a {E:Value->Shared->Prop} {pins:List (Addr×Obj)} {s:Shared} {σ:St} {H:Hp} {x:Str} {u:Value} {pos:Pos} {Q:Value->Shared->Prop} (I:Inv X pins σ H s) (hg:Gl X x) (hm:X.mg x=none) (hv:bootBuiltins x=some u) (h:Q u s)
  (hn:x≠"__name__":=by decide) (hd:(x==("__debug__":Str))=false:=by decide):wpAny (model X.prog X.w) X.A (eval (.Name x pos) X.env) Q E s:=by
 obtain ⟨mb,h1,h2⟩:=I.mod.blt
 exact Calls.Name_function_global I.ok.kind hg (Calls.loadGlobal_builtin (by rw [I.ok.glob];exact I.mod.glob.keeps I.bk) hm (by rw [I.ok.blt];exact h1.keeps I.bk) ((h2 x hn).trans hv) h) hd
theorem z1i {x:Str} {v:V} {u:Value} {pos:Pos} (hg:Gl X x) (hm:X.mg x=some u) (r:RelV v u) (hd:(x==("__debug__":Str))=false:=by decide):PE X (.Name x pos) (tC v):=
 fun _ _ _ H _ I h=>z58 I hg hm ⟨v,H,I,r,h⟩ hd
theorem zbn {x:Str} {v:V} {u:Value} {pos:Pos} (hg:Gl X x) (hm:X.mg x=none) (hv:bootBuiltins x=some u) (r:RelV v u) (hn:x≠"__name__":=by decide) (hd:(x==("__debug__":Str))=false:=by decide):PE X (.Name x pos) (tC v):=
 fun _ _ _ H _ I h=>z4a I hg hm hv ⟨v,H,I,r,h⟩ hn hd
variable {a b:Expr} {pos:Pos}
variable {tA tB':TT} {rest:List Expr}
noncomputable def zzs (t u:TT):TT:=fun σ H Q=>t σ H fun c H1=>if c=true then u σ H1 Q else Q false H1
noncomputable def tOr (t u:TT):TT:=fun σ H Q=>t σ H fun c H1=>if c=true then Q true H1 else u σ H1 Q
noncomputable def zzt (t:TT):TT:=fun σ H Q=>t σ H fun c H1=>Q (!c) H1
theorem zmu (ha:PT X a tA):PW X (.BoolOp .And [a] pos) tA:=by
 intro wh pins s σ H Q I h
 refine isTrue_and (thn (ha pins s σ H Q I h) fun c s1 e=>?_)
 cases c with
 | true=>exact isTrue_and_nil e
 | false=>exact e
theorem zr0 (ha:PT X a tA):PW X (.BoolOp .Or [a] pos) tA:=by
 intro wh pins s σ H Q I h
 refine isTrue_or (thn (ha pins s σ H Q I h) fun c s1 e=>?_)
 cases c with
 | false=>exact isTrue_or_nil e
 | true=>exact e
theorem zr1 (ha:PT X a tA) (hb:PW X (.BoolOp .And (b::rest) pos) tB'):PW X (.BoolOp .And (a::b::rest) pos) (zzs tA tB'):=by
 intro wh pins s σ H Q I h
 refine isTrue_and (thn (ha pins s σ H _ I h) fun c s1 ⟨H1,I1,q1⟩=>?_)
 cases c with
 | true=>exact hb wh pins s1 σ H1 Q I1 q1
 | false=>exact ⟨H1,I1,q1⟩
theorem zwl (ha:PT X a tA) (hb:PW X (.BoolOp .Or (b::rest) pos) tB'):PW X (.BoolOp .Or (a::b::rest) pos) (tOr tA tB'):=by
 intro wh pins s σ H Q I h
 refine isTrue_or (thn (ha pins s σ H _ I h) fun c s1 ⟨H1,I1,q1⟩=>?_)
 cases c with
 | true=>exact ⟨H1,I1,q1⟩
 | false=>exact hb wh pins s1 σ H1 Q I1 q1
theorem zr2 (ha:PT X a tA):PT X (.UnaryOp .Not a pos) (zzt tA):=by
 intro pins s σ H Q I h
 exact isTrue_not (ha pins s σ H (fun c H1=>Q (!c) H1) I h)
theorem zr3 {op} {t:TE} (h:PE X a t):PE X (.BoolOp op [a] pos) t:=fun pins s σ H Q I hw=>BoolOp_one (h pins s σ H Q I hw)
end
def SqL (K:Frag) (H:Hp) (a:Addr) (xs:List V):Prop:=
 Rd H a (.lst xs) \/
  ∃(o:Obj) (its:Array Value) (n:Nat),K.lookup a=some o/\o.cls=.type "list"/\o.dict=none/\o.data=.seq its n/\its.size<=sizeLine/\Vals xs its.toList
def SqT (K:Frag) (H:Hp) (a:Addr) (xs:List V):Prop:=
 Rd H a (.tup xs) \/
  ∃(o:Obj) (its:Array Value) (n:Nat),K.lookup a=some o/\o.cls=.type "tuple"/\o.data=.seq its n/\its.size<=sizeLine/\Vals xs its.toList
noncomputable def zzu:Value->Option V
 | .none=>some .non
 | .bool b=>some (.bl b)
 | .int i _=>some (.int i)
 | .str x _=>some (.str x)
 | .bytes b _=>some (.byt b)
 | .float b _=>some (.flt b)
 | .ref a=>some (.ref a)
 | .type n=>some (.ty n)
 | _=>none
theorem RelV.abs {x:V} {u:Value} (r:RelV x u):zzu u=some x:=by
 cases x with
 | non=>cases r;rfl
 | bl _=>cases r;rfl
 | int _=>obtain ⟨t,rfl⟩:=r;rfl
 | str _=>obtain ⟨t,rfl⟩:=r;rfl
 | byt _=>obtain ⟨t,rfl⟩:=r;rfl
 | flt _=>obtain ⟨t,rfl⟩:=r;rfl
 | ref _=>cases r;rfl
 | ty _=>cases r;rfl
theorem RelV.inj {x y:V} {u:Value} (r:RelV x u) (q:RelV y u):x=y:=Option.some.inj (r.abs.symm.trans q.abs)
theorem Vals.inj:∀{xs ys:List V} {us:List Value},Vals xs us->Vals ys us->xs=ys
 | _,_,_,.nil,.nil=>rfl
 | _,_,_,.cons r t,.cons r' t'=>by rw [r.inj r',Vals.inj t t']
section
variable {X:Cx} {pins:List (Addr×Obj)} {σ:St} {H:Hp} {s:Shared} {a:Addr} {xs ys:List V}
theorem SqL.of {K:Frag} (h:H a=some (.lst xs)):SqL K H a xs:=.inl (.inl h)
theorem SqT.of {K:Frag} (h:H a=some (.tup xs)):SqT K H a xs:=.inl (.inl h)
theorem Inv.list (I:Inv X pins σ H s) (h:SqL X.K H a xs):∃its:List Value,Vals xs its/\PlainL s.heap a its.toArray/\xs.length<=sizeLine:=by
 rcases h with h | ⟨o,its,n,hk,hc,hd,hs,hz,r⟩
 . obtain ⟨z,its,n,r,e⟩:=h.ok I.hok
   exact ⟨its,r,⟨_,n,e,rfl,rfl,rfl⟩,z⟩
 . refine ⟨its.toList,r,⟨o,n,I.kIn a o hk,hc,hd,by simpa using hs⟩,?_⟩
   have e:=r.length
   simp only [Array.length_toList] at e
   omega
theorem Inv.tuple (I:Inv X pins σ H s) (h:SqT X.K H a xs):∃its:List Value,Vals xs its/\IsTup s.heap a its.toArray/\xs.length<=sizeLine:=by
 rcases h with h | ⟨o,its,n,hk,hc,hs,hz,r⟩
 . obtain ⟨z,its,r,p⟩:=h.ok I.hok
   exact ⟨its,r,p,z⟩
 . refine ⟨its.toList,r,⟨o,I.kIn a o hk,hc,n,by simpa using hs⟩,?_⟩
   have e:=r.length
   simp only [Array.length_toList] at e
   omega
theorem Inv.list_inj (I:Inv X pins σ H s) (h:SqL X.K H a xs) (h':SqL X.K H a ys):xs=ys:=by
 obtain ⟨its,r,⟨o,n,e,_,_,d⟩,_⟩:=I.list h
 obtain ⟨its',r',⟨o',n',e',_,_,d'⟩,_⟩:=I.list h'
 rw [e] at e';cases e'
 rw [d] at d'
 injection d' with d1 _
 have:its=its':=by simpa using congrArg Array.toList d1
 subst this
 exact r.inj r'
theorem Inv.tuple_inj (I:Inv X pins σ H s) (h:SqT X.K H a xs) (h':SqT X.K H a ys):xs=ys:=by
 obtain ⟨its,r,⟨o,e,_,n,d⟩,_⟩:=I.tuple h
 obtain ⟨its',r',⟨o',e',_,n',d'⟩,_⟩:=I.tuple h'
 rw [e] at e';cases e'
 rw [d] at d'
 injection d' with d1 _
 have:its=its':=by simpa using congrArg Array.toList d1
 subst this
 exact r.inj r'
end
abbrev Cx.wish (X:Cx) (E:Value->Shared->Prop):Cx:={ X with xe:=E }
abbrev Cx.nox (X:Cx):Cx:=X.wish fun _ _=>False
section
variable {X:Cx} {st:Stmt} {rest:List Stmt} {t u:TS} {e:Expr} {te:TE} {pos:Pos}
noncomputable def zr4:TS:=fun D σ H=>D.nx σ H
noncomputable def zzv (t u:TS):TS:=fun D σ H=>t { D with nx:=u D } σ H
theorem pss_nil:PSs X [] zr4:=fun _ _ σ H _ I h=>wpAny_execs_nil ⟨σ,H,I,h⟩
theorem zim (h1:PS X st t) (h2:PSs X rest u):PSs X (st::rest) (zzv t u):=by
 intro pins s σ H D I h
 refine wpAny_execs_cons (thn (h1 pins s σ H { D with nx:=u D } I h) fun f s1 q=>?_)
 cases f with
 | next=>
  obtain ⟨σ',H',I',q⟩:=q
  exact h2 pins s1 σ' H' D I' q
 | ret v=>exact q
 | brk=>exact q
 | cont=>exact q
theorem zmv (h1:PS X st t):PSs X [st] t:=by
 intro pins s σ H D I h
 refine wpAny_execs_cons (thn (h1 pins s σ H D I h) fun f s1 q=>?_)
 cases f with
 | next=>exact wpAny_execs_nil q
 | ret v=>exact q
 | brk=>exact q
 | cont=>exact q
theorem Inv.quiet {pins:List (Addr×Obj)} {σ:St} {H:Hp} {s:Shared} (I:Inv X pins σ H s):interactive X.env=false:=by simp [interactive,I.ok.kind]
noncomputable def ze4 (te:TE):TS:=fun D σ H=>te σ H fun _ H1=>D.nx σ H1
theorem zbo (he:PE X e te) (hs:swapsWith e none pos.line X.env=pure false:=by rfl):PS X (.Expr e pos) (ze4 te):=by
 intro pins s σ H D I h
 exact wpAny_Expr_any (thn (he pins s σ H _ I h) fun v s1 ⟨x,H1,I1,r1,q1⟩=>⟨σ,H1,I1,q1⟩) I.quiet hs
noncomputable def zwm (te:TE):TS:=fun D σ H=>te σ H D.rt
theorem zkt (he:PE X e te):PS X (.Return (some e) pos) (zwm te):=by
 intro pins s σ H D I h
 exact wpAny_Return_some (thn (he pins s σ H _ I h) fun v s1 ⟨x,H1,I1,r1,q1⟩=>⟨x,σ,H1,I1,r1,q1⟩)
noncomputable def zzw (c:TT) (t u:TS):TS:=fun D σ H=>c σ H fun b H1=>if b=true then t D σ H1 else u D σ H1
theorem zwn {c:Expr} {a b:List Stmt} {tc:TT} (hc:PT X c tc) (ha:PSs X a t) (hb:PSs X b u):PS X (.If c a b pos) (zzw tc t u):=by
 intro pins s σ H D I h
 refine wpAny_If (thn (hc pins s σ H _ I h) fun d s1 ⟨H1,I1,q1⟩=>?_)
 cases d with
 | true=>exact ha pins s1 σ H1 D I1 q1
 | false=>exact hb pins s1 σ H1 D I1 q1
end
abbrev TG:=V->St->Hp->(St->Hp->Prop)->Prop
abbrev TGs:=List V->St->Hp->(St->Hp->Prop)->Prop
def PG (X:Cx) (target:Expr) (t:TG):Prop:=
 ∀(pins:List (Addr×Obj)) (s:Shared) (σ:St) (H:Hp) (v:V) (u:Value) (Q:St->Hp->Prop),Inv X pins σ H s->RelV v u->t v σ H Q ->
  wpAny (model X.prog X.w) X.A (assign target X.env u) (fun _ s'=>∃σ' H',Inv X pins σ' H' s'/\Q σ' H') X.xe s
def PGs (X:Cx) (ts:List Expr) (t:TGs):Prop:=
 ∀(pins:List (Addr×Obj)) (s:Shared) (σ:St) (H:Hp) (vs:List V) (us:List Value) (Q:St->Hp->Prop),Inv X pins σ H s->Vals vs us->t vs σ H Q ->
  wpAny (model X.prog X.w) X.A (assignInOrder ((assignEach ts X.env).map (·.2)) us) (fun _ s'=>∃σ' H',Inv X pins σ' H' s'/\Q σ' H') X.xe s
abbrev zmw:=V->V->V->Hp->(Hp->Prop)->Prop
def zw7 (X:Cx) (t:zmw):Prop:=
 ∀(pins:List (Addr×Obj)) (s:Shared) (σ:St) (H:Hp) (o i v:V) (ov iv u:Value) (Q:Hp->Prop),Inv X pins σ H s->RelV o ov->RelV i iv->RelV v u->t o i v H Q ->
  wpAny (model X.prog X.w) X.A (setItem ov iv u) (fun _ s'=>∃H',Inv X pins σ H' s'/\Q H') X.xe s
section
variable {X:Cx} {pos:Pos}
noncomputable def z8k (i:Nat):TG:=fun v σ H Q=>Q (σ.set i (some v)) H
theorem zbp {i:Nat} {x:Str} (hN:X.N.Nodup) (hi:X.N[i]?=some x) (hx:Loc X.env.scope x) (hf:X.fn x=true\/X.env.scope.names.lookup x=some .local:=by first | exact .inl rfl | exact .inr rfl | assumption):PG X (.Name x pos) (z8k i):=by
 intro pins s σ H v u Q I r h
 exact wpAny_assign_Name (z8j I hN hi hx r (fun s' I'=>⟨_,H,I',h⟩) hf)
noncomputable def y0x:TGs:=fun vs σ H Q=>vs=[]/\Q σ H
noncomputable def zwo (t:TG) (u:TGs):TGs:=fun vs σ H Q=>∃v r,vs=v::r/\t v σ H fun σ' H'=>u r σ' H' Q
theorem pgs_nil:PGs X [] y0x:=by
 intro pins s σ H vs us Q I r h
 obtain ⟨e,h⟩:=h
 subst e
 cases r
 exact assignInOrder_nil ⟨σ,H,I,h⟩
theorem zin {e:Expr} {es:List Expr} {t:TG} {u:TGs} (h1:PG X e t) (h2:PGs X es u)
  (hs:(assignEach (e::es) X.env).map (·.2)=assign e X.env::(assignEach es X.env).map (·.2):=by rfl):PGs X (e::es) (zwo t u):=by
 intro pins s σ H vs us Q I r h
 obtain ⟨v,vr,e1,h⟩:=h
 subst e1
 cases r with
 | cons r rr=>
  rw [hs]
  refine assignInOrder_cons (thn (h1 pins s σ H _ _ _ I r h) fun _ s1 ⟨σ1,H1,I1,q1⟩=>?_)
  exact h2 pins s1 σ1 H1 _ _ Q I1 rr q1
noncomputable def y0y (K:Frag) (n:Nat) (t:TGs):TG:=fun v σ H Q=>∃a xs,v=.ref a/\SqT K H a xs/\xs.length=n/\t xs σ H Q
theorem zr5 {es:List Expr} {k:Nat} {t:TGs} {n:Nat} (hc:X.calm=true) (h:PGs X es t)
  (hn:(assignEach es X.env).length=n:=by rfl) (hst:(assignEach es X.env).findIdx? (·.1)=none:=by rfl):PG X (.Tuple es k pos) (y0y X.K n t):=by
 intro pins s σ H v u Q I r hw
 obtain ⟨a,xs,e1,hq,hl,hw⟩:=hw
 subst e1
 cases r
 obtain ⟨its,rv,ht,hz⟩:=I.tuple hq
 refine assign_Tuple_tuple (I.ok.hd hc) ht (by simp [hn,<-hl,rv.length]) hst fun h' hx=>?_
 have I1:Inv X pins σ H { s with heap:=h' }:=I.kept (t':=s.toks) fun b o e=>hx b o (Nat.ne_of_lt (Heap.lt_size e)) e
 exact h pins _ σ H xs _ Q I1 (by simpa using rv) hw
noncomputable def zwp (to ti:TE) (t:zmw):TG:=fun v σ H Q=>to σ H fun o H1=>ti σ H1 fun i H2=>t o i v H2 fun H3=>Q σ H3
theorem zku {o i:Expr} {to ti:TE} {t:zmw} (ho:PE X o to) (hi:PE X i ti) (hs:zw7 X t)
  (ha:∀v,assign (.Subscript o i pos) X.env v=(do
   let ov <-holding [v] (eval o X.env)
   let iv <-holding [v,ov] (eval i X.env)
   standAt pos
   holding [v,ov,iv] (setItem ov iv v)
   release [v,ov,iv] []):=by intro _;rfl):PG X (.Subscript o i pos) (zwp to ti t):=by
 intro pins s σ H v u Q I r h
 rw [ha]
 refine wpAny_bind (wpAny_holding (thn (ho pins s σ H _ I h) fun ov s1 ⟨x,H1,I1,r1,q1⟩=>?_))
 refine wpAny_bind (wpAny_holding (thn (hi pins s1 σ H1 _ I1 q1) fun iv s2 ⟨y,H2,I2,r2,q2⟩=>?_))
 refine wpAny_bind (wpAny_standAt (wpAny_bind (wpAny_holding (thn (hs pins s2 σ H2 x y v ov iv u _ I2 r1 r2 r q2) fun _ s3 ⟨H3,I3,q3⟩=>?_))))
 exact wpAny_release ⟨σ,H3,I3,q3⟩
noncomputable def zkv (te:TE) (g:TG):TS:=fun D σ H=>te σ H fun x H1=>g x σ H1 D.nx
theorem zkw {tg e:Expr} {te:TE} {g:TG} (he:PE X e te) (hg:PG X tg g) (hs:swapsWithSole [tg] e pos.line X.env=pure false:=by rfl) (hw:swappedStores [tg] e X.env=pure none:=by rfl)
  (h1:(assignEach [tg] X.env).map (·.2)=[assign tg X.env]:=by rfl):PS X (.Assign [tg] e pos) (zkv te g):=by
 intro pins s σ H D I h
 refine wpAny_Assign_stores (thn (he pins s σ H _ I h) fun v s1 ⟨x,H1,I1,r1,q1⟩=>?_) hs hw
 rw [h1]
 exact thn (hg pins s1 σ H1 x v _ I1 r1 q1) fun _ s2 q=>q
theorem zr6 {i:Nat} {x:Str} {e:Expr} {te:TE} {pos':Pos} (hN:X.N.Nodup) (hi:X.N[i]?=some x) (hx:Loc X.env.scope x) (he:PE X e te) (hs:swapsWith e (some (.Name x pos')) pos.line X.env=pure false:=by rfl) (hf:X.fn x=true\/X.env.scope.names.lookup x=some .local:=by first | exact .inl rfl | exact .inr rfl | assumption) :
  PS X (.Assign [.Name x pos'] e pos) (zkv te (z8k i)):=by
 intro pins s σ H D I h
 refine wpAny_Assign_Name (thn (he pins s σ H _ I h) fun v s1 ⟨y,H1,I1,r1,q1⟩=>?_) hs
 exact z8j I1 hN hi hx r1 (fun s2 I2=>⟨_,H1,I2,q1⟩) hf
end
section
variable {X:Cx} {pos:Pos}
noncomputable def zkx (c:TT) (tb:TS):TS:=fun D σ H=>∃W:Nat->St->Hp->Prop,(∃m,W m σ H)/\∀m σ H,W m σ H ->
 c σ H fun b H1=>if b=true then ∃N:St->Hp->Prop,(∀σ' H',N σ' H'->∃m',m'<m/\W m' σ' H')/\tb { D with nx:=N,ct:=N,bk:=D.nx } σ H1 else D.nx σ H1
theorem zio {c:Expr} {body:List Stmt} {tc:TT} {tb:TS} (hp:PassesOwn (model X.prog X.w) X.A X.env X.xe) (hc:PT X c tc) (hb:PSs X body tb):PS X (.While c body [] pos) (zkx tc tb):=by
 intro pins s σ H D I h
 obtain ⟨W,⟨m0,w0⟩,turn⟩:=h
 refine wpAny_While (codeAny_whileLoop (fun n s'=>∃σ' H',Inv X pins σ' H' s'/\W n σ' H') ?_ m0 ⟨σ,H,I,w0⟩)
 rintro n s1 ⟨σ1,H1,I1,w1⟩
 refine wpAny_passesOwn hp (thn (hc pins s1 σ1 H1 _ I1 (turn n σ1 H1 w1)) fun b s2 ⟨H2,I2,q2⟩=>?_)
 cases b with
 | true=>
  obtain ⟨N,hN,q2⟩:=q2
  rw [if_pos rfl]
  refine wpAny_passesOwn hp (thn (hb pins s2 σ1 H2 _ I2 q2) fun f s3 q3=>?_)
  cases f with
  | next=>
   obtain ⟨σ3,H3,I3,n3⟩:=q3
   obtain ⟨m',hm,w3⟩:=hN σ3 H3 n3
   exact ⟨m',hm,σ3,H3,I3,w3⟩
  | cont=>
   obtain ⟨σ3,H3,I3,n3⟩:=q3
   obtain ⟨m',hm,w3⟩:=hN σ3 H3 n3
   exact ⟨m',hm,σ3,H3,I3,w3⟩
  | brk=>exact q3
  | ret v=>exact q3
 | false=>
  rw [if_neg Bool.false_ne_true]
  exact wpAny_execs_nil ⟨σ1,H2,I2,q2⟩
end
structure It where
 go:Nat->Hp->Prop
 yld:Nat->Hp->V->Hp->Prop
 stop:Nat->Hp->Prop
def zcr (X:Cx) (pins:List (Addr×Obj)) (H:Hp) (b:Addr):Prop:=
 H b=none/\b≠X.env.locals/\b∉X.fs/\(b∈X.ex\/X.s₀.heap.objs.size<=b)/\(∀x c,X.env.cells.lookup x=some c->c≠b)/\∀p∈X.pn++pins,p.1≠b
theorem Inv.fpOk {X:Cx} {pins:List (Addr×Obj)} {σ:St} {H H':Hp} {s:Shared} {b:Addr} (I:Inv X pins σ H s) (hb:s.heap.objs.size<=b) (hn:H' b=none):zcr X pins H' b:=by
 refine ⟨hn,Nat.ne_of_gt (Nat.lt_of_lt_of_le I.lt hb),I.nofs hb,.inr (Nat.le_trans I.sz hb),fun x c e z=>?_,fun p hp z=>?_⟩
 . obtain ⟨v,q⟩:=I.cell x c e
   exact absurd (Nat.lt_of_lt_of_le q.lt (by rw [z];exact hb)) (Nat.lt_irrefl _)
 . exact absurd (Nat.lt_of_lt_of_le (Heap.lt_size (I.pin p hp).1) (by rw [z];exact hb)) (Nat.lt_irrefl _)
structure Turn (P:Program) (w:World) (K:Frag) (tg:Expr) (J:It) (fp:List Addr) (it:Addr) (tn:Nat->Heap->Prop):Prop where
 mem:it∈fp
 obj:∀i h,tn i h->∀b∈fp,∃o,h.get? b=some o/\∀v,o.data≠.cell v
 keep:∀i h h',tn i h->(∀b∈fp,∀o,h.get? b=some o->h'.get? b=some o)->tn i h'
 item:∀(X:Cx),X.prog=P->X.w=w->X.K=K->X.calm=true->∀(i:Nat) (pins:List (Addr×Obj)) (s:Shared) (σ:St) (H:Hp) (E:Value->Shared->Prop),Inv X pins σ H s->(∀b∈fp,zcr X pins H b)->tn i s.heap->J.go i H ->
  wpAny (model P w) X.A (pyNext (.ref it)) (fun r s1=>∃u,r=some u /\
   wpAny (model P w) X.A (letOwnedTupleGo tg (.ref it) u) (fun _ s2=>∃x H',Inv X pins σ H' s2/\RelV x u/\J.yld i H x H'/\tn (i+1) s2.heap/\∀b∈fp,H' b=none) E s1) E s
 done:∀(X:Cx),X.prog=P->X.w=w->X.K=K->X.calm=true->∀(i:Nat) (pins:List (Addr×Obj)) (s:Shared) (σ:St) (H:Hp) (E:Value->Shared->Prop),Inv X pins σ H s->(∀b∈fp,zcr X pins H b)->tn i s.heap->J.stop i H ->
  wpAny (model P w) X.A (pyNext (.ref it)) (fun r s1=>r=none/\Inv X pins σ H s1) E s
 self:∀(A:Around) (i:Nat) (s:Shared) (Q:Value->Shared->Prop) (E:Value->Shared->Prop),tn i s.heap->Q (.ref it) s->wpAny (model P w) A (pyIter (.ref it)) Q E s
abbrev TI:=St->Hp->(It->Hp->Prop)->Prop
def PIE (X:Cx) (pins:List (Addr×Obj)) (σ:St) (tg:Expr) (R:It->Hp->Prop) (itv:Value) (s2:Shared):Prop:=
 ∃(it:Addr) (fp:List Addr) (tn:Nat->Heap->Prop) (J:It) (H':Hp),itv=.ref it/\Inv X pins σ H' s2/\Turn X.prog X.w X.K tg J fp it tn/\tn 0 s2.heap/\(∀b∈fp,zcr X pins H' b)/\R J H'
def PI (X:Cx) (tg iter:Expr) (wi:TI):Prop:=
 ∀(pins:List (Addr×Obj)) (s:Shared) (σ:St) (H:Hp) (R:It->Hp->Prop),Inv X pins σ H s->wi σ H R ->
  wpAny (model X.prog X.w) X.A (eval iter X.env) (fun v s1=>wpAny (model X.prog X.w) X.A (pyIter v) (PIE X pins σ tg R) X.xe s1) X.xe s
theorem zmx {M:Model} {A:Around} {E:Value->Shared->Prop} {s:Shared} {tg:Expr} {it:Addr} {u:Value} {o:Obj} {n:String} {vs:Array Value} {Q:Unit->Shared->Prop} (ho:s.heap.get? it=some o) (hc:o.cls=.type n) (hd:o.data=.fields vs)
  (hn:["enumerate","zip","dict_itemiterator","dict_reverseitemiterator","odict_iterator","itertools.zip_longest","itertools.pairwise"].contains n=false) (hQ:Q () s):wpAny M A (letOwnedTupleGo tg (.ref it) u) Q E s:=by
 unfold letOwnedTupleGo
 cases tg<;>first
  | exact wpAny_pure hQ
  | (cases u<;>first
   | exact wpAny_pure hQ
   | (refine wpAny_bind (wpAny_load ho ?_)
      rw [hc,hd]
      show wpAny M A (if (["enumerate","zip","dict_itemiterator","dict_reverseitemiterator","odict_iterator","itertools.zip_longest","itertools.pairwise"].contains n&&vs[0]?==some (rawInt _))=true then _ else _) Q E s
      rw [if_neg (by intro h;rw [hn,Bool.false_and] at h;cases h)]
      exact wpAny_pure hQ))
noncomputable def Itl (K:Frag) (a:Addr):It:=
 ⟨fun i H=>∃xs x,SqL K H a xs/\xs[i]?=some x,fun i H x H'=>H'=H/\∀xs,SqL K H a xs->xs[i]?=some x,fun i H=>∃xs,SqL K H a xs/\xs.length<=i⟩
noncomputable def Itt (K:Frag) (a:Addr):It:=
 ⟨fun i H=>∃xs x,SqT K H a xs/\xs[i]?=some x,fun i H x H'=>H'=H/\∀xs,SqT K H a xs->xs[i]?=some x,fun i H=>∃xs,SqT K H a xs/\xs.length<=i⟩
noncomputable def Itr (lo:Int) (n:Nat):It:=⟨fun i _=>i<n,fun i H x H'=>H'=H/\x=.int (lo+i),fun i _=>n<=i⟩
theorem zf5 {P:Program} {w:World} {K:Frag} {tg:Expr} (a it:Addr):Turn P w K tg (Itl K a) [it] it (fun i h=>h.IsListIter it a i) where
 mem:=by simp
 obj:=fun i h st b hb=>by
  have e:b=it:=by simpa using hb
  subst e
  obtain ⟨o,e,c,d⟩:=st
  exact ⟨o,e,fun v z=>by rw [d] at z;cases z⟩
 keep:=fun i h h' st k=>st.at fun o e=>k it (by simp) o e
 item:=by
  intro X hP hw hK hc i pins s σ H E I hf st hg
  subst hP hw hK
  obtain ⟨xs,x,hq,hx⟩:=hg
  obtain ⟨its,rv,p,hz⟩:=I.list hq
  obtain ⟨u,hu,ru⟩:=rv.get hx
  obtain ⟨f0,f1,f2,f3,f4,f5⟩:=hf it (by simp)
  refine wpAny_pyNext_list_item st p.isList (x:=u) (by simpa using hu) fun h' st' sb=>?_
  have I1:Inv X pins σ H { s with heap:=h' }:=I.turned (t':=s.toks) (fun b o hb e=>(sb.2 b hb).trans e) f0 f1 f3 f4 f5
  obtain ⟨o,e,c,d⟩:=id st'
  exact ⟨u,rfl,zmx (s:={ s with heap:=h' }) e c d (by decide) ⟨x,H,I1,ru,⟨rfl,fun ys hy=>by rw [I.list_inj hy hq];exact hx⟩,st',fun b hb=>(hf b hb).1⟩⟩
 done:=by
  intro X hP hw hK hc i pins s σ H E I hf st hg
  subst hP hw hK
  obtain ⟨xs,hq,hx⟩:=hg
  obtain ⟨its,rv,p,hz⟩:=I.list hq
  obtain ⟨f0,f1,f2,f3,f4,f5⟩:=hf it (by simp)
  have hl:=rv.length
  exact wpAny_pyNext_list_end (I.ok.hd hc) st p.isList (by simp;omega) fun h' eb=>⟨rfl,I.turned (t':=s.toks) (fun b o hb e=>eb b o hb e) f0 f1 f3 f4 f5⟩
 self:=fun _ _ _ _ _ st h=>wpAny_pyIter_listiter st h
theorem ze5 {P:Program} {w:World} {K:Frag} {tg:Expr} (a it:Addr):Turn P w K tg (Itt K a) [it] it (fun i h=>h.IsTupleIter it a i) where
 mem:=by simp
 obj:=fun i h st b hb=>by
  have e:b=it:=by simpa using hb
  subst e
  obtain ⟨o,e,c,d⟩:=st
  exact ⟨o,e,fun v z=>by rw [d] at z;cases z⟩
 keep:=fun i h h' st k=>st.at fun o e=>k it (by simp) o e
 item:=by
  intro X hP hw hK hc i pins s σ H E I hf st hg
  subst hP hw hK
  obtain ⟨xs,x,hq,hx⟩:=hg
  obtain ⟨its,rv,p,hz⟩:=I.tuple hq
  obtain ⟨u,hu,ru⟩:=rv.get hx
  obtain ⟨f0,f1,f2,f3,f4,f5⟩:=hf it (by simp)
  refine wpAny_pyNext_tuple_item st (show s.heap.IsTuple a its.toArray from p) (x:=u) (by simpa using hu) fun h' st' sb=>?_
  have I1:Inv X pins σ H { s with heap:=h' }:=I.turned (t':=s.toks) (fun b o hb e=>(sb.2 b hb).trans e) f0 f1 f3 f4 f5
  obtain ⟨o,e,c,d⟩:=id st'
  exact ⟨u,rfl,zmx (s:={ s with heap:=h' }) e c d (by decide) ⟨x,H,I1,ru,⟨rfl,fun ys hy=>by rw [I.tuple_inj hy hq];exact hx⟩,st',fun b hb=>(hf b hb).1⟩⟩
 done:=by
  intro X hP hw hK hc i pins s σ H E I hf st hg
  subst hP hw hK
  obtain ⟨xs,hq,hx⟩:=hg
  obtain ⟨its,rv,p,hz⟩:=I.tuple hq
  obtain ⟨f0,f1,f2,f3,f4,f5⟩:=hf it (by simp)
  have hl:=rv.length
  exact wpAny_pyNext_tuple_end (I.ok.hd hc) st (show s.heap.IsTuple a its.toArray from p) (by simp;omega) fun h' eb=>⟨rfl,I.turned (t':=s.toks) (fun b o hb e=>eb b o hb e) f0 f1 f3 f4 f5⟩
 self:=fun _ _ _ _ _ st h=>wpAny_pyIter_tupleiter st h
theorem ze6 {P:Program} {w:World} {K:Frag} {tg:Expr} (it:Addr) (lo:Int) (n:Nat):Turn P w K tg (Itr lo n) [it] it (fun i h=>IsRangeIter h it (lo+(i:Nat) * 1) ((n:Int) - (i:Nat)) 1) where
 mem:=by simp
 obj:=fun i h st b hb=>by
  have e:b=it:=by simpa using hb
  subst e
  exact ⟨_,st,fun v z=>by
   have z':Data.fields _=Data.cell v:=z
   cases z'⟩
 keep:=fun i h h' st k=>k it (by simp) _ st
 item:=by
  intro X hP hw hK hc i pins s σ H E I hf st hg
  subst hP hw hK
  obtain ⟨f0,f1,f2,f3,f4,f5⟩:=hf it (by simp)
  have W:=Walks.range (prog:=X.prog) (w:=X.w) (I.ok.hd hc) it lo 1 n
  refine W.item i s _ _ hg st fun v h' tk hv st' kk=>?_
  obtain ⟨t,rfl⟩:=hv
  have I1:Inv X pins σ H { s with heap:=h',toks:=tk }:=I.turned (fun b o hb e=>kk b o (by simpa using hb) e) f0 f1 f3 f4 f5
  refine ⟨_,rfl,zmx (s:={ s with heap:=h',toks:=tk }) (n:="range_iterator") st' rfl rfl (by decide) ⟨.int (lo+i),H,I1,⟨t,?_⟩,⟨rfl,rfl⟩,st',fun b hb=>(hf b hb).1⟩⟩
  rw [Int.mul_one]
 done:=by
  intro X hP hw hK hc i pins s σ H E I hf st hg
  subst hP hw hK
  obtain ⟨f0,f1,f2,f3,f4,f5⟩:=hf it (by simp)
  exact wpAny_pyNext_range_end (I.ok.hd hc) st (by have:n<=i:=hg;omega) fun h' eb=>⟨rfl,I.turned (t':=s.toks) (fun b o hb e=>eb b o hb e) f0 f1 f3 f4 f5⟩
 self:=fun _ _ _ _ _ st h=>wpAny_pyIter_rangeiter st h
section
variable {X:Cx} {tg:Expr}
theorem ziq {pins:List (Addr×Obj)} {σ:St} {H:Hp} {s:Shared} {R:It->Hp->Prop} {E:Value->Shared->Prop} {lo hi:Int} {t u v:Tok} {tk:Nat} (I:Inv X pins σ H s) (h1:-(2 ^ 62)<=lo) (h2:lo<2 ^ 62) (h3:-(2 ^ 62)<=hi) (h4:hi<2 ^ 62)
  (q:R (Itr lo (hi - lo).toNat) H):wpAny (model X.prog X.w) X.A (pyIter (.ref s.heap.objs.size)) (PIE X pins σ tg R) E { s with heap:=s.heap.push { cls:=.type "range",data:=.fields #[.int lo t,.int hi u,.int 1 v] },toks:=tk }:=by
 refine wpAny_pyIter_range (IsRange.new ..) (small_one h1 h2 h3 h4) ?_
 have I1:Inv X pins σ H { s with heap:=s.heap.push { cls:=.type "range",data:=.fields #[.int lo t,.int hi u,.int 1 v] },toks:=tk }:=I.kept fun b o e=>Heap.get?_push_of_some _ e
 refine ⟨(s.heap.push { cls:=.type "range",data:=.fields #[.int lo t,.int hi u,.int 1 v] }).objs.size,[(s.heap.push { cls:=.type "range",data:=.fields #[.int lo t,.int hi u,.int 1 v] }).objs.size],_,_,H,rfl,
  I1.kept (t':=tk) fun b o e=>Heap.get?_push_of_some _ e,ze6 _ lo (hi - lo).toNat,?_,fun b hb=>?_,q⟩
 . have e1:lo+((0:Nat):Int) * 1=lo:=by simp
   have e2:(((hi - lo).toNat:Nat):Int) - ((0:Nat):Int)=Builtin.Range.rangeSize lo hi 1:=by rw [rangeSize_one];split<;>omega
   show IsRangeIter _ _ (lo+((0:Nat):Int) * 1) ((((hi - lo).toNat:Nat):Int) - ((0:Nat):Int)) 1
   rw [e1,e2]
   exact Heap.get?_push_size _ rfl
 . have e:b=(s.heap.push { cls:=.type "range",data:=.fields #[.int lo t,.int hi u,.int 1 v] }).objs.size:=by simpa using hb
   subst e
   exact I1.fpOk (Nat.le_refl _) (I1.hok.fresh (Nat.le_refl _))
noncomputable def y0z (wi:TI) (g:TG) (tb:TS):TS:=fun D σ H=>wi σ H fun J H1=>∃W:Nat->Nat->St->Hp->Prop,(∃m,W 0 m σ H1)/\∀i m σ H,W i m σ H ->
 (J.stop i H/\D.nx σ H)\/(J.go i H/\∃N:St->Hp->Prop,(∀σ' H',N σ' H'->∃m',m'<m/\W (i+1) m' σ' H')/\∀x H',J.yld i H x H'->g x σ H' fun σ2 H2=>tb { D with nx:=N,ct:=N,bk:=D.nx } σ2 H2)
noncomputable def z9z (fp:List Addr) (h:Heap):List (Addr×Obj):=fp.filterMap fun b=>(h.get? b).map fun o=>(b,o)
theorem z3d {fp:List Addr} {h:Heap} {b:Addr} {o:Obj} (hb:b∈fp) (e:h.get? b=some o):(b,o)∈z9z fp h:=List.mem_filterMap.mpr ⟨b,hb,by rw [e];rfl⟩
theorem zf6 {fp:List Addr} {h:Heap} {p:Addr×Obj} (hp:p∈z9z fp h):p.1∈fp/\h.get? p.1=some p.2:=by
 obtain ⟨b,hb,e⟩:=List.mem_filterMap.mp hp
 cases q:h.get? b with
 | none=>rw [q] at e;cases e
 | some o=>
  rw [q] at e
  have e':(b,o)=p:=Option.some.inj e
  subst e'
  exact ⟨hb,q⟩
theorem Inv.pinned {pins:List (Addr×Obj)} {σ:St} {H:Hp} {s:Shared} {fp:List Addr} (I:Inv X pins σ H s) (hf:∀b∈fp,zcr X pins H b) (ho:∀b∈fp,∃o,s.heap.get? b=some o/\∀v,o.data≠.cell v):Inv X (pins++z9z fp s.heap) σ H s:=
 I.pins_of fun p hp=>(List.mem_append.mp hp).elim (fun z=>I.pin p (List.mem_append_right _ z)) fun z=>by
  obtain ⟨hb,e⟩:=zf6 z
  obtain ⟨f0,f1,f2,_⟩:=hf p.1 hb
  obtain ⟨o,e',d⟩:=ho p.1 hb
  rw [e] at e';cases e'
  exact ⟨e,f0,f1,f2,d⟩
theorem Inv.unpinned {pins pl:List (Addr×Obj)} {σ:St} {H:Hp} {s:Shared} (I:Inv X (pins++pl) σ H s):Inv X pins σ H s:=I.pins_of fun p hp=>I.pin p (List.mem_append_right _ (List.mem_append_left _ hp))
theorem zr7 {iter:Expr} {body:List Stmt} {wi:TI} {g:TG} {tb:TS} {pos:Pos} (hp:PassesOwn (model X.prog X.w) X.A X.env X.xe) (hc:X.calm=true) (hi:PI X tg iter wi) (hg:PG X tg g) (hb:PSs X body tb)
  (hs:∀x,foldedSetIterable iter X.env x=pure x:=by intro _;rfl):PS X (.For tg iter body [] pos) (y0z wi g tb):=by
 intro pins s σ H D I h
 refine wpAny_For (thn (hi pins s σ H _ I h) fun v s1 h1=>thn h1 fun itv s2 h2=>?_) hs
 obtain ⟨it,fp,tn,J,H2,e,I2,T,st2,f2,W,⟨m0,w0⟩,turn⟩:=h2
 subst e
 have stat:∀{H':Hp},(∀b∈fp,H' b=none)->∀b∈fp,zcr X pins H' b:=fun hn b hb=>⟨hn b hb,(f2 b hb).2⟩
 refine codeAny_forLoop_any (fun n s'=>∃i σ' H',Inv X pins σ' H' s'/\tn i s'.heap/\(∀b∈fp,H' b=none)/\W i n σ' H') ?_ m0 ⟨0,σ,H2,I2,st2,fun b hb=>(f2 b hb).1,w0⟩
 rintro n s3 ⟨i,σ3,H3,I3,st3,fr3,w3⟩
 rcases turn i n σ3 H3 w3 with ⟨stop,qn⟩ | ⟨go,N,hN,step⟩
 . refine wpAny_passesOwn hp (thn (T.done X rfl rfl rfl hc i pins s3 σ3 H3 X.xe I3 (stat fr3) st3 stop) fun r s4 ⟨hr,I4⟩=>?_)
   subst hr
   exact wpAny_execs_nil ⟨σ3,H3,I4,qn⟩
 . refine wpAny_passesOwn hp (thn (T.item X rfl rfl rfl hc i pins s3 σ3 H3 X.xe I3 (stat fr3) st3 go) fun r s4 ⟨u,hr,h4⟩=>?_)
   subst hr
   refine wpAny_passesOwn hp (thn h4 fun _ s5 ⟨x,H5,I5,r5,y5,st5,fr5⟩=>?_)
   have I5':=I5.pinned (stat fr5) (T.obj _ _ st5)
   refine wpAny_passesOwn hp (thn (hg _ s5 σ3 H5 x u _ I5' r5 (step x H5 y5)) fun _ s6 ⟨σ6,H6,I6,q6⟩=>?_)
   refine wpAny_passesOwn hp (thn (hb _ s6 σ6 H6 _ I6 q6) fun f s7 q7=>?_)
   have again:∀{σ7:St} {H7:Hp},Inv X (pins++z9z fp s5.heap) σ7 H7 s7->N σ7 H7->∃m,m<n/\∃i σ' H',Inv X pins σ' H' s7/\tn i s7.heap/\(∀b∈fp,H' b=none)/\W i m σ' H':=fun {σ7 H7} I7 n7=>by
    obtain ⟨m',hm,w7⟩:=hN σ7 H7 n7
    refine ⟨m',hm,i+1,σ7,H7,I7.unpinned,T.keep _ _ _ st5 fun b hb o e=>(I7.pin (b,o) (List.mem_append_right _ (List.mem_append_right _ (z3d hb e)))).1,fun b hb=>?_,w7⟩
    obtain ⟨o,e,d⟩:=T.obj _ _ st5 b hb
    exact (I7.pin (b,o) (List.mem_append_right _ (List.mem_append_right _ (z3d hb e)))).2.1
   cases f with
   | next=>obtain ⟨σ7,H7,I7,n7⟩:=q7;exact again I7 n7
   | cont=>obtain ⟨σ7,H7,I7,n7⟩:=q7;exact again I7 n7
   | brk=>obtain ⟨σ7,H7,I7,q7⟩:=q7;exact ⟨σ7,H7,I7.unpinned,q7⟩
   | ret v=>obtain ⟨x7,σ7,H7,I7,r7,q7⟩:=q7;exact ⟨x7,σ7,H7,I7.unpinned,r7,q7⟩
end
abbrev R2:=V->V->Hp->VK->Prop
def OpR (X:Cx) (f:Value->Value->Sem Value) (r:R2):Prop:=
 ∀(pins:List (Addr×Obj)) (s:Shared) (σ:St) (H:Hp) (x y:V) (v u:Value) (Q:VK),Inv X pins σ H s->RelV x v->RelV y u->r x y H Q ->
  wpAny (model X.prog X.w) X.A (f v u) (EP X pins σ Q) X.xe s
def UnR (X:Cx) (f:Value->Sem Value) (r:V->Hp->VK->Prop):Prop:=
 ∀(pins:List (Addr×Obj)) (s:Shared) (σ:St) (H:Hp) (x:V) (v:Value) (Q:VK),Inv X pins σ H s->RelV x v->r x H Q ->
  wpAny (model X.prog X.w) X.A (f v) (EP X pins σ Q) X.xe s
def CallR (X:Cx) (f:Value) (r:List V->Hp->VK->Prop):Prop:=
 ∀(pins:List (Addr×Obj)) (s:Shared) (σ:St) (H:Hp) (xs:List V) (us:List Value) (Q:VK),Inv X pins σ H s->Vals xs us->r xs H Q ->
  wpAny (model X.prog X.w) X.A (call f us) (EP X pins σ Q) X.xe s
def y10 (X:Cx) (r:V->Hp->(Bool->Hp->Prop)->Prop):Prop:=
 ∀(pins:List (Addr×Obj)) (s:Shared) (σ:St) (H:Hp) (x:V) (v:Value) (Q:Bool->Hp->Prop),Inv X pins σ H s->RelV x v->r x H Q ->
  wpAny (model X.prog X.w) X.A (truthy v) (TP X pins σ Q) X.xe s
noncomputable def tOp (r:R2) (ta tb:TE):TE:=fun σ H Q=>ta σ H fun x H1=>tb σ H1 fun y H2=>r x y H2 Q
noncomputable def tUn (r:V->Hp->VK->Prop) (ta:TE):TE:=fun σ H Q=>ta σ H fun x H1=>r x H1 Q
noncomputable def rI (C:Int->Int->Prop) (g:Int->Int->V):R2:=fun x y H Q=>∃i j,x=.int i/\y=.int j/\C i j/\Q (g i j) H
noncomputable def rI0 (g:Int->Int->V):R2:=fun x y H Q=>∃i j,x=.int i/\y=.int j/\Q (g i j) H
def rU (g:Int->V):V->Hp->VK->Prop:=fun x H Q=>∃i,x=.int i/\Q (g i) H
section
variable {X:Cx} {a b:Expr} {ta tb:TE} {pos:Pos}
theorem zwq (ha:PE X a ta) (hb:PE X b tb) {pins:List (Addr×Obj)} {s:Shared} {σ:St} {H:Hp} {R:V->V->Hp->Prop} (I:Inv X pins σ H s)
  (h:ta σ H fun x H1=>tb σ H1 fun y H2=>R x y H2) {Q:Value->Shared->Prop} {f:Value->Value->Sem Value}
  (hf:∀v u s2 x y H2,Inv X pins σ H2 s2->RelV x v->RelV y u->R x y H2->wpAny (model X.prog X.w) X.A (f v u) Q X.xe s2) :
  wpAny (model X.prog X.w) X.A (eval a X.env) (fun v s₁=>wpAny (model X.prog X.w) X.A (eval b X.env) (fun u s₂=>wpAny (model X.prog X.w) X.A (f v u) Q X.xe s₂) X.xe s₁) X.xe s:=by
 refine thn (ha pins s σ H _ I h) fun v s1 ⟨x,H1,I1,r1,q1⟩=>?_
 refine thn (hb pins s1 σ H1 _ I1 q1) fun u s2 ⟨y,H2,I2,r2,q2⟩=>?_
 exact hf v u s2 x y H2 I2 r1 r2 q2
theorem zwr {op:Operator} {r:R2} (ho:OpR X (binaryOp op) r) (ha:PE X a ta) (hb:PE X b tb):PE X (.BinOp a op b pos) (tOp r ta tb):=by
 intro pins s σ H Q I h
 exact wpAny_BinOp (zwq ha hb I h fun v u s2 x y H2 I2 rx ry q=>ho pins s2 σ H2 x y v u Q I2 rx ry q)
theorem zws {op:UnaryOp} {r:V->Hp->VK->Prop} (ho:UnR X (unaryOp op) r) (ha:PE X a ta):PE X (.UnaryOp op a pos) (tUn r ta):=by
 intro pins s σ H Q I h
 exact UnaryOp_ (thn (ha pins s σ H _ I h) fun v s1 ⟨x,H1,I1,r1,q1⟩=>ho pins s1 σ H1 x v Q I1 r1 q1)
theorem opI {f:Value->Value->Sem Value} {C:Int->Int->Prop} {g:Int->Int->Int}
  (rule:∀(i j:Int) (t u:Tok) (s:Shared) (Q:Value->Shared->Prop) (E:Value->Shared->Prop),C i j->Q (.int (g i j) s.toks) { s with toks:=s.toks+1 }->wpAny (model X.prog X.w) X.A (f (.int i t) (.int j u)) Q E s) :
  OpR X f (rI C fun i j=>.int (g i j)):=by
 intro pins s σ H x y v u Q I rx ry h
 obtain ⟨i,j,rfl,rfl,hc,q⟩:=h
 obtain ⟨t,rfl⟩:=rx
 obtain ⟨t',rfl⟩:=ry
 exact rule i j t t' s _ _ hc ⟨.int (g i j),H,I.tok _,⟨_,rfl⟩,q⟩
theorem zzx {f:Value->Value->Sem Value} {g:Int->Int->Int}
  (rule:∀(i j:Int) (t u:Tok) (s:Shared) (Q:Value->Shared->Prop) (E:Value->Shared->Prop),Q (.int (g i j) s.toks) { s with toks:=s.toks+1 }->wpAny (model X.prog X.w) X.A (f (.int i t) (.int j u)) Q E s) :
  OpR X f (rI0 fun i j=>.int (g i j)):=by
 intro pins s σ H x y v u Q I rx ry h
 obtain ⟨i,j,rfl,rfl,q⟩:=h
 obtain ⟨t,rfl⟩:=rx
 obtain ⟨t',rfl⟩:=ry
 exact rule i j t t' s _ _ ⟨.int (g i j),H,I.tok _,⟨_,rfl⟩,q⟩
theorem zwt {f:Value->Value->Sem Value} {g:Int->Int->Bool}
  (rule:∀(i j:Int) (t u:Tok) (s:Shared) (Q:Value->Shared->Prop) (E:Value->Shared->Prop),Q (.bool (g i j)) s->wpAny (model X.prog X.w) X.A (f (.int i t) (.int j u)) Q E s) :
  OpR X f (rI0 fun i j=>.bl (g i j)):=by
 intro pins s σ H x y v u Q I rx ry h
 obtain ⟨i,j,rfl,rfl,q⟩:=h
 obtain ⟨t,rfl⟩:=rx
 obtain ⟨t',rfl⟩:=ry
 exact rule i j t t' s _ _ ⟨.bl (g i j),H,I,rfl,q⟩
def zmy (i j:Int):Prop:=0<j/\j<1073741824
def zmz (i j:Int):Prop:=0<=j/\j<=1000000/\i.natAbs<2 ^ 64
def CMul (i j:Int):Prop:=(-(2 ^ 64)<i/\i<2 ^ 64)\/(-(2 ^ 64)<j/\j<2 ^ 64)
theorem CMul.ok {i j:Int} (h:CMul i j):IntMulOk i j:=by
 rcases h with ⟨h1,h2⟩ | ⟨h1,h2⟩
 . exact .of_left (intBits_le_64 h1 h2)
 . exact .of_right (intBits_le_64 h1 h2)
theorem op_add:OpR X (binaryOp .Add) (rI0 fun i j=>.int (i+j)):=zzx fun _ _ _ _ _ _ _ q=>add_int q
theorem op_sub:OpR X (binaryOp .Sub) (rI0 fun i j=>.int (i - j)):=zzx fun _ _ _ _ _ _ _ q=>sub_int q
theorem op_mul:OpR X (binaryOp .Mult) (rI CMul fun i j=>.int (i * j)):=opI fun _ _ _ _ _ _ _ hc q=>mul_int q hc.ok
theorem op_fdiv:OpR X (binaryOp .FloorDiv) (rI zmy fun i j=>.int (i / j)):=opI fun i j _ _ _ _ _ hc q=>by
 have h1:(0:Int)<j:=hc.1
 have h2:j<1073741824:=hc.2
 exact floordiv_int (by omega) (by rw [Int.fdiv_eq_ediv_of_nonneg i (by omega)];exact q) (.inl (PyProof.noPylong_small (by omega)))
theorem op_mod:OpR X (binaryOp .Mod) (rI (fun _ j=>0<j) fun i j=>.int (i % j)):=opI fun i j _ _ _ _ _ hc q=>by
 have h1:(0:Int)<j:=hc
 exact mod_int' (by omega) (by rw [Int.fmod_eq_emod_of_nonneg i (by omega)];exact q)
theorem op_pow:OpR X (binaryOp .Pow) (rI zmz fun i j=>.int (i ^ j.toNat)):=opI fun _ _ _ _ _ _ _ hc q=>pow_int_small hc.1 hc.2.1 hc.2.2 q
theorem unI {f:Value->Sem Value} {g:Int->Int}
  (rule:∀(i:Int) (t:Tok) (s:Shared) (Q:Value->Shared->Prop) (E:Value->Shared->Prop),Q (.int (g i) s.toks) { s with toks:=s.toks+1 }->wpAny (model X.prog X.w) X.A (f (.int i t)) Q E s) :
  UnR X f (rU fun i=>.int (g i)):=by
 intro pins s σ H x v Q I rx h
 obtain ⟨i,rfl,q⟩:=h
 obtain ⟨t,rfl⟩:=rx
 exact rule i t s _ _ ⟨.int (g i),H,I.tok _,⟨_,rfl⟩,q⟩
theorem un_neg:UnR X (unaryOp .USub) (rU fun i=>.int (-i)):=unI fun _ _ _ _ _ q=>neg_int q
end
section
variable {X:Cx} {a b:Expr} {ta tb:TE} {pos:Pos}
theorem op_lt:OpR X (compareOp .Lt) (rI0 fun i j=>.bl (decide (i<j))):=zwt fun _ _ _ _ _ _ _ q=>lt_int q
theorem op_le:OpR X (compareOp .LtE) (rI0 fun i j=>.bl (decide (i<=j))):=zwt fun _ _ _ _ _ _ _ q=>le_int q
theorem op_gt:OpR X (compareOp .Gt) (rI0 fun i j=>.bl (decide (j<i))):=zwt fun _ _ _ _ _ _ _ q=>gt_int q
theorem OpR.or {f:Value->Value->Sem Value} {r r':R2} (h:OpR X f r) (h':OpR X f r'):OpR X f (fun x y H Q=>r x y H Q\/r' x y H Q):=by
 intro pins s σ H x y v u Q I rx ry q
 rcases q with q | q
 . exact h pins s σ H x y v u Q I rx ry q
 . exact h' pins s σ H x y v u Q I rx ry q
theorem z0r (b:Expr) {op:CmpOp} (h:op≠.In:=by decide) (h2:op≠.NotIn:=by decide):behindInMarks op b=false:=by
 have e1:(op==CmpOp.In)=false:=by cases op<;>first | rfl | exact absurd rfl h
 have e2:(op==CmpOp.NotIn)=false:=by cases op<;>first | rfl | exact absurd rfl h2
 cases b<;>simp [behindInMarks,e1,e2]
theorem zn0 {op:CmpOp} {r:R2} (ho:OpR X (compareOp op) r) (ha:PE X a ta) (hb:PE X b tb) (hm:behindInMarks op b=false):PE X (.Compare a [op] [b] pos) (tOp r ta tb):=by
 intro pins s σ H Q I h
 exact wpAny_Compare1 (zwq ha hb I h fun v u s2 x y H2 I2 rx ry q=>ho pins s2 σ H2 x y v u Q I2 rx ry q) hm
def zzy (K:Frag) (x:V) (H:Hp) (k:Bool):Prop:=
 match x with
 | .non=>k=false
 | .bl b=>k=b
 | .int i=>k=(i != 0)
 | .str y=>y.length<=sizeLine/\k=((y.length:Int) != 0)
 | .byt y=>y.size<=sizeLine/\k=((y.size:Int) != 0)
 | .ref p=>(∃xs,SqL K H p xs/\k=!xs.isEmpty)\/(∃xs,SqT K H p xs/\k=!xs.isEmpty)\/∃kvs,H p=some (.dK kvs)/\k=!kvs.isEmpty
 | _=>False
theorem ze7 {κ:Type} {kvs:List (κ×V)} {vs:List (κ×Value)} (r:KV kvs vs):(!vs.isEmpty)=!kvs.isEmpty:=by
 cases r<;>rfl
theorem z7z {xs:List V} {its:List Value} (r:Vals xs its):(!its.toArray.isEmpty)=!xs.isEmpty:=by
 cases r<;>simp
theorem z6m:(sizeLine:Nat)<2 ^ 63:=by rw [sizeLine_eq];decide
theorem zky:y10 X (fun x H Q=>∃k,zzy X.K x H k/\Q k H):=by
 intro pins s σ H x v Q I rx h
 obtain ⟨k,e,q⟩:=h
 have hl:=z6m
 have hs:sizeLine=16777216:=sizeLine_eq
 cases x with
 | non=>
  cases rx
  have e':k=false:=e
  subst e'
  exact truthy_none ⟨H,I,q⟩
 | bl b=>
  cases rx
  have e':k=b:=e
  subst e'
  exact wpAny_truthy_bool ⟨H,I,q⟩
 | int i=>
  obtain ⟨t,rfl⟩:=rx
  have e':k=(i != 0):=e
  subst e'
  exact PySem.P.truthy_int ⟨H,I,q⟩
 | str y=>
  obtain ⟨t,rfl⟩:=rx
  obtain ⟨hy,e'⟩:y.length<=sizeLine/\k=((y.length:Int) != 0):=e
  subst e'
  exact PySem.P.truthy_str (by omega) ⟨H,I.tok _,q⟩
 | byt y=>
  obtain ⟨t,rfl⟩:=rx
  obtain ⟨hy,e'⟩:y.size<=sizeLine/\k=((y.size:Int) != 0):=e
  subst e'
  exact PySem.W.truthy_bytes (by omega) ⟨H,I.tok _,q⟩
 | ref p=>
  cases rx
  have e':(∃xs,SqL X.K H p xs/\k=!xs.isEmpty)\/(∃xs,SqT X.K H p xs/\k=!xs.isEmpty)\/∃kvs,H p=some (.dK kvs)/\k=!kvs.isEmpty:=e
  rcases e' with ⟨xs,hx,e'⟩ | ⟨xs,hx,e'⟩ | ⟨kvs,hx,e'⟩
  . subst e'
    obtain ⟨its,r,pl,hz⟩:=I.list hx
    have hlen:=r.length
    exact wpAny_truthy_list pl.isList (by simp only [List.size_toArray];omega) ⟨H,I.tok _,by rw [z7z r];exact q⟩
  . subst e'
    obtain ⟨its,r,pl,hz⟩:=I.tuple hx
    have hlen:=r.length
    exact truthy_tuple pl (by simp only [List.size_toArray];omega) ⟨H,I.tok _,by rw [z7z r];exact q⟩
  . subst e'
    obtain ⟨hz,hS,vs,r,m⟩:kvs.length<=sizeLine/\(p==sysModules)=false/\∃vs,KV kvs vs/\s.heap.DictOf (z0s X.prog X.w) p vs:=I.hok p _ hx
    have hlen:kvs.length=vs.length:=Paired.length r
    exact wpAny_truthy_dict hS m (by omega) ⟨H,I.tok _,by rw [ze7 r];exact q⟩
 | _=>exact (show False from e).elim
theorem z63 {x:V} {us:List Value} (r:Vals [x] us):∃u,us=[u]/\RelV x u:=by
 cases r with
 | cons r1 r2=>cases r2;exact ⟨_,rfl,r1⟩
theorem zwu {x y:V} {us:List Value} (r:Vals [x,y] us):∃u w',us=[u,w']/\RelV x u/\RelV y w':=by
 cases r with
 | cons r1 r2=>
  cases r2 with
  | cons r3 r4=>cases r4;exact ⟨_,_,rfl,r1,r3⟩
end
structure ObjM (h:Heap) (x dx C:Addr) (mA:Str->Option Value):Prop where
 obj:h.get? x=some (PySem.W.instObj C dx)
 ns:h.Ns1 dx mA
 ne:dx≠x
theorem zf7 {h:Heap} {dx:Addr} {mA:Str->Option Value} (n:h.Ns1 dx mA):∃od,h.get? dx=some od/\∀name,PySem.W.lookIn name od=some (mA name):=by
 obtain ⟨o,es,ep,ho,hd,hk,_,hm⟩:=n
 refine ⟨o,ho,fun name=>?_⟩
 have e:=hm name
 unfold nsFind findBy at e
 rw [<-Array.find?_toList] at e
 unfold PySem.W.lookIn
 rw [hd]
 dsimp only
 split
 . rename_i y q
   rw [q] at e
   exact congrArg some e
 . rename_i q
   rw [q] at e
   have a:es.toList.any (·.refKey)=false:=by
    rw [List.any_eq_false]
    intro y hy
    obtain ⟨z,t,hkey⟩:=hk y (Array.mem_toList_iff.mp hy)
    simp [DictEntry.refKey,hkey]
   have a':¬es.toList.any (·.refKey)=true:=by rw [a];exact Bool.false_ne_true
   rw [if_neg a']
   exact congrArg some e
theorem ObjM.look {h:Heap} {x dx C:Addr} {mA:Str->Option Value} (I:ObjM h x dx C mA):∃od,PySem.W.InstAt h x (PySem.W.instObj C dx) C (some od)/\∀name,PySem.W.lookIn name od=some (mA name):=
 let ⟨od,ho,hl⟩:=zf7 I.ns
 ⟨od,⟨I.obj,rfl,rfl,ho⟩,hl⟩
theorem RelO.some_of {v:V} {o:Option Value} (r:RelO (some v) o):∃u,o=some u/\RelV v u:=by
 cases o with
 | none=>exact (show False from r).elim
 | some u=>exact ⟨u,rfl,r⟩
section
variable {P:Program} {w:World} {H:Hp} {h:Heap} {a C dx:Addr} {fs:List (Str×V)}
theorem zn1 (hok:HOk P w H h) (e:H a=some (.ins C dx fs)):∃mA,ObjM h a dx C mA/\(∀f,RelO (fs.lookup f) (mA f))/\PySem.Within mA (fs.map (·.1))/\fs.length<=1000/\H dx=some (.own a):=by
 obtain ⟨d,z,ne,ob,mA,n,r,q⟩:=(show ObjOk P w H h a (.ins C dx fs) from hok a _ e)
 exact ⟨mA,⟨ob,n,ne⟩,r,q,z,d⟩
end
structure Cls (K:Frag) (C:Addr):Prop where
 pg:PySem.W.plainGet K C Str.empty=true
 hd:PySem.W.hasDictIn K C=true
 po:PySem.W.plainOver K C=true
 sa:PySem.W.findIn K (.ref C) "__setattr__"=some (some (.builtin "object.__setattr__"))
theorem Cls.get {K:Frag} {C:Addr} (c:Cls K C) (f:Str):PySem.W.plainGet K C f=true:=c.pg
section
variable {X:Cx} {pins:List (Addr×Obj)} {σ:St} {H:Hp} {s:Shared} {A:Around} {E:Value->Shared->Prop} {Q:Value->Shared->Prop} {c:Value} {b:Bool}
inductive TyOf (K:Frag) (H:Hp):V->Value->Prop where
 | non:TyOf K H .non (.type "NoneType")
 | bl (x:Bool):TyOf K H (.bl x) (.type "bool")
 | int (i:Int):TyOf K H (.int i) (.type "int")
 | str (x:Str):TyOf K H (.str x) (.type "str")
 | flt (x:UInt64):TyOf K H (.flt x) (.type "float")
 | lst {a:Addr} {xs:List V} (e:H a=some (.lst xs)):TyOf K H (.ref a) (.type "list")
 | frz {a:Addr} {o:Obj} {xs:List V} (e:H a=some (.frz o (.lst xs))):TyOf K H (.ref a) (.type "list")
 | tup {a:Addr} {xs:List V} (e:H a=some (.tup xs)):TyOf K H (.ref a) (.type "tuple")
 | dK {a:Addr} {kvs:List (Key×V)} (e:H a=some (.dK kvs)):TyOf K H (.ref a) (.type "dict")
 | dT {a:Addr} {kvs:List (List Key×V)} (e:H a=some (.dT kvs)):TyOf K H (.ref a) (.type "dict")
 | ins {a C dx:Addr} {fs:List (Str×V)} (e:H a=some (.ins C dx fs)) (cl:Cls K C) (ha:PySem.W.findIn K (.ref C) "__class__"=some (some (.builtin "object.__class__")))
  (hn:PySem.W.specialIn K (.builtin "object.__class__") "__get__"=some (some (.builtin "getset_descriptor.__get__"))) (htk:PySem.W.takesIn K (.builtin "object.__class__")=some true)
  (hm:mroIn K C (.type "object")=some true):TyOf K H (.ref a) (.ref C)
theorem z0t {x:V} {u t:Value} (I:Inv X pins σ H s) (rx:RelV x u) (ty:TyOf X.K H x t) (e:kitOne X.K t c=some b) (h:∀tk,Q (.bool b) { s with toks:=tk }) :
  wpAny (model X.prog X.w) A (call (.builtin "isinstance") [u,c]) Q E s:=by
 cases ty with
 | non=>cases (show u=Value.none from rx);exact kia_one PySem.W.kitx_none I.kIn True.intro e (fun z=>nomatch z) h
 | bl y=>cases (show u=Value.bool y from rx);exact kia_one PySem.W.kitx_bool I.kIn True.intro e (fun z=>nomatch z) h
 | int i=>obtain ⟨t,q⟩:=(show ∃t,u=Value.int i t from rx);cases q;exact kia_one PySem.W.kitx_int I.kIn True.intro e (fun z=>nomatch z) h
 | str y=>obtain ⟨t,q⟩:=(show ∃t,u=Value.str y t from rx);cases q;exact kia_one PySem.W.kitx_str I.kIn True.intro e (fun z=>nomatch z) h
 | flt y=>obtain ⟨t,q⟩:=(show ∃t,u=Value.float y t from rx);cases q;exact kia_one PySem.W.kitx_float I.kIn True.intro e (fun z=>nomatch z) h
 | @lst a xs ea=>
  cases (show u=Value.ref a from rx)
  obtain ⟨_,_,n,_,h1⟩:=(show ObjOk X.prog X.w H s.heap a (.lst xs) from I.hok a _ ea)
  exact kia_one PySem.W.kitx_list I.kIn ⟨_,h1,rfl⟩ e (fun z=>nomatch z) h
 | @frz a ob xs ea=>
  cases (show u=Value.ref a from rx)
  obtain ⟨_,_,_,n,_,h1⟩:=(show ObjOk X.prog X.w H s.heap a (.frz ob (.lst xs)) from I.hok a _ ea)
  exact kia_one PySem.W.kitx_list I.kIn ⟨_,h1,rfl⟩ e (fun z=>nomatch z) h
 | @tup a xs ea=>
  cases (show u=Value.ref a from rx)
  obtain ⟨_,_,_,p⟩:=(show ObjOk X.prog X.w H s.heap a (.tup xs) from I.hok a _ ea)
  obtain ⟨o,h1,h2,_⟩:=p
  exact kia_one PySem.W.kitx_tuple I.kIn ⟨o,h1,h2⟩ e (fun z=>nomatch z) h
 | @dK a kvs ea=>
  cases (show u=Value.ref a from rx)
  obtain ⟨_,_,vs,_,p⟩:=(show ObjOk X.prog X.w H s.heap a (.dK kvs) from I.hok a _ ea)
  obtain ⟨o,es,ep,h1,h2,_⟩:=p
  exact kia_one PySem.W.kitx_dict I.kIn ⟨o,h1,h2.1⟩ e (fun z=>nomatch z) h
 | @dT a kvs ea=>
  cases (show u=Value.ref a from rx)
  obtain ⟨_,_,xs,_,o,es,ep,h1,h2,_⟩:=(show ObjOk X.prog X.w H s.heap a (.dT kvs) from I.hok a _ ea)
  exact kia_one PySem.W.kitx_dict I.kIn ⟨o,h1,h2.1⟩ e (fun z=>nomatch z) h
 | @ins a C dx fs ea cl ha hn htk hm=>
  cases (show u=Value.ref a from rx)
  obtain ⟨mA,O,_⟩:=zn1 I.hok ea
  obtain ⟨od,J,_⟩:=O.look
  exact kia_one (PySem.W.kitx_own (cl.get _) cl.hd ha hn htk hm) I.kIn J e (fun z=>nomatch z) h
end
structure Room (k:Nat) (A:Around):Prop where
 hd:A.handled=none
 dp:A.depth+3 * k+5<recursionLimit
 un:A.units+16 * k+200<cLine
theorem Room.mono {j k:Nat} {A:Around} (r:Room k A) (h:j<=k):Room j A:=⟨r.hd,by have:=r.dp;omega,by have:=r.un;omega⟩
theorem Room.deeper {k:Nat} {A:Around} (r:Room (k+1) A) (env:Env):Room k (A.deeper env):=
 ⟨r.hd,by have:=r.dp;show A.depth+1+3 * k+5<_;omega,by have:=r.un;show A.units+3+16 * k+200<_;omega⟩
theorem Room.depth {k:Nat} {A:Around} (r:Room k A):A.depth<recursionLimit:=by have:=r.dp;omega
theorem Room.units {k:Nat} {A:Around} (r:Room k A):A.units+64<cLine:=by have:=r.un;omega
noncomputable def zqj:TA:=fun _ H Q=>Q [] H
noncomputable def z8l (ta:TE) (tr:TA):TA:=fun σ H Q=>ta σ H fun x H1=>tr σ H1 fun xs H2=>Q (x::xs) H2
section
variable {X:Cx} {e:Expr} {es:List Expr} {te:TE} {t:TA} {pos:Pos}
theorem pa_nil:PA X [] zqj:=fun _ _ _ _ H Q I h=>Calls.spliced_nil ⟨[],H,I,.nil,h⟩
theorem z2z (ha:PE X e te) (hr:PA X es t) (hs:starEach (e::es) X.env=(false,eval e X.env)::starEach es X.env:=by rfl):PA X (e::es) (z8l te t):=by
 intro pos pins s σ H Q I h
 rw [hs]
 show wpAny _ _ (spliced ((false,eval e X.env)::backTo pos (starEach es X.env))) _ _ s
 refine Calls.spliced_cons (thn (ha pins s σ H _ I h) fun u s1 ⟨x,H1,I1,r1,q1⟩=>?_)
 exact thn (hr pos pins s1 σ H1 _ I1 q1) fun us s2 ⟨xs,H2,I2,r2,q2⟩=>⟨x::xs,H2,I2,.cons r1 r2,q2⟩
noncomputable def zzz (t:TA):TE:=fun σ H Q=>t σ H fun xs H1=>xs.length<=sizeLine/\∀p,H1 p=none->Q (.ref p) (upd H1 p (.tup xs))
noncomputable def y00 (t:TA):TE:=fun σ H Q=>t σ H fun xs H1=>xs.length<=sizeLine/\∀p,H1 p=none->Q (.ref p) (upd H1 p (.lst xs))
theorem zr8 {x1} (h:PA X es t):PE X (.Tuple es x1 pos) (zzz t):=by
 intro pins s σ H Q I hq
 refine wpAny_Tuple_spliced (thn (h pos pins s σ H _ I hq) fun us s1 ⟨xs,H1,I1,r,z,q⟩=>⟨by rw [<-r.length];exact z,?_⟩)
 have hf:H1 s1.heap.objs.size=none:=I1.hok.fresh (Nat.le_refl _)
 refine ⟨.ref s1.heap.objs.size,upd H1 s1.heap.objs.size (.tup xs),I1.laid (t':=s1.toks) (fun b u e=>Heap.get?_push_of_some _ e) (Nat.le_refl _) ?_,rfl,q _ hf⟩
 exact ⟨z,us,r,⟨_,Heap.get?_push_size _ rfl,rfl,_,rfl⟩⟩
theorem zr9 (h:PA X es t):PE X (.List es pos) (y00 t):=by
 intro pins s σ H Q I hq
 refine wpAny_List_spliced (thn (h pos pins s σ H _ I hq) fun us s1 ⟨xs,H1,I1,r,z,q⟩=>⟨by rw [<-r.length];exact z,?_⟩)
 have hf:H1 s1.heap.objs.size=none:=I1.hok.fresh (Nat.le_refl _)
 refine ⟨.ref s1.heap.objs.size,upd H1 s1.heap.objs.size (.lst xs),I1.laid (t':=s1.toks) (fun b u e=>Heap.get?_push_of_some _ e) (Nat.le_refl _) ?_,rfl,q _ hf⟩
 exact ⟨z,us,0,r,Heap.get?_push_size _ rfl⟩
end
abbrev Sp:=List V->Hp->VK->XK->Prop
abbrev CXT:=List Env->Hp->Shared->XK->Value->Shared->Prop
structure Env0 (P:Program) (w:World) (K:Frag) (mg:Str->Option Value) (base:Heap) (A:Around) (outer:List Env) (s:Shared) (H:Hp):Prop where
 frames:A.frames=some outer
 mod:Mod K mg base
 bs:∀b o,base.get? b=some o->s.heap.get? b=some o/\H b=none
 bsz:base.objs.size<=s.heap.objs.size
 funs:s.heap.FunFrames base outer
 frf:∀b∈frs outer,H b=none
 hok:HOk P w H s.heap
 bare:AllBare s.gens
def CE (outer:List Env) (P:Program) (w:World) (H:Hp) (s:Shared) (Q:VK) (u:Value) (s':Shared):Prop:=
 ∃v H',s'.os=s.os/\AllBare s'.gens/\Un (frs outer) [] H H' s.heap s'.heap/\HOk P w H' s'.heap/\RelV v u/\Q v H'
def CR (CX:CXT) (outer:List Env) (P:Program) (w:World) (H:Hp) (s:Shared) (Q:VK) (E:XK) (r:Result) (s':Shared):Prop:=
 match r with
 | .ok (.ret u)=>CE outer P w H s Q u s'
 | .ok _=>False
 | .error e=>CX outer H s E e s'
structure FnOk (P:Program) (w:World) (K:Frag) (mg:Str->Option Value) (base:Heap) (CX:CXT) (k:Nat) (f:Addr) (fd:FuncData) (ps:List Str) (sp:Sp):Prop where
 len:∀vs H Q E,sp vs H Q E->vs.length=ps.length
 run:∀(A:Around) (outer:List Env) (s:Shared) (H:Hp) (args:Args) (us:List Value) (vs:List V) (Q:VK) (E:XK),Room k A->Env0 P w K mg base A outer s H->BindsTo s fd args (ps.zip us)->Vals vs us->sp vs H Q E ->
  codeAny (model P w) A (.call (.ref f) args) (CR CX outer P w H s Q E) s
theorem FnOk.imp {P:Program} {w:World} {K:Frag} {mg:Str->Option Value} {base:Heap} {CX:CXT} {k:Nat} {f:Addr} {fd:FuncData} {ps:List Str} {sp sp':Sp} (F:FnOk P w K mg base CX k f fd ps sp)
  (h:∀vs H Q E,sp' vs H Q E->sp vs H Q E):FnOk P w K mg base CX k f fd ps sp':=
 ⟨fun vs H Q E q=>F.len vs H Q E (h _ _ _ _ q),fun A outer s H args us vs Q E hr he hb hv hs=>F.run A outer s H args us vs Q E hr he hb hv (h _ _ _ _ hs)⟩
section
variable {X:Cx} {pins:List (Addr×Obj)} {σ:St} {H:Hp} {s s':Shared}
theorem Inv.env0 (I:Inv X pins σ H s):Env0 X.prog X.w X.K X.mg X.base X.A X.stack s H:=
 ⟨I.ok.frames,I.ok.mod,I.bs,Nat.le_trans I.ok.bsz I.sz,I.stack,I.stkFree,I.hok,I.bare⟩
theorem Inv.after {Q:VK} {u:Value} (I:Inv X pins σ H s) (h:CE X.stack X.prog X.w H s Q u s'):EP X pins σ Q u s':=by
 obtain ⟨v,H',os,bare,un,hok,r,q⟩:=h
 obtain ⟨hh,g,d,t,os'⟩:=s'
 obtain rfl:os'=s.os:=os
 exact ⟨v,H',I.call (h':=hh) (g':=g) (d':=d) (t':=t) (ch:=[]) un hok bare (fun b z=>absurd z (by simp)),r,q⟩
end
noncomputable def zra (sp:Sp) (dvs:List V) (E:XK) (t:TA):TE:=fun σ H Q=>t σ H fun vs H1=>sp (vs++dvs) H1 Q E
def Binds (K:Frag) (fd:FuncData) (ps:List Str) (ds:List Value):Prop:=
 ∀(s:Shared) (us:List Value),K.In s.heap->(us++ds).length=ps.length->BindsTo s fd ⟨us,[]⟩ (ps.zip (us++ds))
theorem Binds.all {K:Frag} {fd:FuncData} {ps:List Str} (h:∀us:List Value,us.length=ps.length->bindArgs fd ⟨us,[]⟩=pure (ps.zip us)):Binds K fd ps []:=fun s us _ hl=>by
 rw [List.append_nil] at hl ⊢
 exact .of_eq (h us hl)
def za0 (CX:CXT) (X:Cx) (E:XK):Prop:=∀(pins:List (Addr×Obj)) (σ:St) (H:Hp) (s:Shared) (e:Value) (s':Shared),Inv X pins σ H s->CX X.stack H s E e s'->X.xe e s'
section
variable {X:Cx} {CX:CXT} {k:Nat} {f:Addr} {fd:FuncData} {ps:List Str} {sp:Sp} {dvs:List V} {ds:List Value} {E:XK} {x:Str} {p pos:Pos} {e:Expr} {es:List Expr} {t:TA}
theorem zrb {pins:List (Addr×Obj)} {σ:St} {H:Hp} {s:Shared} {Q:VK} {us:List Value} {vs:List V} (F:FnOk X.prog X.w X.K X.mg X.base CX k f fd ps sp) (hr:Room k X.A) (hb:Binds X.K fd ps ds) (hd:Vals dvs ds) (hx:za0 CX X E)
  (I:Inv X pins σ H s) (r:Vals vs us) (h:sp (vs++dvs) H Q E):wpAny (model X.prog X.w) X.A (call (.ref f) us) (EP X pins σ Q) X.xe s:=by
 have r2:Vals (vs++dvs) (us++ds):=r.append hd
 have hl:(us++ds).length=ps.length:=by rw [<-r2.length];exact F.len _ _ _ _ h
 refine wpAny_call (codeAny_mono (F.run X.A X.stack s H ⟨us,[]⟩ (us++ds) (vs++dvs) Q E hr I.env0 (hb s us I.kIn hl) r2 h) fun r s' hq=>?_)
 cases r with
 | error e=>exact hx pins σ H s e s' I hq
 | ok fl=>
  cases fl with
  | ret u=>exact I.after hq
  | next=>exact False.elim hq
  | brk=>exact False.elim hq
  | cont=>exact False.elim hq
theorem zn2 (F:FnOk X.prog X.w X.K X.mg X.base CX k f fd ps sp) (hr:Room k X.A) (hg:Gl X x) (hm:X.mg x=some (.ref f)) (hk:keepIn X.K (.ref f)=true) (hb:Binds X.K fd ps ds) (hd:Vals dvs ds) (hx:za0 CX X E)
  (ha:PA X (e::es) t) (hdb:(x==("__debug__":Str))=false:=by decide) (he:starEach (e::es) X.env=(false,eval e X.env)::starEach es X.env:=by rfl) (hpl:(backTo pos (starEach es X.env)).any (·.1)=false:=by rfl) :
  PE X (.Call (.Name x p) (e::es) [] pos) (zra sp dvs E t):=by
 intro pins s σ H Q I h
 refine wpAny_Call_Name_kw (z58 I hg hm ?_ hdb)
 refine PySem.W.callWith_K (h₀:=X.base) I.ok.mod.kin hk (thn (ha pos pins s σ H _ I h) fun us s1 ⟨vs,H1,I1,r,q⟩=>⟨I1.kIn,?_⟩) he hpl
 exact zrb F hr hb hd hx I1 r q
end
structure FnScope (N P:List Str) (sc:Scope):Prop where
 kind:sc.kind=.function
 co:sc.isCoroutine=false
 gen:sc.isGenerator=false
 nd:N.Nodup
 pre:N.take P.length=P
 par:∀x∈P,sc.names.lookup x=some .local\/sc.names.lookup x=some .cell
 nofree:∀y∈sc.names,y.2≠.free
theorem za1 {kindOf:Str->Option NameKind} {x:Str}:∀{binds:List (Str×Value)} {m:Str->Option Value},(∀v,(x,v)∉binds)->bindL kindOf binds m x=m x
 | [],_,_=>rfl
 | (n,v)::r,m,h=>by
  unfold bindL
  rw [za1 fun w hw=>h w (List.mem_cons_of_mem _ hw)]
  split
  . have:x≠n:=by rintro rfl;exact h v List.mem_cons_self
    simp [this]
  . rfl
theorem za2 {kindOf:Str->Option NameKind} {x:Str}:∀{binds:List (Str×Value)} {m:Str->Option Value},(∀v,(x,v)∉binds)->bindC kindOf binds m x=m x
 | [],_,_=>rfl
 | (n,v)::r,m,h=>by
  unfold bindC
  rw [za2 fun w hw=>h w (List.mem_cons_of_mem _ hw)]
  split
  . rfl
  . have:x≠n:=by rintro rfl;exact h v List.mem_cons_self
    simp [this]
theorem za3 {kindOf:Str->Option NameKind} {x:Str} {v:Value}:∀{P:List Str} {vs:List Value} {i:Nat} {m:Str->Option Value},P.Nodup->P[i]?=some x->vs[i]?=some v->kindOf x=some .local ->
  bindL kindOf (P.zip vs) m x=some v
 | [],_,_,_,_,h,_,_=>by simp at h
 | _::_,[],_,_,_,_,h,_=>by simp at h
 | p::P,w::vs,0,m,nd,h1,h2,hk=>by
  simp at h1 h2;subst h1;subst h2
  show bindL kindOf ((p,w)::P.zip vs) m p=_
  unfold bindL
  rw [za1 fun v hv=>(List.nodup_cons.mp nd).1 (List.of_mem_zip hv).1,if_pos hk]
  simp
 | p::P,w::vs,i+1,m,nd,h1,h2,hk=>by
  show bindL kindOf ((p,w)::P.zip vs) m x=_
  unfold bindL
  exact za3 (i:=i) (List.nodup_cons.mp nd).2 (by simpa using h1) (by simpa using h2) hk
theorem za4 {kindOf:Str->Option NameKind} {x:Str} {v:Value}:∀{P:List Str} {vs:List Value} {i:Nat} {m:Str->Option Value},P.Nodup->P[i]?=some x->vs[i]?=some v->kindOf x≠some .local ->
  bindC kindOf (P.zip vs) m x=some v
 | [],_,_,_,_,h,_,_=>by simp at h
 | _::_,[],_,_,_,_,h,_=>by simp at h
 | p::P,w::vs,0,m,nd,h1,h2,hk=>by
  simp at h1 h2;subst h1;subst h2
  show bindC kindOf ((p,w)::P.zip vs) m p=_
  unfold bindC
  rw [za2 fun v hv=>(List.nodup_cons.mp nd).1 (List.of_mem_zip hv).1,if_neg hk]
  simp
 | p::P,w::vs,i+1,m,nd,h1,h2,hk=>by
  show bindC kindOf ((p,w)::P.zip vs) m x=_
  unfold bindC
  exact za4 (i:=i) (List.nodup_cons.mp nd).2 (by simpa using h1) (by simpa using h2) hk
noncomputable def z2k (N:List Str) (vs:List V):St:=vs.map some++List.replicate (N.length - vs.length) none
noncomputable def zcs (CX:CXT) (P:Program) (w:World) (K:Frag) (mg:Str->Option Value) (base:Heap) (N:List Str) (qual:Str) (scope:Scope) (f:Addr) (cd:Value) (A:Around) (outer:List Env) (s:Shared) (H:Hp) (E:XK):Cx where
 prog:=P
 w:=w
 K:=K
 mg:=mg
 base:=base
 A:=A.deeper (envOfC qual scope s.heap.objs.size f cd)
 N:=N
 s₀:=s
 H₀:=H
 env:=envOfC qual scope s.heap.objs.size f cd
 outer:=outer
 stack:=envOfC qual scope s.heap.objs.size f cd::outer
 ex:=[]
 calm:=true
 fn:=fun _=>true
 pn:=[]
 xe:=fun e s'=>wpAny (model P w) (A.deeper (envOfC qual scope s.heap.objs.size f cd)) (leaving (envOfC qual scope s.heap.objs.size f cd) e) (fun _ s''=>CX outer H s E e s'') (fun e' s''=>CX outer H s E e' s'') s'
theorem zct {sc:Scope} {n:Nat} {x:Str} (h:sc.names.lookup x=some .cell):∃c,(cellsFrom n sc.names []).lookup x=some c:=by
 have q:=PySem.W.cellsFrom_some sc.names n [] (.inl h)
 exact Option.isSome_iff_exists.mp q
theorem za5 {CX:CXT} {P:Program} {w:World} {K:Frag} {mg:Str->Option Value} {base:Heap} {N ps:List Str} {qual:Str} {scope:Scope} {f:Addr} {cd:Value} {A:Around} {outer:List Env} {s s1:Shared} {H:Hp} {E:XK} {us:List Value} {vs:List V}
  (S:FnScope N ps scope) (hd:A.handled=none) (e0:Env0 P w K mg base A outer s H) (hl:vs.length=ps.length) (r:Vals vs us)
  (x:InCallC s s.heap.objs.size (bindL (envOfC qual scope s.heap.objs.size f cd).kindOf (ps.zip us) fun _=>none) (cellsFrom (s.heap.objs.size+1) scope.names []) (bindC (envOfC qual scope s.heap.objs.size f cd).kindOf (ps.zip us) fun _=>none) s1) :
  Inv (zcs CX P w K mg base N qual scope f cd A outer s H E) [] (z2k N vs) H s1:=by
 have hpl:ps.length<=N.length:=by have:=congrArg List.length S.pre;rw [List.length_take] at this;omega
 obtain ⟨h1,tk,rfl,hk⟩:=x.done
 have noA:∀b:Addr,b∉(zcs CX P w K mg base N qual scope f cd A outer s H E).ex:=fun b z=>absurd (show b∈([]:List Addr) from z) (by simp)
 refine ⟨⟨e0.mod,S.kind,rfl,rfl,Nat.le_refl _,fun y z c h1 h2=>?_,fun y hy=>?_,fun y c _ h=>?_,fun _=>hd,Around.frames_deeper e0.frames,.inr ⟨rfl,rfl⟩,fun b z=>absurd z (noA b),e0.bs,e0.bsz,fun b _ _=>noA b,fun b z=>absurd z (noA b),e0.funs,e0.frf⟩,
  rfl,e0.bare,Un.kept hk,⟨_,x.toInCall.ns,fun i y v h1 h2 h3=>?_⟩,fun y c h=>⟨_,x.cell y c h⟩,e0.hok.fresh (Nat.le_refl _),fun y c h=>?_,fun p hp=>absurd (show p∈([]:List (Addr×Obj)) from hp) (by simp),e0.hok.kept hk,?_⟩
 . exact name_of_addr x.apart (PySem.mem_of_lookup h1) (PySem.mem_of_lookup h2)
 . have hy:scope.names.lookup y=some .cell\/scope.names.lookup y=some .free:=hy
   rcases hy with hy | hy
   . exact zct hy
   . exact absurd rfl (S.nofree _ (PySem.mem_of_lookup hy))
 . exact Nat.le_of_lt (x.above y c (PySem.mem_of_lookup h))
 . have hi:i<vs.length:=by
    unfold z2k at h2
    by_cases hi:i<vs.length
    . exact hi
    . rw [List.getElem?_append_right (by simpa using hi)] at h2
      rw [List.getElem?_replicate] at h2
      split at h2<;>cases h2
   have ha:vs[i]?=some v:=by
    unfold z2k at h2
    rw [List.getElem?_append_left (by simpa using hi),List.getElem?_map] at h2
    cases e:vs[i]? with
    | none=>rw [e] at h2;cases h2
    | some a=>rw [e] at h2;cases h2;rfl
   obtain ⟨u,hu,rv⟩:=r.get ha
   have hp:ps[i]?=some y:=by
    rw [<-S.pre,List.getElem?_take_of_lt (by omega)];exact h1
   have ndP:ps.Nodup:=by rw [<-S.pre];exact S.nd.sublist (List.take_sublist _ _)
   refine ⟨u,rv,?_⟩
   rcases S.par y (List.mem_of_getElem? hp) with k | k
   . exact .inl ⟨k,za3 ndP hp hu k⟩
   . obtain ⟨c,e⟩:=zct (n:=s.heap.objs.size+1) k
     refine .inr ⟨.inl k,c,e,?_⟩
     have q:=x.cell y c e
     rw [za4 ndP hp hu (by show scope.names.lookup y≠_;rw [k];decide)] at q
     exact q
 . exact e0.hok.fresh (Nat.le_of_lt (x.above y c (PySem.mem_of_lookup h)))
 . unfold z2k
   show _=N.length
   rw [List.length_append,List.length_map,List.length_replicate]
   omega
theorem zrc {CX:CXT} {P:Program} {w:World} {K:Frag} {mg:Str->Option Value} {base:Heap} {k:Nat} {f:Addr} {name qual:Str} {params:Arguments} {body:List Stmt} {scope:Scope} {dV kV doc pm cdv ct oc:Value} {an od:Option Addr}
  {osl:Array (Option Value)} {N ps:List Str} {sp:Sp} (lk:K.lookup f=some ⟨oc,od,.func (PySem.W.fnOf name qual params body scope dV kV doc pm an cdv ct),osl⟩) (hcd:codeIn K cdv qual=true) (S:FnScope N ps scope)
  (len:∀vs H Q E,sp vs H Q E->vs.length=ps.length)
  (hbody:∀(A:Around) (outer:List Env) (s:Shared) (H:Hp) (vs:List V) (Q:VK) (E:XK),Room k (A.deeper (envOfC qual scope s.heap.objs.size f cdv))->sp vs H Q E ->
   ∃t,PSs (zcs CX P w K mg base N qual scope f cdv A outer s H E) body t/\t { nx:=fun _ H'=>Q .non H',rt:=Q } (z2k N vs) H) :
  FnOk P w K mg base CX (k+1) f (PySem.W.fnOf name qual params body scope dV kV doc pm an cdv ct) ps sp:=by
 refine ⟨len,fun A outer s H args us vs Q E hr e0 hb r hsp=>?_⟩
 have hl:=len _ _ _ _ hsp
 have KX:K.In s.heap:=e0.mod.kin.keeps fun b o e=>(e0.bs b o e).1
 have lim:s.heap.NoLimit:=e0.mod.nolimit.keeps fun b o e=>(e0.bs b o e).1
 have hkind:∀y∈ps.zip us,scope.names.lookup y.1=some .local\/(scope.names.lookup y.1=some .cell/\((cellsFrom (s.heap.objs.size+1) scope.names []).lookup y.1).isSome=true):=fun ⟨n,v⟩ hy=>by
  rcases S.par n (List.of_mem_zip hy).1 with q | q
  . exact .inl q
  . exact .inr ⟨q,PySem.W.cellsFrom_some _ _ _ (.inl q)⟩
 refine codeAny_call_function hr.depth (KX _ _ lk) rfl S.co S.gen rfl (PySem.W.codeRec_of KX hcd) (hb _ _ _ _ ?_)
 refine wpAny_newFunctionEnv_cells S.kind hkind fun env he s1 x=>?_
 subst he
 refine ⟨lim.keeps x.toInCall.keep,codeAny_func ?_⟩
 obtain ⟨t,ht,hq⟩:=hbody A outer s H vs Q E (hr.deeper _) hsp
 have I:Inv (zcs CX P w K mg base N qual scope f cdv A outer s H E) [] (z2k N vs) H s1:=za5 S hr.hd e0 hl r x
 refine wpAny_mono (ht [] s1 (z2k N vs) H _ I hq) (fun fl s' hs=>?_) fun e s' hs=>hs
 have fin:∀{σ':St} {H':Hp} {v:V} {u:Value},Inv (zcs CX P w K mg base N qual scope f cdv A outer s H E) [] σ' H' s'->RelV v u->Q v H'->CE outer P w H s Q u s':=
  fun {σ' H' v u} J rv q=>⟨v,H',J.os,J.bare,J.base,J.hok,rv,q⟩
 cases fl with
 | ret u=>
  obtain ⟨v,σ',H',J,rv,q⟩:=hs
  exact fin J rv q
 | next=>
  obtain ⟨σ',H',J,q⟩:=hs
  exact fin (v:=V.non) (u:=Value.none) J rfl q
 | brk=>
  obtain ⟨_,_,_,q⟩:=hs
  exact False.elim q
 | cont=>
  obtain ⟨_,_,_,q⟩:=hs
  exact False.elim q
section
variable {X:Cx} {x:Str} {p pos:Pos} {e:Expr} {es:List Expr} {t:TA} {id T:String} {r:List V->Hp->VK->Prop}
noncomputable def tCB (r:List V->Hp->VK->Prop) (t:TA):TE:=fun σ H Q=>t σ H fun vs H1=>r vs H1 Q
theorem z8m (hc:CallR X (.builtin id) r) (hg:Gl X x) (hm:X.mg x=none) (hv:bootBuiltins x=some (.builtin id)) (ha:PA X (e::es) t) (hn:x≠"__name__":=by decide) (hdb:(x==("__debug__":Str))=false:=by decide)
  (he:starEach (e::es) X.env=(false,eval e X.env)::starEach es X.env:=by rfl) (hpl:(backTo pos (starEach es X.env)).any (·.1)=false:=by rfl):PE X (.Call (.Name x p) (e::es) [] pos) (tCB r t):=by
 intro pins s σ H Q I h
 refine wpAny_Call_Name_kw (z4a I hg hm hv ?_ hn hdb)
 exact PyProof.Rows.callWith_builtin1 (thn (ha pos pins s σ H _ I h) fun us s1 ⟨vs,H1,I1,r1,q1⟩=>hc pins s1 σ H1 vs us Q I1 r1 q1) he hpl
theorem zf8 (hc:CallR X (.type T) r) (hg:Gl X x) (hm:X.mg x=none) (hv:bootBuiltins x=some (.type T)) (ha:PA X (e::es) t) (hn:x≠"__name__":=by decide) (hdb:(x==("__debug__":Str))=false:=by decide)
  (he:starEach (e::es) X.env=(false,eval e X.env)::starEach es X.env:=by rfl) (hpl:(backTo pos (starEach es X.env)).any (·.1)=false:=by rfl):PE X (.Call (.Name x p) (e::es) [] pos) (tCB r t):=by
 intro pins s σ H Q I h
 refine wpAny_Call_Name_kw (z4a I hg hm hv ?_ hn hdb)
 exact PyProof.Rows.callWith_type1 (thn (ha pos pins s σ H _ I h) fun us s1 ⟨vs,H1,I1,r1,q1⟩=>hc pins s1 σ H1 vs us Q I1 r1 q1) he hpl
end
end L2
namespace HT
open PySem PyProof.Rows
theorem rcLt_int (A:Around) (s:Shared) (a:Int) (t:Tok) (c:Int) (u:Tok) (prog:Program) (w:World) (E:Value->Shared->Prop) (Q:Value->Shared->Prop) (h:Q (.bool (decide (a<c))) s) :
  wpAny (model prog w) A (richCompare .Lt (.int a t) (.int c u)) Q E s:=
 (PyProof.Rows.lt_int h:wpAny (model prog w) A (compareOp .Lt (.int a t) (.int c u)) Q E s)
section
open PySem.SeqAt
open PySem.AutoSeq1 (wpAny_loadPart')
open PySem.MeetsSeq PySem.MeetsSeq2 PySem.MeetsSeq3
end
section
variable {prog:Program} {w:World} {A:Around} {E:Value->Shared->Prop} {s:Shared}
theorem cat_tup {t b:Addr} {vs ws:List Value} {Q:Value->Shared->Prop} (ht:IsTup s.heap t vs.toArray) (hb:IsTup s.heap b ws.toArray) (hv:vs≠[])
  (h1:ws=[]->Q (.ref t) s) (h2:ws≠[]->Q (.ref s.heap.objs.size) { s with heap:=s.heap.push { cls:=.type "tuple",data:=.seq (vs++ws).toArray } })
  (hsz:vs.length+ws.length<=sizeLine):wpAny (model prog w) A (binaryOp .Add (.ref t) (.ref b)) Q E s:=by
 obtain ⟨⟨cls,dd,data,sl⟩,ho,hc,n,hd⟩:=id ht
 obtain ⟨⟨cls2,dd2,data2,sl2⟩,ho2,hc2,n2,hd2⟩:=id hb
 simp only at hc hd hc2 hd2
 subst hc hd hc2 hd2
 have e:vs.toArray++ws.toArray=(vs++ws).toArray:=by simp
 by_cases hw:ws=[]
 . exact concat_meets ⟨_,ho,rfl⟩ ⟨_,ho2,rfl⟩ noFill_tuple_add seq_tuple_add PySem.F.slot_tuple_add PySem.F.entry_tuple_add (PySem.F.args_tuple_add_2 _ _)
    (tuple_addW1 t b vs.toArray ws.toArray n n2 dd dd2 sl sl2 (by simpa using hv) (by simp [hw])) ⟨ho,ho2,h1 hw⟩
 . refine concat_meets ⟨_,ho,rfl⟩ ⟨_,ho2,rfl⟩ noFill_tuple_add seq_tuple_add PySem.F.slot_tuple_add PySem.F.entry_tuple_add (PySem.F.args_tuple_add_2 _ _)
    (tuple_addW2 t b vs.toArray ws.toArray n n2 dd dd2 sl sl2 (by simpa using hv) (by simpa using hw) (by rw [List.size_toArray,List.size_toArray];exact hsz)) ⟨ho,ho2,?_⟩
   rw [e]
   exact h2 hw
def sIx (n d:Nat):Option Int->Nat
 | none=>d
 | some v=>if v<0 then (v+(n:Int)).toNat else min v.toNat n
end
end HT
namespace L2
open PySem PySem.Spec PyProof.Rows
abbrev TO:=St->Hp->(Option Int->Hp->Prop)->Prop
def PO (X:Cx) (e:Option Expr) (t:TO):Prop:=
 ∀(pins:List (Addr×Obj)) (s:Shared) (σ:St) (H:Hp) (Q:Option Int->Hp->Prop),Inv X pins σ H s->t σ H Q ->
  wpAny (model X.prog X.w) X.A (evalPart e X.env) (fun u s'=>∃o H',Inv X pins σ H' s'/\IsPart u o/\Q o H') X.xe s
noncomputable def zn3:TO:=fun _ H Q=>Q none H
noncomputable def zwv (t:TE):TO:=fun σ H Q=>t σ H fun x H1=>∃i,x=.int i/\Q (some i) H1
theorem z80 {ns:List Int}:∀{us:List Value},Vals (ns.map V.int) us->IntsAre us ns:=by
 induction ns with
 | nil=>intro us r;rw [List.map_nil] at r;cases r;exact .nil
 | cons n ns ih=>
  intro us r
  rw [List.map_cons] at r
  cases r with
  | cons r1 r2=>
   obtain ⟨t,e⟩:=r1
   subst e
   exact .cons n t (ih r2)
section
variable {X:Cx} {e:Expr} {te:TE} {lo hi:Option Expr} {tl th:TO} {pos p2:Pos}
theorem po_none:PO X none zn3:=by
 intro pins s σ H Q I h
 rw [evalPart_none]
 exact wpAny_pure ⟨none,H,I,.none,h⟩
theorem zn4 (h:PE X e te):PO X (some e) (zwv te):=by
 intro pins s σ H Q I hw
 rw [evalPart_some]
 refine thn (h pins s σ H _ I hw) fun u s1 ⟨x,H1,I1,r1,q1⟩=>?_
 obtain ⟨i,rfl,q⟩:=q1
 obtain ⟨t,rfl⟩:=r1
 exact ⟨some i,H1,I1,.int i t,q⟩
def SlR (X:Cx) (r:V->Option Int->Option Int->Hp->VK->Prop):Prop:=
 ∀(pins:List (Addr×Obj)) (s:Shared) (σ:St) (H:Hp) (x:V) (v vl vu:Value) (lo hi:Option Int) (sl:Addr) (Q:VK),Inv X pins σ H s->RelV x v->s.heap.IsSliceOf sl vl vu .none->IsPart vl lo->IsPart vu hi->r x lo hi H Q ->
  ∃T id,typeLookup (.type T) "__getitem__"=pure (some (.builtin id))/\s.TypeIs v T/\wpAny (model X.prog X.w) X.A (getItem v (.ref sl)) (EP X pins σ Q) X.xe s
noncomputable def tSl (r:V->Option Int->Option Int->Hp->VK->Prop) (te:TE) (tl th:TO):TE:=fun σ H Q=>te σ H fun x H1=>tl σ H1 fun l H2=>th σ H2 fun u H3=>r x l u H3 Q
theorem zir {r:V->Option Int->Option Int->Hp->VK->Prop} (hr:SlR X r) (he:PE X e te) (hl:PO X lo tl) (hu:PO X hi th):PE X (.Subscript e (.Slice lo hi none p2) pos) (tSl r te tl th):=by
 intro pins s σ H Q I h
 refine Subscript_ (thn (he pins s σ H _ I h) fun v s1 ⟨x,H1,I1,r1,q1⟩=>?_)
 refine wpAny_Slice (thn (hl pins s1 σ H1 _ I1 q1) fun vl s2 ⟨l,H2,I2,pl,q2⟩=>thn (hu pins s2 σ H2 _ I2 q2) fun vu s3 ⟨u,H3,I3,pu,q3⟩=>?_)
 rw [evalPart_none]
 refine wpAny_pure ?_
 have I4:Inv X pins σ H3 { s3 with heap:=s3.heap.push { cls:=.type "slice",data:=.fields #[vl,vu,.none] } }:=I3.kept (t':=s3.toks) fun b ob q=>Heap.get?_push_of_some _ q
 obtain ⟨T,id,hT,ht,hg⟩:=hr pins { s3 with heap:=s3.heap.push { cls:=.type "slice",data:=.fields #[vl,vu,.none] } } σ H3 x v vl vu l u s3.heap.objs.size Q I4 r1 (Heap.IsSliceOf.new ..) pl pu q3
 show wpAny (model X.prog X.w) X.A (subscriptTail e (.Slice lo hi none p2) v (.ref s3.heap.objs.size)) (EP X pins σ Q) X.xe { s3 with heap:=s3.heap.push { cls:=.type "slice",data:=.fields #[vl,vu,.none] } }
 exact tail_any (ops:=[.ref s3.heap.objs.size,v]) ht hT hg (by with_unfolding_all rfl)
noncomputable def zqk (xs:List V) (lo hi:Option Int):List V:=(xs.drop (HT.sIx xs.length 0 lo)).take (HT.sIx xs.length xs.length hi - HT.sIx xs.length 0 lo)
theorem zbq (xs:List V) (lo hi:Option Int):(zqk xs lo hi).length<=xs.length:=by
 unfold zqk
 rw [List.length_take,List.length_drop]
 omega
noncomputable def zww (K:Frag):R2:=fun x y H Q=>∃a b xs ys,x=.ref a/\y=.ref b/\SqT K H a xs/\SqT K H b ys/\xs≠[]/\xs.length+ys.length<=sizeLine /\
 (ys=[]->Q (.ref a) H)/\(ys≠[]->∀p,H p=none->Q (.ref p) (upd H p (.tup (xs++ys))))
theorem Vals.nil_iff {xs:List V} {us:List Value} (r:Vals xs us):us=[]↔xs=[]:=by
 cases r with
 | nil=>simp
 | cons _ _=>simp
theorem zn5:OpR X (binaryOp .Add) (zww X.K):=by
 intro pins s σ H x y v u Q I rx ry h
 obtain ⟨a,b,xs,ys,rfl,rfl,ha,hb,hx,hz,q1,q2⟩:=h
 cases rx
 cases ry
 obtain ⟨its,r1,p1,_⟩:=I.tuple ha
 obtain ⟨its2,r2,p2,_⟩:=I.tuple hb
 refine HT.cat_tup p1 p2 (fun z=>hx (r1.nil_iff.mp z)) (fun z=>⟨.ref a,H,I,rfl,q1 (r2.nil_iff.mp z)⟩) (fun z=>?_) (by rw [<-r1.length,<-r2.length];exact hz)
 refine ⟨.ref s.heap.objs.size,_,I.laid (t':=s.toks) (o:=.tup (xs++ys)) (fun b ob q=>Heap.get?_push_of_some _ q) (Nat.le_refl _) ?_,rfl,q2 (fun w=>z (r2.nil_iff.mpr w)) _ (I.hok.fresh (Nat.le_refl _))⟩
 exact ⟨by rw [List.length_append];exact hz,_,r1.append r2,IsTup.new _ _⟩
end
noncomputable def ixN (n:Nat) (i:Int):Option Nat:=if 0<=i then (if i<n then some i.toNat else none) else if -(n:Int)<=i then some (i+n).toNat else none
noncomputable def atI {α:Type} (xs:List α) (i:Int):Option α:=(ixN xs.length i).bind fun j=>xs[j]?
theorem zf9 {n:Nat} {i:Int} {j:Nat} (h:ixN n i=some j):seqIndex? i n=some j/\j<n/\-(n:Int)<=i/\i<n:=by
 unfold ixN at h
 by_cases h0:0<=i
 . rw [if_pos h0] at h
   by_cases h1:i<n
   . rw [if_pos h1] at h
     have e:i.toNat=j:=Option.some.inj h
     exact ⟨by rw [seqIndex_of h0 h1,e],by omega,by omega,h1⟩
   . rw [if_neg h1] at h;cases h
 . rw [if_neg h0] at h
   by_cases h1:-(n:Int)<=i
   . rw [if_pos h1] at h
     have e:(i+n).toNat=j:=Option.some.inj h
     exact ⟨by rw [seqIndex_neg (by omega) h1,e],by omega,h1,by omega⟩
   . rw [if_neg h1] at h;cases h
theorem zbr {α:Type} {xs:List α} {i:Int} {v:α} (h:atI xs i=some v):∃j,seqIndex? i xs.length=some j/\xs[j]?=some v/\j<xs.length/\-(xs.length:Int)<=i/\i<xs.length:=by
 unfold atI at h
 cases e:ixN xs.length i with
 | none=>rw [e] at h;cases h
 | some j=>
  rw [e] at h
  obtain ⟨h1,h2,h3,h4⟩:=zf9 e
  exact ⟨j,h1,h,h2,h3,h4⟩
theorem z8n {α:Type} {xs:List α} {j:Nat} {v:α} (h:xs[j]?=some v):atI xs (j:Int)=some v:=by
 have hj:j<xs.length:=(List.getElem?_eq_some_iff.mp h).1
 have e:ixN xs.length (j:Int)=some j:=by
  unfold ixN
  rw [if_pos (by omega),if_pos (by omega)];simp
 unfold atI;rw [e];exact h
theorem zis {α:Type} (xs:List α) (v:α):atI (xs++[v]) (-1)=some v:=by
 have hl:(xs++[v]).length=xs.length+1:=by simp
 have e:ixN (xs++[v]).length (-1)=some xs.length:=by
  unfold ixN
  rw [hl,if_neg (by decide),if_pos (by omega)]
  congr 1
  omega
 unfold atI
 rw [e]
 show (xs++[v])[xs.length]?=some v
 simp
def zbs (b:Expr):Prop:=∀o i,subscripted b false o i=operate [o,i] (getItem o i)
def IxR (X:Cx) (r:R2):Prop:=
 ∀(value slice:Expr) (pins:List (Addr×Obj)) (s:Shared) (σ:St) (H:Hp) (x y:V) (v u:Value) (Q:VK),Inv X pins σ H s->RelV x v->RelV y u->r x y H Q ->
  subscripted slice false v u=operate [v,u] (getItem v u)->wpAny (model X.prog X.w) X.A (subscriptTail value slice v u) (EP X pins σ Q) X.xe s
def MtR (X:Cx) (id:String) (r:V->List V->Hp->VK->Prop):Prop:=
 ∀(pins:List (Addr×Obj)) (s:Shared) (σ:St) (H:Hp) (x:V) (xs:List V) (v:Value) (us:List Value) (Q:VK),Inv X pins σ H s->RelV x v->Vals xs us->r x xs H Q ->
  wpAny (model X.prog X.w) X.A (call (.builtin id) (v::us)) (EP X pins σ Q) X.xe s
section
variable {X:Cx} {a b:Expr} {ta tb:TE} {pos:Pos}
theorem IxR.or {r r':R2} (h:IxR X r) (h':IxR X r'):IxR X (fun x y H Q=>r x y H Q\/r' x y H Q):=by
 intro value slice pins s σ H x y v u Q I rx ry q hs
 rcases q with q | q
 . exact h value slice pins s σ H x y v u Q I rx ry q hs
 . exact h' value slice pins s σ H x y v u Q I rx ry q hs
theorem zwx {r:R2} (hr:IxR X r) (ha:PE X a ta) (hb:PE X b tb) (hs:zbs b):PE X (.Subscript a b pos) (tOp r ta tb):=by
 intro pins s σ H Q I h
 exact Subscript_ (zwq ha hb I h fun v u s2 x y H2 I2 rx ry q=>hr a b pins s2 σ H2 x y v u Q I2 rx ry q (hs _ _))
noncomputable def y01 (K:Frag):R2:=fun x y H Q=>∃p xs i v,x=.ref p/\y=.int i/\SqL K H p xs/\atI xs i=some v/\Q v H
noncomputable def y02 (K:Frag):R2:=fun x y H Q=>∃p xs i v,x=.ref p/\y=.int i/\SqT K H p xs/\atI xs i=some v/\Q v H
noncomputable def y03:R2:=fun x y H Q=>∃z i c,x=.str z/\y=.int i/\z.length<=sizeLine/\atI z.cps.toList i=some c/\Q (.str ⟨#[c]⟩) H
theorem ix_list:IxR X (y01 X.K):=by
 intro value slice pins s σ H x y v u Q I rx ry h hs
 obtain ⟨p,xs,i,z,rfl,rfl,hq,he,q⟩:=h
 cases rx
 obtain ⟨t,rfl⟩:=ry
 obtain ⟨its,r,pl,hz⟩:=I.list hq
 obtain ⟨j,h1,h2,h3,h4,h5⟩:=zbr he
 obtain ⟨w,ew,rw'⟩:=r.get h2
 have hl:=r.length
 have hn:=z6m
 have fin:EP X pins σ Q w s:=⟨z,H,I,rw',q⟩
 by_cases h0:0<=i
 . have hj:i.toNat=j:=by
    rw [seqIndex_of h0 h5] at h1
    exact Option.some.inj h1
   exact item_listR pl.isList h0 (by omega) (by rw [hj];simpa using ew) fin hs
 . have hj:(i+(its.toArray.size:Int)).toNat=j:=by
    rw [seqIndex_neg (by omega) h4] at h1
    rw [List.size_toArray,<-hl]
    exact Option.some.inj h1
   exact subscriptTail_builtinR (x:=w) pl.isList.typeIs slot_list_getitem.lookup
    (wpAny_getItem_list_neg (Q:=fun r s'=>r=w/\EP X pins σ Q r s') pl.isList (by omega) (by rw [List.size_toArray]<;>omega) (by omega) (by rw [hj];simpa using ew) ⟨rfl,fin⟩) hs
theorem ix_tup:IxR X (y02 X.K):=by
 intro value slice pins s σ H x y v u Q I rx ry h hs
 obtain ⟨p,xs,i,z,rfl,rfl,hq,he,q⟩:=h
 cases rx
 obtain ⟨t,rfl⟩:=ry
 obtain ⟨its,r,pl,hz⟩:=I.tuple hq
 obtain ⟨j,h1,h2,h3,h4,h5⟩:=zbr he
 obtain ⟨w,ew,rw'⟩:=r.get h2
 have hl:=r.length
 have hn:=z6m
 have fin:EP X pins σ Q w s:=⟨z,H,I,rw',q⟩
 exact subscriptTail_builtinR (x:=w) pl.typeIs slot_tuple_getitem.lookup
  (getItem_tuple (j:=j) (Q:=fun r s'=>r=w/\EP X pins σ Q r s') pl (by omega) (by omega) (by rw [List.size_toArray,<-hl];exact h1) (by simpa using ew) ⟨rfl,fin⟩) hs
theorem zrd:IxR X y03:=by
 intro value slice pins s σ H x y v u Q I rx ry h hs
 obtain ⟨z,i,c,rfl,rfl,hz,he,q⟩:=h
 obtain ⟨t,rfl⟩:=rx
 obtain ⟨t',rfl⟩:=ry
 obtain ⟨j,h1,h2,h3,h4,h5⟩:=zbr he
 have hl:z.cps.toList.length=z.length:=by simp [Str.length]
 rw [hl] at h1 h4 h5
 have hn:=z6m
 exact tail_any (typeIs_str s z t) slot_str_getitem.lookup (getItem_str (c:=c) (by
  have e1:decide (i < -(2 ^ 63:Int))=false:=decide_eq_false (by omega)
  have e2:decide (i ≥ 2 ^ 63)=false:=decide_eq_false (by omega)
  rw [e1,e2,Bool.or_false]) (by rw [h1];simpa using h2) ⟨.str ⟨#[c]⟩,H,I.tok _,⟨_,rfl⟩,q⟩) hs
noncomputable def rIx (K:Frag):R2:=fun x y H Q=>y01 K x y H Q\/y02 K x y H Q\/y03 x y H Q
theorem ix_seq:IxR X (rIx X.K):=ix_list.or (ix_tup.or zrd)
theorem ze8 (its:List Value) (n j:Nat) (u:Value):Obj.mapSeq (·.setIfInBounds j u) { cls:=.type "list",data:=.seq its.toArray n }={ cls:=.type "list",data:=.seq (its.set j u).toArray n }:=by
 simp [Obj.mapSeq]
theorem Inv.lst {pins:List (Addr×Obj)} {σ:St} {H:Hp} {s:Shared} {p:Addr} {xs:List V} (I:Inv X pins σ H s) (h:H p=some (.lst xs)) :
  ∃(its:List Value) (n:Nat),Vals xs its/\s.heap.get? p=some { cls:=.type "list",data:=.seq its.toArray n }/\xs.length<=sizeLine:=by
 obtain ⟨z,its,n,r,e⟩:=I.hok p _ h
 exact ⟨its,n,r,e,z⟩
theorem Inv.lstUpd {pins:List (Addr×Obj)} {σ:St} {H:Hp} {s:Shared} {p:Addr} {xs ys:List V} {its its':List Value} {n n':Nat} {f:Obj->Obj} (I:Inv X pins σ H s) (h:H p=some (.lst xs))
  (ho:s.heap.get? p=some { cls:=.type "list",data:=.seq its.toArray n }) (hf:f { cls:=.type "list",data:=.seq its.toArray n }={ cls:=.type "list",data:=.seq its'.toArray n' }) (r:Vals ys its') (hz:ys.length<=sizeLine) (t:Nat) :
  Inv X pins σ (upd H p (.lst ys)) { s with heap:=s.heap.update p f,toks:=t }:=by
 have e:(s.heap.update p f).get? p=some { cls:=.type "list",data:=.seq its'.toArray n' }:=by
  rw [Heap.get?_update_self f ho (by rw [hf]<;>rfl),hf]
 refine I.write (x:=p) (e:=p) (by rw [h];trivial) (.inl rfl) (fun b u hb q=>(Heap.get?_update_other _ _ (Ne.symm hb)).trans q) ⟨_,e⟩ ?_
 exact ⟨hz,its',n',r,e⟩
def zre:V->V->V->Hp->(Hp->Prop)->Prop:=fun o i v H Q=>∃p xs k j,o=.ref p/\i=.int k/\H p=some (.lst xs)/\ixN xs.length k=some j/\Q (upd H p (.lst (xs.set j v)))
theorem zit:zw7 X zre:=by
 intro pins s σ H o i v ov iv u Q I ro ri rv h
 obtain ⟨p,xs,k,j,rfl,rfl,hp,hj,q⟩:=h
 cases ro
 obtain ⟨t,rfl⟩:=ri
 obtain ⟨its,n,r,ho,hz⟩:=I.lst hp
 obtain ⟨h1,h2,h3,h4⟩:=zf9 hj
 have hl:=r.length
 have hn:=z6m
 have I':Inv X pins σ (upd H p (.lst (xs.set j v))) { s with heap:=s.heap.update p (Obj.mapSeq (·.setIfInBounds j u)) }:=
  I.lstUpd hp ho (ze8 its n j u) (r.set rv j) (by rw [List.length_set];exact hz) s.toks
 by_cases h0:0<=k
 . have hk:k.toNat=j:=by
    rw [seqIndex_of h0 h4] at h1
    exact Option.some.inj h1
   exact PySem.W.ki_setAt ho h0 (by omega) (by rw [List.size_toArray,<-hl];exact h4) (by rw [hk];exact ⟨_,I',q⟩)
 . have hk:(k+(its.toArray.size:Int)).toNat=j:=by
    rw [seqIndex_neg (by omega) h3] at h1
    rw [List.size_toArray,<-hl]
    exact Option.some.inj h1
   exact PySem.W.ki_setBack ho (by omega) (by rw [List.size_toArray,<-hl];exact h3) (by omega) (by rw [hk];exact ⟨_,I',q⟩)
theorem za6 (lo hi:Option Int) (n:Nat):(sliceBounds lo hi none n).1=((HT.sIx n 0 lo:Nat):Int)/\(sliceBounds lo hi none n).2.1=((HT.sIx n n hi:Nat):Int)/\(sliceBounds lo hi none n).2.2=1:=by
 refine ⟨?_,?_,rfl⟩
 . cases lo with
   | none=>simp [sliceBounds,HT.sIx]
   | some i=>
    simp only [sliceBounds,HT.sIx,Option.getD_none,show (1:Int) > 0 by decide,if_true]
    by_cases h:i<0
    . simp only [h,if_true]<;>omega
    . simp only [h,if_false]<;>omega
 . cases hi with
   | none=>simp [sliceBounds,HT.sIx]
   | some i=>
    simp only [sliceBounds,HT.sIx,Option.getD_none,show (1:Int) > 0 by decide,if_true]
    by_cases h:i<0
    . simp only [h,if_true]<;>omega
    . simp only [h,if_false]<;>omega
theorem z8o (its:List Value) (lo hi:Option Int):slicePick its.toArray lo hi none=((its.drop (HT.sIx its.length 0 lo)).take (HT.sIx its.length its.length hi - HT.sIx its.length 0 lo)).toArray:=by
 obtain ⟨h1,h2,h3⟩:=za6 lo hi its.toArray.size
 unfold slicePick
 rw [h1,h2,h3]
 simp only [sliceRange_one,pick_run,List.size_toArray]<;>rfl
def y04 (K:Frag):V->Option Int->Option Int->Hp->VK->Prop:=fun x lo hi H Q=>∃a xs,x=.ref a/\SqL K H a xs/\∀p,H p=none->Q (.ref p) (upd H p (.lst (zqk xs lo hi)))
theorem zfa:SlR X (y04 X.K):=by
 intro pins s σ H x v vl vu lo hi sl Q I rx hs pl pu h
 obtain ⟨a,xs,rfl,hx,q⟩:=h
 cases rx
 obtain ⟨its,r,ht,hz⟩:=I.list hx
 have hlen:=r.length
 refine ⟨"list",_,slot_list_getitem.lookup,ht.isList.typeIs,?_⟩
 refine wpAny_getItem_list_slice ht.isList hs pl pu .none (by simp) ?_ (by rw [List.size_toArray]<;>omega)
 rw [z8o,<-hlen]
 refine ⟨.ref s.heap.objs.size,_,I.laid (t':=s.toks) (o:=.lst (zqk xs lo hi)) (fun b ob q=>Heap.get?_push_of_some _ q) (Nat.le_refl _) ?_,rfl,q _ (I.hok.fresh (Nat.le_refl _))⟩
 exact ⟨Nat.le_trans (zbq xs lo hi) hz,_,0,(r.drop (HT.sIx xs.length 0 lo)).take (HT.sIx xs.length xs.length hi - HT.sIx xs.length 0 lo),Heap.get?_push_size _ rfl⟩
theorem call_len_seq:CallR X (.builtin "len") (fun xs H Q=>∃p ys,xs=[.ref p]/\(SqL X.K H p ys\/SqT X.K H p ys)/\Q (.int ys.length) H):=by
 intro pins s σ H xs us Q I r h
 obtain ⟨p,ys,rfl,hq,q⟩:=h
 obtain ⟨u,rfl,rx⟩:=z63 r
 cases rx
 have hn:=z6m
 rcases hq with hq | hq
 . obtain ⟨its,r',pl,hz⟩:=I.list hq
   have hlen:=r'.length
   exact Calls.call_len_list pl.isList (by simp only [List.size_toArray]<;>omega) ⟨.int ys.length,H,I.tok _,⟨s.toks+1,by rw [List.size_toArray,hlen]⟩,q⟩
 . obtain ⟨its,r',pl,hz⟩:=I.tuple hq
   have hlen:=r'.length
   exact len_tuple pl (by simp only [List.size_toArray]<;>omega) ⟨.int ys.length,H,I.tok _,⟨s.toks+1,by rw [List.size_toArray,hlen]⟩,q⟩
theorem za7:CallR X (.builtin "len") (fun xs H Q=>∃z,xs=[.str z]/\z.length<=sizeLine/\Q (.int z.length) H):=by
 intro pins s σ H xs us Q I r h
 obtain ⟨z,rfl,hz,q⟩:=h
 obtain ⟨u,rfl,t,rfl⟩:=z63 r
 have hn:=z6m
 exact len_str (by omega) ⟨.int z.length,H,I.tok _,⟨_,rfl⟩,q⟩
theorem CallR.or {f:Value} {r r':List V->Hp->VK->Prop} (h:CallR X f r) (h':CallR X f r'):CallR X f (fun xs H Q=>r xs H Q\/r' xs H Q):=by
 intro pins s σ H xs us Q I rs q
 rcases q with q | q
 . exact h pins s σ H xs us Q I rs q
 . exact h' pins s σ H xs us Q I rs q
theorem za8:CallR X (.type "list") (fun xs H Q=>∃p ys,xs=[.ref p]/\(SqL X.K H p ys\/SqT X.K H p ys)/\∀l,H l=none->Q (.ref l) (upd H l (.lst ys))):=by
 intro pins s σ H xs us Q I r h
 obtain ⟨p,ys,rfl,hq,q⟩:=h
 obtain ⟨u,rfl,rx⟩:=z63 r
 cases rx
 have fin:∀(its:List Value),Vals ys its->ys.length<=sizeLine->∀(h':Heap) (c':Nat),(∀b o',s.heap.get? b=some o'->h'.get? b=some o') ->
   h'.get? s.heap.objs.size=some { cls:=.type "list",dict:=none,data:=.seq its.toArray c',slots:=#[] }->EP X pins σ Q (.ref s.heap.objs.size) { s with heap:=h' }:=fun its r' hz h' c' kp e=>
  ⟨.ref s.heap.objs.size,_,I.laid (t':=s.toks) kp (Nat.le_refl _) (show ObjOk X.prog X.w _ h' _ (.lst ys) from ⟨hz,its,c',r',e⟩),rfl,q _ (I.hok.fresh (Nat.le_refl _))⟩
 rcases hq with hq | hq
 . obtain ⟨its,r',pl,hz⟩:=I.list hq
   have hlen:=r'.length
   obtain ⟨o,ho,hc,n,hd⟩:=pl.isList
   exact call_list_seq p (.inl rfl) ho hc hd (fun h' c' kp e=>fin its r' hz h' c' kp e) (by simp only [List.size_toArray]<;>omega)
 . obtain ⟨its,r',pl,hz⟩:=I.tuple hq
   have hlen:=r'.length
   obtain ⟨o,ho,hc,n,hd⟩:=pl
   exact call_list_seq p (.inr rfl) ho hc hd (fun h' c' kp e=>fin its r' hz h' c' kp e) (by simp only [List.size_toArray]<;>omega)
theorem z8p:CallR X (.type "tuple") (fun xs H Q=>∃p ys,xs=[.ref p]/\((SqL X.K H p ys/\∀l,H l=none->Q (.ref l) (upd H l (.tup ys)))\/(SqT X.K H p ys/\Q (.ref p) H))):=by
 intro pins s σ H xs us Q I r h
 obtain ⟨p,ys,rfl,h⟩:=h
 obtain ⟨u,rfl,rx⟩:=z63 r
 cases rx
 rcases h with ⟨hq,q⟩ | ⟨hq,q⟩
 . obtain ⟨its,r',pl,hz⟩:=I.list hq
   have hlen:=r'.length
   refine call_tuple_list pl.isList (fun h' kp=>?_) (by simp only [List.size_toArray]<;>omega)
   have I1:Inv X pins σ H { s with heap:=h' }:=I.kept (t':=s.toks) kp
   have I2:Inv X pins σ (upd H h'.objs.size (.tup ys)) { s with heap:=h'.push { cls:=.type "tuple",data:=.seq its.toArray } }:=
    I1.laid (t':=s.toks) (fun b o e=>Heap.get?_push_of_some _ e) (Nat.le_refl _) (show ObjOk X.prog X.w _ _ _ (.tup ys) from ⟨hz,its,r',IsTup.new _ _⟩)
   exact ⟨.ref h'.objs.size,_,I2,rfl,q _ (I1.hok.fresh (Nat.le_refl _))⟩
 . obtain ⟨its,r',pl,hz⟩:=I.tuple hq
   exact call_tuple_same pl ⟨.ref p,H,I,rfl,q⟩
def tyV (K:Frag) (T:String) (x:V) (H:Hp):Prop:=match x with
 | .str _=>T="str"
 | .int _=>T="int"
 | .ref p=>(T="list"/\∃xs,SqL K H p xs)\/(T="tuple"/\∃o,K.lookup p=some o/\o.cls=.type "tuple"/\o.dict=none) \/
  (T="dict"/\((∃kvs,H p=some (.dK kvs))\/∃kvs,H p=some (.dT kvs)))\/(T="set"/\∃S n,H p=some (.set S n))
 | _=>False
theorem zrf {pins:List (Addr×Obj)} {σ:St} {H:Hp} {s:Shared} {T:String} {x:V} {v:Value} (I:Inv X pins σ H s) (r:RelV x v) (ty:tyV X.K T x H) :
  s.TypeIs v T/\∀a,v=.ref a->∃ob,s.heap.get? a=some ob/\ob.dict=none:=by
 cases x with
 | str z=>
  obtain ⟨t,rfl⟩:=r
  cases (show T="str" from ty)
  exact ⟨typeIs_str s z t,fun _ e=>nomatch e⟩
 | int i=>
  obtain ⟨t,rfl⟩:=r
  cases (show T="int" from ty)
  exact ⟨typeIs_int s i t,fun _ e=>nomatch e⟩
 | ref p=>
  cases r
  rcases ty with ⟨rfl,xs,hq⟩ | ⟨rfl,o,hk,hc,hd⟩ | ⟨rfl,hk⟩ | ⟨rfl,S,n,hk⟩
  . obtain ⟨its,_,pl,_⟩:=I.list hq
    refine ⟨pl.isList.typeIs,fun a e=>?_⟩
    cases e
    obtain ⟨o,n,e,c,hd,_⟩:=pl
    exact ⟨o,e,hd⟩
  . refine ⟨⟨o,I.kIn p o hk,hc⟩,fun a e=>?_⟩
    cases e
    exact ⟨o,I.kIn _ o hk,hd⟩
  . have z:∃o,s.heap.get? p=some o/\o.ExactDict:=by
     rcases hk with ⟨kvs,hk⟩ | ⟨kvs,hk⟩
     . obtain ⟨_,_,_,_,o,_,_,e,ex,_⟩:=I.hok p _ hk
       exact ⟨o,e,ex⟩
     . obtain ⟨_,_,_,_,o,_,_,e,ex,_⟩:=I.hok p _ hk
       exact ⟨o,e,ex⟩
    obtain ⟨o,e,ex⟩:=z
    refine ⟨⟨o,e,ex.1⟩,fun a e2=>?_⟩
    cases e2
    exact ⟨o,e,ex.2.1⟩
  . obtain ⟨o,_,_,_,e,ex,_⟩:=I.hok p _ hk
    refine ⟨⟨o,e,ex.1⟩,fun a e2=>?_⟩
    cases e2
    exact ⟨o,e,ex.2.1⟩
 | _=>exact False.elim ty
noncomputable def tBM (K:Frag) (T:String) (r:V->List V->Hp->VK->Prop) (to:TE) (t:TA):TE:=fun σ H Q=>to σ H fun x H1=>tyV K T x H1/\t σ H1 fun xs H2=>r x xs H2 Q
variable {o e:Expr} {es:List Expr} {to:TE} {t:TA} {name:Str} {apos cpos:Pos} {T id:String} {r:V->List V->Hp->VK->Prop}
theorem zrg (pa:PlainAttrs T) (slot:Slot T name id) (hty:typeOf (.builtin id)=pure (.type "method_descriptor")) (hm:MtR X id r) (ho:PE X o to) (ha:PA X (e::es) t)
  (hbase:attributeBase o name X.env (eval o X.env)=eval o X.env:=by rfl)
  (hfew:((backTo cpos (starEach (e::es) X.env)).all (fun x=>!x.1)&&(backToKw cpos (keywordEach [] X.env)).all (fun x=>x.1.isSome)
   && decide ((e::es).length+([]:List Keyword).length+(if ([]:List Keyword).isEmpty then 0 else 1)<30))=true:=by rfl)
  (hline:(apos.endLine==cpos.line)=true:=by rfl) (hs:starEach (e::es) X.env=(false,eval e X.env)::starEach es X.env:=by rfl) (hplain:(backTo cpos (starEach es X.env)).any (·.1)=false:=by rfl) :
  PE X (.Call (.Attribute o name apos) (e::es) [] cpos) (tBM X.K T r to t):=by
 intro pins s σ H Q I h
 refine wpAny_Call_method_late hbase hfew hline rfl (thn (ho pins s σ H _ I h) fun v s1 ⟨x,H1,I1,r1,ty,q1⟩=>?_)
 obtain ⟨h1,h2⟩:=zrf I1 r1 ty
 refine ⟨T,id,pa,slot,hty,h1,h2,?_⟩
 have hA:=ha cpos pins s1 σ H1 _ I1 q1
 rw [hs] at hA ⊢
 refine Calls.callWith_builtin (by show (false||(backTo cpos (starEach es X.env)).any (·.1))=false;rw [hplain]<;>rfl) (Calls.evalArgs_plain ?_)
 exact thn hA fun us s2 ⟨vs,H2,I2,r2,q2⟩=>hm pins s2 σ H2 x vs v us Q I2 r1 r2 q2
end
def MtM (X:Cx) (id:String) (r:V->List V->Hp->VK->Prop):Prop:=
 ∀(pins:List (Addr×Obj)) (s:Shared) (σ:St) (H:Hp) (x:V) (xs:List V) (v:Value) (us:List Value) (Q:VK),Inv X pins σ H s->RelV x v->Vals xs us->r x xs H Q ->
  wpAny (model X.prog X.w) X.A (call (.builtin id) (v::us)) (EP X pins σ Q) X.xe s
theorem Vals.one:∀{x:V} {us:List Value},Vals [x] us->∃u,us=[u]/\RelV x u
 | _,_,.cons r .nil=>⟨_,rfl,r⟩
theorem Vals.two:∀{x y:V} {us:List Value},Vals [x,y] us->∃u v,us=[u,v]/\RelV x u/\RelV y v
 | _,_,_,.cons r (.cons q .nil)=>⟨_,_,rfl,r,q⟩
theorem Vals.rep {xs:List V} {us:List Value} (h:Vals xs us):∀k:Nat,Vals (List.replicate k xs).flatten (List.replicate k us).flatten
 | 0=>.nil
 | k+1=>by
  rw [List.replicate_succ,List.replicate_succ,List.flatten_cons,List.flatten_cons]
  exact Vals.append h (Vals.rep h k)
theorem za9 (its:List Value):∀(k:Nat) (acc:List Value),
  List.foldl (fun x1 x2=>x1++x2) acc.toArray (List.replicate k its.toArray)=(acc++(List.replicate k its).flatten).toArray
 | 0,acc=>by simp
 | k+1,acc=>by
  have e:acc.toArray++its.toArray=(acc++its).toArray:=by simp
  have e2:(acc++its)++(List.replicate k its).flatten=acc++(List.replicate (k+1) its).flatten:=by
   rw [List.replicate_succ,List.flatten_cons,List.append_assoc]
  rw [<-e2,<-za9 its k (acc++its),<-e,List.replicate_succ,List.foldl_cons]
section
variable {X:Cx} {pins:List (Addr×Obj)} {σ:St} {H:Hp} {s:Shared} {l:Addr} {xs ys:List V}
theorem Inv.lset {its its':List Value} {n:Nat} {f:Array Value->Array Value} {t':Nat} (I:Inv X pins σ H s) (hH:H l=some (.lst xs))
  (e:s.heap.get? l=some { cls:=.type "list",data:=.seq its.toArray n }) (hf:f its.toArray=its'.toArray) (hv:Vals ys its') (hz:ys.length<=sizeLine) :
  Inv X pins σ (upd H l (.lst ys)) { s with heap:=s.heap.update l (Obj.mapSeq f),toks:=t' }:=by
 have q:=PySem.IsL.update e f
 rw [hf] at q
 refine I.write (x:=l) (e:=l) (by rw [hH];exact trivial) (.inl rfl) (fun b' u hb hu=>(Heap.get?_update_other s.heap (Obj.mapSeq f) (Ne.symm hb)).trans hu) ⟨_,q⟩ ?_
 exact ⟨hz,its',_,hv,q⟩
theorem Inv.lnew {its:List Value} {t':Nat} (I:Inv X pins σ H s) (hv:Vals ys its) (hz:ys.length<=sizeLine) :
  Inv X pins σ (upd H s.heap.objs.size (.lst ys)) { s with heap:=s.heap.push { cls:=.type "list",data:=.seq its.toArray },toks:=t' }:=
 I.laid (fun _ _ q=>Heap.get?_push_of_some _ q) (Nat.le_refl _) ⟨hz,its,0,hv,Heap.get?_push_size _ rfl⟩
theorem Inv.fresh (I:Inv X pins σ H s):H s.heap.objs.size=none:=I.hok.fresh (Nat.le_refl _)
theorem Inv.lstM (I:Inv X pins σ H s) (hH:H l=some (.lst xs)):xs.length<=sizeLine/\∃(its:List Value) (n:Nat),Vals xs its/\xs.length=its.length/\s.heap.get? l=some { cls:=.type "list",data:=.seq its.toArray n }:=by
 obtain ⟨z,its,n,r,e⟩:=I.hok l _ hH
 exact ⟨z,its,n,r,r.length,e⟩
theorem zcu {n:Nat} (h:n<=sizeLine):Builtin.List.listTooLong n=false:=by
 unfold Builtin.List.listTooLong
 exact decide_eq_false (by omega)
end
section
variable {X:Cx}
def zfb:V->List V->Hp->VK->Prop:=fun x vs H Q=>∃l xs y,x=.ref l/\vs=[y]/\H l=some (.lst xs)/\xs.length<sizeLine/\Q .non (upd H l (.lst (xs++[y])))
theorem z6n:MtM X "list.append" zfb:=by
 intro pins s σ H x vs v us Q I rx rv h
 obtain ⟨l,xs,y,rfl,rfl,hH,hz,q⟩:=h
 cases rx
 obtain ⟨u,rfl,ru⟩:=rv.one
 obtain ⟨z,its,n,r,hl,e⟩:=I.lstM hH
 refine call_meets F.slot_list_append ⟨_,e,rfl⟩ F.entry_list_append (F.args_list_append_2 _ _) (PySem.list_append l its.toArray n u (by rw [List.size_toArray];omega)) ⟨e,?_⟩
 refine ⟨.non,_,I.lset (its':=its++[u]) hH e (by simp) (r.append (.cons ru .nil)) ?_,rfl,q⟩
 rw [List.length_append,List.length_singleton]
 omega
def zfc:V->List V->Hp->VK->Prop:=fun x vs H Q=>∃l b xs zs,x=.ref l/\vs=[.ref b]/\H l=some (.lst xs)/\H b=some (.lst zs)/\xs.length+zs.length<=sizeLine/\Q .non (upd H l (.lst (xs++zs)))
theorem zfd:MtM X "list.extend" zfc:=by
 intro pins s σ H x vs v us Q I rx rv h
 obtain ⟨l,b,xs,zs,rfl,rfl,hH,hB,hz,q⟩:=h
 cases rx
 obtain ⟨u,rfl,ru⟩:=rv.one
 cases ru
 obtain ⟨z,its,n,r,hl,e⟩:=I.lstM hH
 obtain ⟨z2,its2,n2,r2,hl2,e2⟩:=I.lstM hB
 have hsz:its.toArray.size+its2.toArray.size<=sizeLine:=by rw [List.size_toArray,List.size_toArray];omega
 have hlong:¬(!its.toArray.isEmpty&&Builtin.List.listTooLong (its.toArray.size+its2.toArray.size))=true:=by
  rw [zcu hsz,Bool.and_false]
  exact Bool.false_ne_true
 refine call_meets F.slot_list_extend ⟨_,e,rfl⟩ F.entry_list_extend (F.args_list_extend_2 _ _)
  (AutoSeq1.list_extend_list_list_0 l its.toArray n b its2.toArray n2 hlong (by rw [List.size_toArray];omega) (by omega)) ⟨e,e2,?_⟩
 refine ⟨.non,_,I.lset (its':=its++its2) hH e (by simp) (r.append r2) ?_,rfl,q⟩
 rw [List.length_append]
 omega
noncomputable def y05:R2:=fun x y H Q=>∃l b xs zs,x=.ref l/\y=.ref b/\H l=some (.lst xs)/\H b=some (.lst zs)/\xs.length+zs.length<=sizeLine/\∀p,H p=none->Q (.ref p) (upd H p (.lst (xs++zs)))
theorem zkz:OpR X (binaryOp .Add) y05:=by
 intro pins s σ H x y v u Q I rx ry h
 obtain ⟨l,b,xs,zs,rfl,rfl,hH,hB,hz,q⟩:=h
 cases rx
 cases ry
 obtain ⟨z,its,n,r,hl,e⟩:=I.lstM hH
 obtain ⟨z2,its2,n2,r2,hl2,e2⟩:=I.lstM hB
 refine PySem.P.add_list e e2 ?_ (by rw [List.size_toArray,List.size_toArray];omega)
 have ea:its.toArray++its2.toArray=(its++its2).toArray:=by simp
 rw [ea]
 exact ⟨.ref _,_,I.lnew (t':=s.toks) (r.append r2) (by rw [List.length_append];omega),rfl,q _ I.fresh⟩
noncomputable def y06:R2:=fun x y H Q=>∃l k xs,x=.ref l/\y=.int k/\H l=some (.lst xs)/\-(2 ^ 63)<=k/\k<2 ^ 63/\xs.length * k.toNat<=sizeLine /\
 ∀p,H p=none->Q (.ref p) (upd H p (.lst (List.replicate k.toNat xs).flatten))
theorem zn6 {α:Type} (xs:List α) (k:Nat):(List.replicate k xs).flatten.length=k * xs.length:=by
 induction k with
 | zero=>simp
 | succ k ih=>rw [List.replicate_succ,List.flatten_cons,List.length_append,ih,Nat.succ_mul,Nat.add_comm]
theorem zrh:OpR X (binaryOp .Mult) y06:=by
 intro pins s σ H x y v u Q I rx ry h
 obtain ⟨l,k,xs,rfl,rfl,hH,h1,h2,hz,q⟩:=h
 cases rx
 obtain ⟨t,rfl⟩:=ry
 obtain ⟨z,its,n,r,hl,e⟩:=I.lstM hH
 have hlen:its.toArray.size * k.toNat<=sizeLine:=by rw [List.size_toArray,<-hl];exact hz
 have hcap:¬its.toArray.size * k.toNat > (2 ^ 63 - 1) / 8:=by
  have:(sizeLine:Nat)<=(2 ^ 63 - 1) / 8:=by decide
  omega
 have hfit:¬(!Builtin.List.listFitsIndex k)=true:=by
  rw [fitsIndex_both h1 h2]
  exact Bool.false_ne_true
 have hlong:¬Builtin.List.listTooLong (its.toArray.size * k.toNat)=true:=by
  rw [zcu hlen]
  exact Bool.false_ne_true
 have hnew:List.foldl (fun x1 x2=>x1++x2) #[] (List.replicate (if its.toArray.isEmpty=true then 0 else k.toNat) its.toArray)=(List.replicate k.toNat its).flatten.toArray:=by
  have f0:∀m:Nat,List.foldl (fun x1 x2=>x1++x2) #[] (List.replicate m its.toArray)=(List.replicate m its).flatten.toArray:=fun m=>by
   have:=za9 its m []
   rw [List.nil_append] at this
   exact this
  rw [f0]
  cases its with
  | nil=>simp
  | cons a r'=>rw [if_neg (by simp)]
 refine wpAny_binaryOp_repeat_ref (T:="list") (U:="int") (by decide) ⟨_,e,rfl⟩ (fun s'=>typeIs_int s' k t) noFill_list_mul F.fills_int_mul F.slot_int_rmul repeat_list F.slot_int_index.lookup
  (call_meets F.slot_int_rmul (typeIs_int s k t) F.entry_int_rmul (F.args_int_rmul_2 _ _) (int___rmul___int_list k t l its.toArray n)
   ⟨e,rfl,⟨_,e,rfl⟩,call_meets F.slot_list_mul ⟨_,e,rfl⟩ F.entry_list_mul (F.args_list_mul_2 _ _) (AutoListH.list___mul___list_int_3 l its.toArray n k t hfit hcap hlong) ⟨e,?_⟩⟩)
 rw [hnew]
 exact ⟨.ref _,_,I.lnew (t':=s.toks) (r.rep k.toNat) (by rw [zn6,Nat.mul_comm];exact hz),rfl,q _ I.fresh⟩
end
section
variable {κ:Type} [DecidableEq κ]
noncomputable def zbt (kvs:List (κ×V)) (k:κ):Option V:=(kvs.find? fun kv=>decide (kv.1=k)).map (·.2)
noncomputable def zcv (kvs:List (κ×V)) (k:κ) (v:V):List (κ×V):=
 if (kvs.any fun kv=>decide (kv.1=k))=true then kvs.map (fun kv=>if kv.1=k then (kv.1,v) else kv) else kvs++[(k,v)]
theorem z8q {p:κ×V} {r:List (κ×V)} {k:κ} (e:p.1=k):zbt (p::r) k=some p.2:=by simp [zbt,List.find?_cons,e]
theorem z8r {p:κ×V} {r:List (κ×V)} {k:κ} (e:¬p.1=k):zbt (p::r) k=zbt r k:=by simp [zbt,List.find?_cons,e]
theorem zcw (k:κ):∀kvs:List (κ×V),(kvs.any fun kv=>decide (kv.1=k))=(zbt kvs k).isSome
 | []=>rfl
 | p::r=>by
  rw [List.any_cons]
  by_cases e:p.1=k
  . simp only [z8q e,decide_eq_true e,Bool.true_or,Option.isSome_some]
  . rw [z8r e,decide_eq_false e,Bool.false_or];exact zcw k r
theorem z6o (kvs:List (κ×V)) (k:κ) (v:V):(zcv kvs k v).length<=kvs.length+1:=by
 unfold zcv
 split
 . rw [List.length_map];omega
 . rw [List.length_append,List.length_cons,List.length_nil];omega
theorem RelO.isSome_eq {o:Option V} {u:Option Value} (r:RelO o u):o.isSome=u.isSome:=by
 cases o with
 | none=>cases u with
  | none=>rfl
  | some _=>exact (show False from r).elim
 | some _=>cases u with
  | none=>exact (show False from r).elim
  | some _=>rfl
theorem KV.val {kvs:List (κ×V)} {vs:List (κ×Value)} (r:KV kvs vs) (k:κ):RelO (zbt kvs k) (valueAt vs k):=by
 unfold KV at r
 induction r with
 | nil=>exact True.intro
 | @cons p q ps qs h t ih=>
  obtain ⟨h1,h2⟩:=h
  by_cases e:p.1=k
  . have e':q.1=k:=h1.symm.trans e
    have b:valueAt (q::qs) k=some q.2:=by simp [valueAt,List.find?_cons,e']
    rw [z8q e,b];exact h2
  . have e':¬q.1=k:=fun z=>e (h1.trans z)
    have b:valueAt (q::qs) k=valueAt qs k:=by simp [valueAt,List.find?_cons,e']
    rw [z8r e,b];exact ih
theorem KV.any {kvs:List (κ×V)} {vs:List (κ×Value)} (r:KV kvs vs) (k:κ):(kvs.any fun kv=>decide (kv.1=k))=vs.any fun kv=>decide (kv.1=k):=by
 unfold KV at r
 induction r with
 | nil=>rfl
 | cons h t ih=>rw [List.any_cons,List.any_cons,ih,h.1]
theorem KV.repl {kvs:List (κ×V)} {vs:List (κ×Value)} (r:KV kvs vs) (k:κ) {y:V} {u:Value} (ry:RelV y u) :
  KV (kvs.map fun kv=>if kv.1=k then (kv.1,y) else kv) (vs.map fun kv=>if kv.1=k then (kv.1,u) else kv):=by
 unfold KV at r ⊢
 induction r with
 | nil=>exact .nil
 | @cons p q ps qs h t ih=>
  rw [List.map_cons,List.map_cons]
  refine .cons ?_ ih
  obtain ⟨h1,h2⟩:=h
  by_cases e:p.1=k
  . rw [if_pos e,if_pos (h1.symm.trans e)];exact ⟨h1,ry⟩
  . rw [if_neg e,if_neg (fun z=>e (h1.trans z))];exact ⟨h1,h2⟩
theorem KV.put {kvs:List (κ×V)} {vs:List (κ×Value)} (r:KV kvs vs) (k:κ) {y:V} {u:Value} (ry:RelV y u):KV (zcv kvs k y) (stored vs k u):=by
 unfold zcv stored
 rw [r.any k]
 by_cases e:(vs.any fun kv=>decide (kv.1=k))=true
 . rw [if_pos e,if_pos e];exact r.repl k ry
 . rw [if_neg e,if_neg e];exact Paired.snoc r ⟨rfl,ry⟩
theorem KV.length {kvs:List (κ×V)} {vs:List (κ×Value)} (r:KV kvs vs):kvs.length=vs.length:=Paired.length r
end
theorem zfe {P:Program} {w:World} {k:Key} {u:Value} (r:RelV (kV k) u):(z0s P w).is k u=true:=by
 cases k with
 | inl i=>obtain ⟨t,e⟩:=(show ∃t,u=Value.int i t from r);subst e;exact zbj P w i t
 | inr x=>obtain ⟨t,e⟩:=(show ∃t,u=Value.str x t from r);subst e;exact zbk P w x t
theorem zaa {P:Program} {w:World}:∀{ks:List Key} {us:List Value},Vals (ks.map kV) us->ItemsAre (z0s P w) ks us
 | [],_,r=>by rw [List.map_nil] at r;cases r;exact .nil
 | k::ks,_,r=>by
  rw [List.map_cons] at r
  cases r with
  | cons h t=>exact .cons (zfe h) (zaa t)
abbrev KT (H:Hp):List (List Key×V)->List (List Key×Addr×Value)->Prop:=Paired fun p q=>p.1=q.1/\H q.2.1=some (.tup (p.1.map kV))/\RelV p.2 q.2.2
theorem KT.val {H:Hp} {kvs:List (List Key×V)} {xs:List (List Key×Addr×Value)} (r:KT H kvs xs) (k:List Key):RelO (zbt kvs k) ((atKey xs k).map (·.2)):=by
 induction r with
 | nil=>exact True.intro
 | @cons p q ps qs h t ih=>
  obtain ⟨h1,_,h2⟩:=h
  by_cases e:p.1=k
  . have e':q.1=k:=h1.symm.trans e
    have b:atKey (q::qs) k=some q.2:=by simp [atKey,List.find?_cons,e']
    rw [z8q e,b];exact h2
  . have e':¬q.1=k:=fun z=>e (h1.trans z)
    have b:atKey (q::qs) k=atKey qs k:=by simp [atKey,List.find?_cons,e']
    rw [z8r e,b];exact ih
theorem KT.repl {H:Hp} {kvs:List (List Key×V)} {xs:List (List Key×Addr×Value)} (r:KT H kvs xs) (k:List Key) {y:V} {u:Value} (ry:RelV y u) :
  KT H (kvs.map fun kv=>if kv.1=k then (kv.1,y) else kv) (xs.map (putAt k u)):=by
 induction r with
 | nil=>exact .nil
 | @cons p q ps qs h t ih=>
  rw [List.map_cons,List.map_cons]
  refine .cons ?_ ih
  obtain ⟨h1,h2,h3⟩:=h
  unfold putAt
  by_cases e:p.1=k
  . rw [if_pos e,if_pos (h1.symm.trans e)];exact ⟨h1,h2,ry⟩
  . rw [if_neg e,if_neg (fun z=>e (h1.trans z))];exact ⟨h1,h2,h3⟩
theorem KT.put {H:Hp} {kvs:List (List Key×V)} {xs:List (List Key×Addr×Value)} (r:KT H kvs xs) (k:List Key) {b:Addr} {y:V} {u:Value} (hb:H b=some (.tup (k.map kV))) (ry:RelV y u) :
  KT H (zcv kvs k y) (storedH xs k b u):=by
 have e:(kvs.any fun kv=>decide (kv.1=k))=(atKey xs k).isSome:=by
  rw [zcw,(r.val k).isSome_eq,Option.isSome_map]
 unfold zcv storedH
 rw [e]
 by_cases q:(atKey xs k).isSome=true
 . rw [if_pos q,if_pos q];exact r.repl k ry
 . rw [if_neg q,if_neg q];exact Paired.snoc r ⟨rfl,hb,ry⟩
theorem KT.keeps {H H':Hp} {kvs:List (List Key×V)} {xs:List (List Key×Addr×Value)} (r:KT H kvs xs) (ht:∀b ys,H b=some (.tup ys)->H' b=some (.tup ys)):KT H' kvs xs:=
 Paired.mapP r fun _ _ z=>⟨z.1,ht _ _ z.2.1,z.2.2⟩
section
variable {P:Program} {w:World} {H:Hp} {h:Heap} {a:Addr}
theorem zri {u:HO} (ok:HOk P w H h) (e:Rd H a u):ObjOk P w H h a u:=e.ok ok
theorem ze9 {kvs:List (Key×V)} (ok:HOk P w H h) (e:Rd H a (.dK kvs)):kvs.length<=sizeLine/\(a==sysModules)=false/\∃vs,KV kvs vs/\h.DictOf (z0s P w) a vs:=
 show ObjOk P w H h a (.dK kvs) from zri ok e
theorem zwy {kvs:List (Key×V)} (ok:HOk P w H h) (e:H a=some (.dK kvs)):kvs.length<=sizeLine/\(a==sysModules)=false/\∃vs,KV kvs vs/\h.DictOf (z0s P w) a vs:=ze9 ok (.inl e)
theorem zab {ks:List Key} (ok:HOk P w H h) (e:H a=some (.tup (ks.map kV))):(tupleKind (z0s P w)).is h ks a:=by
 obtain ⟨_,its,r,o,h1,h2,n,h3⟩:=(show ObjOk P w H h a (.tup (ks.map kV)) from ok a _ e)
 exact ⟨o,its.toArray,n,h1,h2,h3,by simpa using zaa r⟩
theorem zff {kvs:List (List Key×V)} (ok:HOk P w H h) (e:Rd H a (.dT kvs)):kvs.length<=sizeLine/\(a==sysModules)=false /\
  ∃xs,KT H kvs xs/\h.DictOfH (tupleKind (z0s P w)) a xs:=by
 obtain ⟨z,y,xs,r,o,es,ep,h1,h2,h3,h4,h5⟩:=(show ObjOk P w H h a (.dT kvs) from zri ok e)
 refine ⟨z,y,xs,r,o,es,ep,h1,h2,h3,h4,fun x hx=>?_,h5⟩
 have all:∀{l:List (List Key×V)} {m:List (List Key×Addr×Value)},KT H l m->∀x∈m,(tupleKind (z0s P w)).is h x.1 x.2.1:=by
  intro l m q
  induction q with
  | nil=>intro x hx;exact nomatch hx
  | @cons p q ps qs hq t ih=>
   intro x hx
   rcases List.mem_cons.mp hx with e | hx
   . subst e
     exact zab ok (by rw [<-hq.1];exact hq.2.1)
   . exact ih x hx
 exact all r x hx
theorem zwz {kvs:List (List Key×V)} (ok:HOk P w H h) (e:H a=some (.dT kvs)):kvs.length<=sizeLine/\(a==sysModules)=false /\
 ∃xs,KT H kvs xs/\h.DictOfH (tupleKind (z0s P w)) a xs:=zff ok (.inl e)
end
def DGet (H:Hp) (a:Addr) (y:V) (r:Option V):Prop:=
 (∃kvs k,Rd H a (.dK kvs)/\y=kV k/\r=zbt kvs k)\/∃kvs k b,Rd H a (.dT kvs)/\y=.ref b/\H b=some (.tup (k.map kV))/\r=zbt kvs k
def DPut (H:Hp) (a:Addr) (y v:V) (H':Hp):Prop:=
 (∃kvs k,H a=some (.dK kvs)/\y=kV k/\kvs.length<sizeLine/\H'=upd H a (.dK (zcv kvs k v))) \/
 ∃kvs k b,H a=some (.dT kvs)/\y=.ref b/\H b=some (.tup (k.map kV))/\kvs.length<sizeLine/\H'=upd H a (.dT (zcv kvs k v))
theorem DGet.k {H:Hp} {a:Addr} {kvs:List (Key×V)} {k:Key} (e:H a=some (.dK kvs)):DGet H a (kV k) (zbt kvs k):=.inl ⟨kvs,k,.inl e,rfl,rfl⟩
theorem DGet.t {H:Hp} {a b:Addr} {kvs:List (List Key×V)} {k:List Key} (e:H a=some (.dT kvs)) (eb:H b=some (.tup (k.map kV))):DGet H a (.ref b) (zbt kvs k):=.inr ⟨kvs,k,b,.inl e,rfl,eb,rfl⟩
theorem DPut.k {H:Hp} {a:Addr} {kvs:List (Key×V)} {k:Key} {v:V} (e:H a=some (.dK kvs)) (hl:kvs.length<sizeLine):DPut H a (kV k) v (upd H a (.dK (zcv kvs k v))):=.inl ⟨kvs,k,e,rfl,hl,rfl⟩
theorem DPut.t {H:Hp} {a b:Addr} {kvs:List (List Key×V)} {k:List Key} {v:V} (e:H a=some (.dT kvs)) (eb:H b=some (.tup (k.map kV))) (hl:kvs.length<sizeLine) :
 DPut H a (.ref b) v (upd H a (.dT (zcv kvs k v))):=.inr ⟨kvs,k,b,e,rfl,eb,hl,rfl⟩
section
variable {X:Cx} {pins:List (Addr×Obj)} {σ:St} {H:Hp} {s:Shared} {a:Addr} {y v:V} {u r:Value} {o:Option V} {A:Around} {E:Value->Shared->Prop}
theorem Inv.big (I:Inv X pins σ H s):sysModules<s.heap.objs.size:=by
 have h:mainGlobals<s.heap.objs.size:=(I.mod.glob.keeps I.bk).lt
 exact Nat.lt_trans (by decide) h
theorem zfg {Q:Value->Shared->Prop} (hu:A.units+1<cLine) (I:Inv X pins σ H s) (g:DGet H a y (some v)) (ry:RelV y u) (h:∀w' s',Inv X pins σ H s'->RelV v w'->Q w' s') :
  wpAny (model X.prog X.w) A (getItem (.ref a) u) Q E s:=by
 rcases g with ⟨kvs,k,e,ey,l⟩ | ⟨kvs,k,b,e,ey,eb,l⟩
 . subst ey
   obtain ⟨z,hd,vs,rel,dd⟩:=ze9 I.hok e
   obtain ⟨w',hw,rw'⟩:=RelO.some_of (v:=v) (o:=valueAt vs k) (by rw [l];exact rel.val k)
   exact wpAny_getItem_of (zfe ry) dd.mapOf hw (h w' _ (I.tok _) rw')
 . subst ey
   cases (show u=Value.ref b from ry)
   obtain ⟨z,hd,xs,rel,dd⟩:=zff I.hok e
   obtain ⟨w',hw,rw'⟩:=RelO.some_of (v:=v) (o:=(atKey xs k).map (·.2)) (by rw [l];exact rel.val k)
   obtain ⟨p,hp,hp2⟩:=Option.map_eq_some_iff.mp hw
   refine wpAny_getItem_heap (tupleKind_room_in1 hu) (zab I.hok eb) dd hp ?_
   rw [hp2]
   exact h w' _ (I.tok _) rw'
theorem y11 {Q:Value->Shared->Prop} (hu:A.units+1<cLine) (I:Inv X pins σ H s) (g:DGet H a y o) (ry:RelV y u) (h:∀s',Inv X pins σ H s'->Q (.bool o.isSome) s') :
  wpAny (model X.prog X.w) A (compareOp .In u (.ref a)) Q E s:=by
 rcases g with ⟨kvs,k,e,ey,l⟩ | ⟨kvs,k,b,e,ey,eb,l⟩
 . subst ey
   obtain ⟨z,hd,vs,rel,dd⟩:=ze9 I.hok e
   refine wpAny_in_of (zfe ry) hd dd.mapOf ?_
   rw [<-(rel.val k).isSome_eq,<-l]
   exact h _ (I.tok _)
 . subst ey
   cases (show u=Value.ref b from ry)
   obtain ⟨z,hd,xs,rel,dd⟩:=zff I.hok e
   refine wpAny_in_heap (tupleKind_room_in1 hu) (zab I.hok eb) hd dd ?_
   have q:=(rel.val k).isSome_eq
   rw [Option.isSome_map] at q
   rw [<-q,<-l]
   exact h _ (I.tok _)
theorem zn7 {Q:Value->Shared->Prop} (hu:A.units+1<cLine) (I:Inv X pins σ H s) (g:DGet H a y o) (ry:RelV y u) (h:∀s',Inv X pins σ H s'->Q (.bool (!o.isSome)) s') :
  wpAny (model X.prog X.w) A (compareOp .NotIn u (.ref a)) Q E s:=by
 rcases g with ⟨kvs,k,e,ey,l⟩ | ⟨kvs,k,b,e,ey,eb,l⟩
 . subst ey
   obtain ⟨z,hd,vs,rel,dd⟩:=ze9 I.hok e
   refine wpAny_notIn_of (zfe ry) hd dd.mapOf ?_
   rw [<-(rel.val k).isSome_eq,<-l]
   exact h _ (I.tok _)
 . subst ey
   cases (show u=Value.ref b from ry)
   obtain ⟨z,hd,xs,rel,dd⟩:=zff I.hok e
   refine wpAny_notIn_heap (tupleKind_room_in1 hu) (zab I.hok eb) hd dd ?_
   have q:=(rel.val k).isSome_eq
   rw [Option.isSome_map] at q
   rw [<-q,<-l]
   exact h _ (I.tok _)
theorem zbu {h':Heap} {t':Nat} {ob:HO} (I:Inv X pins σ H s) (mu:Mut (H a)) (hs:Heap.SameBut a s.heap h') (he:∃q,h'.get? a=some q) (new:ObjOk X.prog X.w (upd H a ob) h' a ob) :
  Inv X pins σ (upd H a ob) { s with heap:=h',toks:=t' }:=
 I.write (x:=a) (e:=a) mu (.inl rfl) (fun b q hb z=>(hs.2 b hb).trans z) he new
theorem zrj {P:Program} {w:World} {H':Hp} {h':Heap} {kvs:List (Key×V)} {vs:List (Key×Value)} (z:kvs.length<=sizeLine) (hd:(a==sysModules)=false) (rel:KV kvs vs) (dd:h'.DictOf (z0s P w) a vs) :
 ObjOk P w H' h' a (.dK kvs):=⟨z,hd,vs,rel,dd⟩
theorem zfh {H':Hp} {Q:Unit->Shared->Prop} (hu:A.units+1<cLine) (I:Inv X pins σ H s) (g:DPut H a y v H') (ry:RelV y u) (rv:RelV v r) (h:∀s',Inv X pins σ H' s'->Q () s') :
  wpAny (model X.prog X.w) A (setItem (.ref a) u r) Q E s:=by
 rcases g with ⟨kvs,k,e,ey,l,eH⟩ | ⟨kvs,k,b,e,ey,eb,l,eH⟩
 . subst ey eH
   obtain ⟨z,hd,vs,rel,dd⟩:=zwy I.hok e
   have hz:vs.length<=sizeLine:=by rw [<-rel.length];exact z
   have hl:(zcv kvs k v).length<=sizeLine:=by have:=z6o kvs k v;omega
   refine wpAny_setItem_pairs (hsz:=hz) (zfe ry) dd fun h' dd' hs=>h _ ?_
   have he:∃q,h'.get? a=some q:=let ⟨q,_,_,hq,_⟩:=dd';⟨q,hq⟩
   exact zbu I (by rw [e];exact True.intro) hs he (zrj hl hd (rel.put k rv) dd')
 . subst ey eH
   cases (show u=Value.ref b from ry)
   obtain ⟨z,hd,xs,rel,dd⟩:=zwz I.hok e
   have hz:xs.length<=sizeLine:=by rw [<-Paired.length rel];exact z
   have hl:(zcv kvs k v).length<=sizeLine:=by have:=z6o kvs k v;omega
   refine wpAny_setItem_heap (hsz:=hz) (tupleKind_room_in1 hu) (zab I.hok eb) dd fun h' dd' hs=>h _ ?_
   obtain ⟨q,es,ep,hq,h2,h3,h4,_,h5⟩:=dd'
   refine zbu I (by rw [e];exact True.intro) hs ⟨q,hq⟩ ⟨hl,hd,_,(rel.put k eb rv).keeps fun c ys ec=>?_,q,es,ep,hq,h2,h3,h4,h5⟩
   rw [z02 (zwk ec e (fun z=>nomatch z))]
   exact ec
end
section
variable {X:Cx} {pins:List (Addr×Obj)} {σ:St} {H:Hp} {s:Shared} {a:Addr} {kvs:List (Key×V)} {A:Around} {E:Value->Shared->Prop}
theorem zx0 {Q:Value->Shared->Prop} (I:Inv X pins σ H s) (e:Rd H a (.dK kvs)) (h:∀t s',Inv X pins σ H s'->Q (.int kvs.length t) s'):wpAny (model X.prog X.w) A (call (.builtin "len") [.ref a]) Q E s:=by
 obtain ⟨z,hd,vs,rel,dd⟩:=ze9 I.hok e
 refine call_len_dict hd dd (by rw [<-rel.length];rw [sizeLine_eq] at z;omega) ?_
 rw [<-rel.length]
 exact h _ _ (I.tok _)
end
theorem zbv {X:Cx} {pins:List (Addr×Obj)} {σ:St} {H:Hp} {s:Shared} {a:Addr} {y:V} {o:Option V} (I:Inv X pins σ H s) (g:DGet H a y o):s.TypeIs (.ref a) "dict":=by
 rcases g with ⟨kvs,k,e,_,_⟩ | ⟨kvs,k,b,e,_,_,_⟩
 . obtain ⟨_,_,vs,_,dd⟩:=ze9 I.hok e
   exact dd.typeIs
 . obtain ⟨_,_,xs,_,dd⟩:=zff I.hok e
   exact dd.typeIs
theorem ziu {P:Program} {w:World} {H:Hp} (h:Heap) (hb:sysModules<h.objs.size):ObjOk P w H (h.push { cls:=.type "dict",data:=.dict #[] }) h.objs.size (.dK []):=
 ⟨Nat.zero_le _,beq_eq_false_iff_ne.mpr (Ne.symm (Nat.ne_of_lt hb)),[],.nil,Heap.DictOf.new h⟩
noncomputable def zrk:TE:=fun _ H Q=>∀p,H p=none->Q (.ref p) (upd H p (.dK []))
section
variable {X:Cx} {pos:Pos}
theorem pe_dnewK:PE X (.Dict [] [] pos) zrk:=fun pins s σ H Q I h=>
 wpAny_Dict_empty ⟨.ref s.heap.objs.size,_,I.laid (a:=s.heap.objs.size) (o:=.dK []) (t':=s.toks) (fun _ _ q=>Heap.get?_push_of_some _ q) (Nat.le_refl _) (ziu s.heap I.big),rfl,h _ (I.hok.fresh (Nat.le_refl _))⟩
end
end L2
namespace Att
open PySem PySem.W PySem.Calls PyProof.Rows
theorem z6p {P:Params} {h:Heap}:∀(ns:List Int) (vs:List Value),WellAll P h vs (ns.map WData.int)->IntsAre vs ns:=by
 intro ns
 induction ns with
 | nil=>
  intro vs w
  rw [List.map_nil] at w
  cases w
  exact .nil
 | cons n ns ih=>
  intro vs w
  rw [List.map_cons] at w
  cases w with
  | cons a b=>
   cases a
   exact .cons _ _ (ih _ b)
theorem zfi {l:OpenLaw} {n:Nat} (hn:l.most=some n) {P:Params} {h:Heap} {args:List WData} {vals:List Value}
  (hpre:l.row.toRowW.claim.pre args=true) (hwl:WellAll P h vals args) :
  ∃a vs ns,vals=[Value.ref a]/\args=[WData.list (ns.map WData.int)]/\h.get? a=some { cls:=.type "list",data:=.seq vs.toArray }/\IntsAre vs ns/\ns.length<=n:=by
 have hsh:WShape.hasAll [] args [.list .int]=true:=(pre_splitW hpre).1
 have hc:l.pre.holds [] { args:=args }=true:=(pre_splitW hpre).2
 obtain ⟨d,r,rfl,h1,h2⟩:=hasAllW_cons hsh
 obtain rfl:=hasAllW_nil h2
 obtain ⟨xs,rfl,h3⟩:=hasW_list h1
 obtain ⟨ns,rfl⟩:=items_int h3
 have hlen:ns.length<=n:=by
  unfold OpenLaw.pre at hc
  have h4:(WTm.not (.lt (.lit (.int (n:Int))) (.len (.arg 0)))).holds [] { args:=[.list (ns.map .int)] }=true:=by
   have h4:=(holds_andW hc).1
   rw [hn] at h4
   exact h4
  have h5:=condW_of h4 (w_not (w_lt w_lit (w_len_list (w_arg rfl))))
  rw [List.length_map] at h5
  refine Nat.le_of_not_lt fun q=>?_
  have q':(n:Int)<((ns.length:Nat):Int):=by omega
  first
   | (rw [decide_eq_true q'] at h5;exact absurd h5 (by decide))
   | (simp at h5;omega)
 cases hwl with
 | cons w1 w2=>
  cases w2
  cases w1 with
  | list ho hall=>exact ⟨_,_,ns,rfl,rfl,ho,z6p ns _ hall,hlen⟩
theorem zfj (l:OpenLaw) (args:List WData):l.row.toRowW.claim.post args (.bool true) args=true:=
 postW_of (r:=l.row.toRowW) (X:=(true==true))
  (show WShape.has [] (.bool true) .bool=true by first | rfl | decide | simp [WShape.has,WShape.arms,WShape.armsAll])
  (show (WTm.eq .res (.lit (.bool true))).value [] { args:=args,res:=some (.bool true),after:=args }=some (.bool (true==true)) from w_eq_bool (w_res rfl) w_lit) rfl
theorem attach_call {l:OpenLaw} {n:Nat} {q:Program} {loose:List Str} {XP:(Str->Option Value)->Heap->Prop} {YP:World->Heap->Prop} {d:DefRec}
  (hn:l.most=some n) (hdf:d.params.defaults=[])
  (call:∀(w:World) (s₀ s₁:Shared) (mg mb:Str->Option Value) (fa:Addr) (o:Obj) (pm cd doc:Value) (a:Addr) (vs:List Value) (ns:List Int),
   Ground q loose [] XP w s₀ mg mb s₁.heap->YP w s₁.heap ->
   s₁.heap.get? fa=some o->o.data=.func (docDef d.name d.params d.body d.scope pm cd doc)->s₁.heap.CodeRec cd d.name->mg d.name=some (.ref fa) ->
   s₁.heap.get? a=some { cls:=.type "list",data:=.seq vs.toArray }->IntsAre vs ns->ns.length<=n->s₁.gens=#[] ->
   codeAny (model l.prog w) callerA (.call (.ref fa) ⟨[.ref a],[]⟩) (fun r s'=>r=.ok (.ret (.bool true))/\OldK s₁.heap s'.heap/\s'.os=s₁.os/\AllBare s'.gens) s₁) :
  WalkO q loose XP YP l.row.toRowW d [] (fun f vs=>PySem.call f vs):=by
 intro w s₀ s₁ mg mb G Y fa o pm cd doc dV kV ho hd hcd hD hmg hg args vals as hpre hlay hrd hwl hlo
 obtain rfl:dV=.none:=Dflts.none hD hdf
 obtain rfl:kV=.none:=Dflts.noKw hD
 obtain ⟨a,vs,ns,rfl,rfl,hobj,hints,hlen⟩:=zfi hn hpre hwl
 refine enter_call (codeAny_mono (call w s₀ s₁ mg mb fa o pm cd doc a vs ns G Y ho (fd_plain hd) hcd hmg hobj hints hlen hg) fun r s' hq=>?_)
 obtain ⟨rfl,h2,h3,h4⟩:=hq
 exact ⟨.inl ⟨.bool true,.bool true,[],rfl,fun _=>rfl,.bool true,zfj l _,fun _=>⟨List.Pairwise.nil,fun _ hm=>(nomatch hm)⟩⟩,h2,h3,h4⟩
section
def noObjs (h:Heap):Heap:={ h with objs:=#[] }
theorem noObjs_get (h:Heap) (b:Addr):(noObjs h).get? b=none:=by
 cases e:(noObjs h).get? b with
 | none=>rfl
 | some o=>exact absurd (Heap.lt_size e) (Nat.not_lt_zero _)
theorem fr_all {h:Heap} {L:Addr} {m:Str->Option Value} (n:h.Ns L m):Fr (noObjs h) L h m:=
 ⟨n,fun b o e=>(by rw [noObjs_get] at e;cases e),Nat.zero_le _⟩
end
end Att
namespace L2
open PySem PySem.Spec PyProof.Rows
theorem z6q:∀{vs:List Value} {ns:List Int},IntsAre vs ns->Vals (ns.map V.int) vs
 | _,_,.nil=>.nil
 | _,_,.cons n t h=>.cons ⟨t,rfl⟩ (z6q h)
noncomputable def z2l (s:Stmt):Arguments:=match s with
 | .FunctionDef _ a _ _ _ _ _ _ _ _=>a
 | _=>{ posonlyargs:=[],args:=[],vararg:=none,kwonlyargs:=[],kw_defaults:=[],kwarg:=none,defaults:=[] }
noncomputable def z0u (s:Stmt):List Stmt:=match s with
 | .FunctionDef _ _ b _ _ _ _ _ _ _=>b
 | _=>[]
noncomputable def z03 (s:Stmt):Scope:=match s with
 | .FunctionDef _ _ _ _ _ _ sc _ _ _=>sc
 | _=>{ kind:=.function,names:=[],isGenerator:=false,isCoroutine:=false }
abbrev E0:XK:=fun _ _ _=>False
structure Fun (K:Frag) (x qual:Str) (st:Stmt) (f:Addr) (fd:FuncData):Prop where
 ex:∃(oc:Value) (od:Option Addr) (kV doc pm:Value) (an:Option Addr) (cdv ct:Value) (osl:Array (Option Value)),
  fd=PySem.W.fnOf x qual (z2l st) (z0u st) (z03 st) .none kV doc pm an cdv ct/\K.lookup f=some ⟨oc,od,.func fd,osl⟩/\codeIn K cdv qual=true
 kp:keepIn K (.ref f)=true
section
variable {K:Frag}
theorem Fun.binds {x qual:Str} {st:Stmt} {f:Addr} {fd:FuncData} {ps:List Str} (F:Fun K x qual st f fd)
  (h:∀(kV doc pm:Value) (an:Option Addr) (cdv ct:Value) (us:List Value),us.length=ps.length->bindArgs (PySem.W.fnOf x qual (z2l st) (z0u st) (z03 st) .none kV doc pm an cdv ct) ⟨us,[]⟩=pure (ps.zip us)):Binds K fd ps []:=by
 obtain ⟨oc,od,kV,doc,pm,an,cdv,ct,osl,rfl,lk,hcd⟩:=F.ex
 exact .all (h kV doc pm an cdv ct)
theorem zrl {x qual:Str} {st:Stmt} {f:Addr} {oc:Value} {od an:Option Addr} {osl:Array (Option Value)} {kV doc pm cdv ct:Value} (l:K.lookup f=some ⟨oc,od,.func (PySem.W.fnOf x qual (z2l st) (z0u st) (z03 st) .none kV doc pm an cdv ct),osl⟩)
 (c:codeIn K cdv qual=true) (k:keepIn K (.ref f)=true):Fun K x qual st f (PySem.W.fnOf x qual (z2l st) (z0u st) (z03 st) .none kV doc pm an cdv ct):=⟨⟨oc,od,kV,doc,pm,an,cdv,ct,osl,rfl,l,c⟩,k⟩
end
section
variable {X:Cx}
theorem call_lenD:CallR X (.builtin "len") (fun xs H Q=>∃a kvs,xs=[V.ref a]/\H a=some (.dK kvs)/\Q (.int kvs.length) H):=by
 intro pins s σ H xs us Q I r h
 obtain ⟨a,kvs,rfl,ha,q⟩:=h
 obtain ⟨u,rfl,ru⟩:=z63 r
 cases ru
 exact zx0 I (.inl ha) fun t s' I'=>⟨.int kvs.length,H,I',⟨t,rfl⟩,q⟩
end
def Same (H H':Hp):Prop:=∀b o,H b=some o->H' b=some o
theorem Same.refl (H:Hp):Same H H:=fun _ _ h=>h
theorem Same.trans {H H1 H2:Hp} (a:Same H H1) (b:Same H1 H2):Same H H2:=fun c o h=>b c o (a c o h)
end L2
set_option maxHeartbeats 4000000
namespace L2
open PySem PySem.Spec PyProof.Rows
noncomputable def z0d (cells:List (Str×Addr)):List (Str×NameKind)->List (Str×Addr)->List (Str×Addr)
 | [],acc=>acc
 | (n,k)::r,acc=>z0d cells r (if k==.free then (n,(cells.lookup n).getD 0)::acc else acc)
theorem z3q {cells:List (Str×Addr)} {x:Str} {c:Addr}:∀{names:List (Str×NameKind)} {acc:List (Str×Addr)},
  (∀y∈names,y.2=.free->∃c,cells.lookup y.1=some c)->(∀y c,acc.lookup y=some c->cells.lookup y=some c)->(z0d cells names acc).lookup x=some c->cells.lookup x=some c
 | [],acc,_,ha,h=>ha x c h
 | (n,k)::r,acc,hf,ha,h=>by
  refine z3q (names:=r) (fun y hy=>hf y (List.mem_cons_of_mem _ hy)) (fun y c'=>?_) h
  by_cases hk:k=.free
  . subst hk
    obtain ⟨c0,e0⟩:=hf (n,.free) List.mem_cons_self rfl
    intro e
    have e1:(if (NameKind.free==NameKind.free)=true then (n,(cells.lookup n).getD 0)::acc else acc)=(n,(cells.lookup n).getD 0)::acc:=if_pos (show (NameKind.free==NameKind.free)=true from rfl)
    rw [e1,List.lookup_cons] at e
    cases hyn:y==n with
    | true=>
     rw [hyn] at e
     have e2:y=n:=by simpa using hyn
     subst e2
     have e3:=Option.some.inj e
     have e0':cells.lookup y=some c0:=e0
     rw [e0'] at e3 ⊢
     exact congrArg some e3
    | false=>rw [hyn] at e;exact ha y c' e
  . have e1:(if (k==NameKind.free)=true then (n,(cells.lookup n).getD 0)::acc else acc)=acc:=if_neg (by simpa using hk)
    rw [e1];exact ha y c'
theorem z1o {cells:List (Str×Addr)} {x:Str}:∀{names:List (Str×NameKind)} {acc:List (Str×Addr)},
  ((∃c,acc.lookup x=some c)\/∃y∈names,y.2=.free/\y.1=x)->∃c,(z0d cells names acc).lookup x=some c
 | [],acc,h=>by
  rcases h with h | ⟨y,hy,_⟩
  . exact h
  . cases hy
 | (n,k)::r,acc,h=>by
  refine z1o (names:=r) ?_
  by_cases hk:k=.free
  . subst hk
    have e1:(if (NameKind.free==NameKind.free)=true then (n,(cells.lookup n).getD 0)::acc else acc)=(n,(cells.lookup n).getD 0)::acc:=if_pos (show (NameKind.free==NameKind.free)=true from rfl)
    rw [e1,List.lookup_cons]
    cases hxn:x==n with
    | true=>exact .inl ⟨_,rfl⟩
    | false=>
     rcases h with h | ⟨y,hy,hf,e⟩
     . exact .inl h
     . rcases List.mem_cons.mp hy with z | z
       . subst z
         have e':n=x:=e
         subst e'
         simp at hxn
       . exact .inr ⟨y,z,hf,e⟩
  . have e1:(if (k==NameKind.free)=true then (n,(cells.lookup n).getD 0)::acc else acc)=acc:=if_neg (by simpa using hk)
    rw [e1]
    rcases h with h | ⟨y,hy,hf,e⟩
    . exact .inl h
    . rcases List.mem_cons.mp hy with z | z
      . subst z;exact absurd hf hk
      . exact .inr ⟨y,z,hf,e⟩
theorem z2m {scope:Scope} {env:Env} (hf:∀y∈scope.names,y.2=.free->∃c,env.cells.lookup y.1=some c):closureFor scope env=pure (z0d env.cells scope.names []):=by
 have go:∀(names:List (Str×NameKind)) (acc:List (Str×Addr)),(∀y∈names,y.2=.free->∃c,env.cells.lookup y.1=some c) ->
   (forIn names acc fun x cs=>if (x.2==NameKind.free)=true then do let a <-cellOf env x.1;pure (ForInStep.yield ((x.1,a)::cs)) else pure (ForInStep.yield cs):Sem (List (Str×Addr)))=pure (z0d env.cells names acc):=by
  intro names
  induction names with
  | nil=>intro acc _;rfl
  | cons p r ih=>
   intro acc h
   obtain ⟨n,k⟩:=p
   rw [List.forIn_cons]
   by_cases hk:k=.free
   . subst hk
     obtain ⟨c,e⟩:=h (n,.free) List.mem_cons_self rfl
     have e':env.cells.lookup n=some c:=e
     have e1:cellOf env n=pure c:=by unfold cellOf;rw [e']
     have e2:z0d env.cells ((n,NameKind.free)::r) acc=z0d env.cells r ((n,c)::acc):=by
      show z0d env.cells r (if (NameKind.free==NameKind.free)=true then (n,(env.cells.lookup n).getD 0)::acc else acc)=_
      rw [if_pos (show (NameKind.free==NameKind.free)=true from rfl),e'];rfl
     rw [e2,<-ih _ fun y hy=>h y (List.mem_cons_of_mem _ hy)]
     show ((if (NameKind.free==NameKind.free)=true then do let a <-cellOf env n;pure (ForInStep.yield ((n,a)::acc)) else pure (ForInStep.yield acc)) >>= _:Sem _)=_
     rw [if_pos (show (NameKind.free==NameKind.free)=true from rfl),e1]
     rfl
   . have hk':(k==NameKind.free)=false:=by simpa using hk
     have e2:z0d env.cells ((n,k)::r) acc=z0d env.cells r acc:=by
      show z0d env.cells r (if (k==NameKind.free)=true then _ else acc)=_
      rw [if_neg (by rw [hk'];exact Bool.false_ne_true)]
     rw [e2,<-ih _ fun y hy=>h y (List.mem_cons_of_mem _ hy)]
     show ((if (k==NameKind.free)=true then do let a <-cellOf env n;pure (ForInStep.yield ((n,a)::acc)) else pure (ForInStep.yield acc)) >>= _:Sem _)=_
     rw [if_neg (by rw [hk'];exact Bool.false_ne_true)]
     rfl
 have:=go scope.names [] hf
 unfold closureFor
 simpa using this
theorem zac {prog:Program} {w:World} {A:Around} {R:Result->Shared->Prop} {s:Shared} {elt target iter:Expr} {ifs:List Expr} {scope:Scope} {pos:Pos} {it acc:Value} {env:Env} (I:Nat->Shared->Prop)
  (turn:∀n s,I n s->wpAny (model prog w) A (pyNext it) (fun r s₁=>match r with
   | none=>R (.ok .next) s₁
   | some v=>wpAny (model prog w) A (letOwnedTupleGo target it v) (fun _ s₁'=>wpAny (model prog w) A (assign target env v) (fun _ s₂=>
    wpAny (model prog w) A (forIn ifs true fun c r=>if r=true then do let ok <-isTrue c env (eval c env);pure (ForInStep.yield ok) else pure (ForInStep.yield r)) (fun ok s₃=>
     if ok=true then wpAny (model prog w) A (eval elt env) (fun x s₄=>
      wpAny (model prog w) A (call (.builtin "list.append") [acc,x]) (fun _ s₅=>∃m,m<n/\I m s₅) (fun _ _=>False) s₄) (fun _ _=>False) s₃
     else ∃m,m<n/\I m s₃) (fun _ _=>False) s₂) (fun _ _=>False) s₁') (fun _ _=>False) s₁) (fun _ _=>False) s)
  (n:Nat) (h:I n s) :
  codeAny (model prog w) A (.compLoop (.ListComp elt [⟨target,iter,ifs,0⟩] scope pos) 0 it acc env) R s:=by
 refine codeAny_loop rfl I (fun n s hI=>?_) n h
 show wpAny _ A ((compTurn (.ListComp elt [⟨target,iter,ifs,0⟩] scope pos) 0 it acc env).onRaise (fun x=>do noteFrame x env;theTreesLotGoes x)) _ _ s
 refine wpAny_noted ?_
 rw [compTurn_list]
 refine wpAny_bind (wpAny_standAt (wpAny_bind (wpAny_mono (turn n s hI) (fun r s₁ h₁=>?_) fun _ _ h'=>h'.elim)))
 cases r with
 | none=>exact wpAny_pure h₁
 | some v=>
  refine wpAny_bind (wpAny_mono h₁ (fun _ s₁' h₁'=>?_) fun _ _ h'=>h'.elim)
  refine wpAny_bind (wpAny_mono h₁' (fun _ s₂ h₂=>wpAny_bind (wpAny_mono h₂ (fun ok s₃ h₃=>?_) fun _ _ h'=>h'.elim)) fun _ _ h'=>h'.elim)
  cases ok with
  | false=>exact wpAny_pure ⟨rfl,h₃⟩
  | true=>
   exact wpAny_bind (wpAny_bind (wpAny_mono h₃ (fun x s₄ h₄=>wpAny_bind (wpAny_mono h₄ (fun _ s₅ h₅=>wpAny_pure (wpAny_pure ⟨rfl,h₅⟩)) fun _ _ h'=>h'.elim)) fun _ _ h'=>h'.elim))
theorem z21 {env:Env}:∀{names:List (Str×NameKind)} {x:Str},
  (names.map fun (n,k)=>if (k==NameKind.free&&env.scope.kind==.function&&env.kindOf n==some .cell) then (n,NameKind.cell) else (n,k)).lookup x =
   (names.lookup x).map fun k=>if (k==NameKind.free&&env.scope.kind==.function&&env.kindOf x==some .cell) then NameKind.cell else k
 | [],_=>rfl
 | (n,k)::r,x=>by
  have ih:=@z21 env r x
  show List.lookup x ((if (k==NameKind.free&&env.scope.kind==.function&&env.kindOf n==some .cell)=true then (n,NameKind.cell) else (n,k))::_)=_
  cases hx:x==n with
  | true=>
   have e:x=n:=by simpa using hx
   subst e
   by_cases hc:(k==NameKind.free&&env.scope.kind==.function&&env.kindOf x==some .cell)=true
   . rw [if_pos hc];simp only [List.lookup_cons,hx,Option.map_some,hc,if_true]
   . rw [if_neg hc];simp only [List.lookup_cons,hx,Option.map_some,hc,if_false];rfl
  | false=>
   by_cases hc:(k==NameKind.free&&env.scope.kind==.function&&env.kindOf n==some .cell)=true
   . rw [if_pos hc];simp only [List.lookup_cons,hx];exact ih
   . rw [if_neg hc];simp only [List.lookup_cons,hx];exact ih
noncomputable def z0p (X:Cx) (sc:Scope) (N':List Str) (fp:List Addr) (s₃:Shared) (H₃:Hp):Cx:=
 { X with env:=compEnvC sc (z0d X.env.cells sc.names []) s₃.heap.objs.size X.env,N:=N',s₀:=s₃,H₀:=H₃,outer:=X.stack,ex:=fp,fn:=fun _=>false,pn:=[],xe:=fun _ _=>False }
noncomputable def z6r (ix:List Nat) (σ:St):St:=ix.map fun j=>(σ[j]?).getD none
structure CompOk (X:Cx) (sc:Scope) (caps:List Str) (ix:List Nat):Prop where
 calm:X.calm=true
 kind:sc.kind=.function
 ncell:∀y∈sc.names,y.2≠.cell
 free:∀y∈sc.names,y.2=.free->X.env.kindOf y.1=some .cell\/X.env.kindOf y.1=some .free
 names:∀y∈sc.names,y.2=.local->sc.names.lookup y.1=some .local
 cap:∀(j:Nat) x,caps[j]?=some x->sc.names.lookup x=some .free/\∃i,ix[j]?=some i/\X.N[i]?=some x
 len:ix.length=caps.length
noncomputable def zad (fsc:Scope) (N:List Str) (sc:Scope) (caps:List Str) (ix:List Nat):Bool:=
 sc.kind==.function&&sc.names.all (fun y=>y.2 != .cell)&&sc.names.all (fun y=>y.2 != .free||(fsc.names.lookup y.1==some .cell||fsc.names.lookup y.1==some .free)) &&
  sc.names.all (fun y=>y.2 != .local||sc.names.lookup y.1==some .local)&&caps.all (fun x=>sc.names.lookup x==some .free)&&(ix.map fun i=>N[i]?)==caps.map some
theorem z0v {X:Cx} {sc:Scope} {caps:List Str} {ix:List Nat} (hc:X.calm=true) (h:zad X.env.scope X.N sc caps ix=true):CompOk X sc caps ix:=by
 unfold zad at h
 simp only [Bool.and_eq_true] at h
 obtain ⟨⟨⟨⟨⟨h1,h2⟩,h3⟩,h4⟩,h5⟩,h6⟩:=h
 have e6:(ix.map fun i=>X.N[i]?)=caps.map some:=by simpa using h6
 have elen:ix.length=caps.length:=by simpa using congrArg List.length e6
 refine ⟨hc,by simpa using h1,fun y hy=>?_,fun y hy hf=>?_,fun y hy hl=>?_,fun j x hj=>⟨?_,?_⟩,elen⟩
 . have:=List.all_eq_true.mp h2 y hy
   simpa using this
 . have:=List.all_eq_true.mp h3 y hy
   rw [hf] at this
   simp only [bne_self_eq_false,Bool.false_or,Bool.or_eq_true,beq_iff_eq] at this
   exact this
 . have:=List.all_eq_true.mp h4 y hy
   rw [hl] at this
   simpa using this
 . have:=List.all_eq_true.mp h5 x (List.mem_of_getElem? hj)
   simpa using this
 . have hjl:j<ix.length:=by rw [elen];exact (List.getElem?_eq_some_iff.mp hj).1
   refine ⟨ix[j],List.getElem?_eq_getElem hjl,?_⟩
   have q:=congrArg (fun l=>l[j]?) e6
   simp only [List.getElem?_map,List.getElem?_eq_getElem hjl,hj,Option.map_some] at q
   exact Option.some.inj q
section
variable {X:Cx} {sc:Scope} {tgs caps:List Str} {ix:List Nat} {pins:List (Addr×Obj)} {σ:St} {H:Hp} {s:Shared} {fp:List Addr}
theorem CompOk.free_cell (C:CompOk X sc caps ix) (I:Inv X pins σ H s):∀y∈sc.names,y.2=.free->∃c,X.env.cells.lookup y.1=some c:=fun y hy hf=>I.ok.has y.1 (C.free y hy hf)
theorem CompOk.sub (C:CompOk X sc caps ix) (I:Inv X pins σ H s) {x:Str} {c:Addr} (h:(z0d X.env.cells sc.names []).lookup x=some c):X.env.cells.lookup x=some c:=
 z3q (C.free_cell I) (fun _ _ e=>by cases e) h
theorem zea (C:CompOk X sc caps ix) (I:Inv X pins σ H s) (hf:∀b∈fp,zcr X pins H b) (hl:∀b∈fp,b<s.heap.objs.size) {h':Heap} {t':Nat} {m:Str->Option Value} (hn:h'.Ns s.heap.objs.size m)
  (hk:∀b o,s.heap.get? b=some o->h'.get? b=some o) :
  Inv (z0p X sc (tgs++caps) fp s H) [] (List.replicate tgs.length none++z6r ix σ) H { s with heap:=h',toks:=t' }:=by
 have sub:∀{x c},(z0d X.env.cells sc.names []).lookup x=some c->X.env.cells.lookup x=some c:=fun h=>C.sub I h
 have clt:∀{x c},X.env.cells.lookup x=some c->c<s.heap.objs.size:=fun {x c} h=>by
  obtain ⟨v,q⟩:=I.cell x c h
  exact q.lt
 refine ⟨⟨I.ok.mod,C.kind,I.ok.glob,I.ok.blt,Nat.le_refl _,fun x y c h1 h2=>I.ok.inj x y c (sub h1) (sub h2),fun x hx=>?_,fun x c hfn _=>?_,I.ok.hd,I.ok.frames,.inl rfl,fun b hb=>⟨?_,fun x c h z=>?_⟩,fun b o e=>I.bs b o e,Nat.le_trans I.ok.bsz I.sz,fun b o e hb=>?_,fun b hb hfs=>?_,I.stack,I.stkFree⟩,
  rfl,I.bare,Un.kept hk,⟨m,hn,fun i x v e1 e2 e3=>?_⟩,fun x c h=>?_,I.hok.fresh (Nat.le_refl _),fun x c h=>I.freeC x c (sub h),fun p hp=>absurd (show p∈([]:List (Addr×Obj)) from hp) (by simp),I.hok.kept hk,?_⟩
 . -- a cell or free name of the block has a cell
   have hx':(relabel sc X.env).names.lookup x=some .cell\/(relabel sc X.env).names.lookup x=some .free:=hx
   have e:(relabel sc X.env).names.lookup x=(sc.names.lookup x).map fun k=>if (k==NameKind.free&&X.env.scope.kind==.function&&X.env.kindOf x==some .cell) then NameKind.cell else k:=z21
   rw [e] at hx'
   cases q:sc.names.lookup x with
   | none=>rw [q] at hx';rcases hx' with z | z<;>cases z
   | some k=>
    have hm:(x,k)∈sc.names:=PySem.mem_of_lookup q
    have hkf:k=.free:=by
     rw [q] at hx'
     simp only [Option.map_some] at hx'
     by_cases hkk:k=.free
     . exact hkk
     . have:(k==NameKind.free)=false:=by simpa using hkk
       simp only [this,Bool.false_and,Bool.false_eq_true,if_false] at hx'
       rcases hx' with z | z
       . exact absurd (Option.some.inj z) (C.ncell _ hm)
       . exact Option.some.inj z
    subst hkf
    exact z1o (.inr ⟨_,hm,rfl,rfl⟩)
 . exact absurd (show false=true from hfn) Bool.false_ne_true
 . exact Nat.ne_of_lt (hl b hb)
 . exact (hf b hb).2.2.2.2.1 x c (sub h) z
 . obtain ⟨_,_,_,hx,_⟩:=hf b hb
   rcases hx with z | z
   . exact I.ok.noex b o e z
   . exact absurd (Nat.lt_of_lt_of_le (Heap.lt_size e) (Nat.le_trans I.ok.bsz z)) (Nat.lt_irrefl _)
 . obtain ⟨_,h1,h2,_⟩:=hf b hb
   rcases List.mem_cons.mp (I.stkSub b hfs) with z | z
   . exact h1 z
   . exact h2 z
 . -- the captured names' values
   have hi:tgs.length<=i:=by
    by_cases hi:i<tgs.length
    . rw [List.getElem?_append_left (by simpa using hi),List.getElem?_replicate] at e2
      split at e2<;>cases e2
    . omega
   have e1':caps[i - tgs.length]?=some x:=by
    have:(tgs++caps)[i]?=some x:=e1
    rw [List.getElem?_append_right hi] at this
    exact this
   rw [List.getElem?_append_right (by simpa using hi),List.length_replicate] at e2
   obtain ⟨hfr,j,hj,hjN⟩:=C.cap _ x e1'
   have e2':σ[j]?=some (some v):=by
    unfold z6r at e2
    rw [List.getElem?_map,hj] at e2
    simp only [Option.map_some] at e2
    have e2:=Option.some.inj e2
    cases q:σ[j]? with
    | none=>rw [q] at e2;cases e2
    | some o=>rw [q] at e2;exact congrArg some e2
   have hmem:(x,NameKind.free)∈sc.names:=PySem.mem_of_lookup hfr
   have hkind:=C.free _ hmem rfl
   obtain ⟨m0,hn0,hl0⟩:=I.loc
   have hvis:Vis X.env.scope x:=hkind.elim (fun z=>.inr (.inl z)) fun z=>.inr (.inr z)
   obtain ⟨u,r,look⟩:=hl0 j x v hjN e2' hvis
   refine ⟨u,r,?_⟩
   rcases look with ⟨k,_⟩ | ⟨_,c,hc,z⟩
   . rcases hkind with q | q
     . rw [show X.env.kindOf x=some .cell from q] at k;cases k
     . rw [show X.env.kindOf x=some .free from q] at k;cases k
   . obtain ⟨c',hc'⟩:=z1o (cells:=X.env.cells) (names:=sc.names) (acc:=[]) (x:=x) (.inr ⟨_,hmem,rfl,rfl⟩)
     have hcc:c'=c:=by have:=sub hc';rw [hc] at this;exact (Option.some.inj this).symm
     subst hcc
     refine .inr ⟨?_,c',hc',?_⟩
     . have e:(relabel sc X.env).names.lookup x=(sc.names.lookup x).map fun k=>if (k==NameKind.free&&X.env.scope.kind==.function&&X.env.kindOf x==some .cell) then NameKind.cell else k:=z21
       show (relabel sc X.env).names.lookup x=some .cell\/(relabel sc X.env).names.lookup x=some .free
       rw [e,hfr]
       simp only [Option.map_some]
       split
       . exact .inl rfl
       . exact .inr rfl
     . obtain ⟨o,ho,hd⟩:=z
       exact ⟨o,hk _ o ho,hd⟩
 . obtain ⟨v,o,ho,hd⟩:=I.cell x c (sub h)
   exact ⟨v,o,hk _ o ho,hd⟩
 . show _=(tgs++caps).length
   unfold z6r
   rw [List.length_append,List.length_replicate,List.length_map,List.length_append,C.len]
inductive PTs (X:Cx):List Expr->TT->Prop where
 | nil:PTs X [] (fun _ H Q=>Q true H)
 | one {c:Expr} {t:TT} (h:PT X c t):PTs X [c] t
theorem PTs.run {X:Cx} {ifs:List Expr} {t:TT} (h:PTs X ifs t) {pins:List (Addr×Obj)} {s:Shared} {σ:St} {H:Hp} {Q:Bool->Hp->Prop} (I:Inv X pins σ H s) (q:t σ H Q) :
  wpAny (model X.prog X.w) X.A (forIn ifs true fun c r=>if r=true then do let ok <-isTrue c X.env (eval c X.env);pure (ForInStep.yield ok) else pure (ForInStep.yield r)) (TP X pins σ Q) X.xe s:=by
 cases h with
 | nil=>exact wpAny_tests_nil ⟨H,I,q⟩
 | one h=>exact wpAny_tests_one (h pins s σ H Q I q)
def zrm (J:It) (D:Addr) (B:V->Hp->(List V->Hp->Prop)->Prop) (cs:St) (tt:TT) (te:TE) (Q:VK) (H1:Hp):Prop:=
 ∃W:Nat->Nat->List V->Hp->Prop,(∃m,W 0 m [] (upd H1 D (.lst [])))/\∀i m ys H,W i m ys H ->
  H D=some (.lst ys)/\((J.stop i H/\Q (.ref D) H)\/(J.go i H/\∀x H',J.yld i H x H'->B x H' fun vals H2=>tt (vals.map some++cs) H2 fun b H3=>
   if b=true then te (vals.map some++cs) H3 fun y H4=>H4 D=some (.lst ys)/\ys.length<sizeLine/\∃m',m'<m/\W (i+1) m' (ys++[y]) (upd H4 D (.lst (ys++[y])))
   else ∃m',m'<m/\W (i+1) m' ys H3))
noncomputable def zeb (wi:TI) (B:V->Hp->(List V->Hp->Prop)->Prop) (ix:List Nat) (tt:TT) (te:TE):TE:=fun σ H Q=>wi σ H fun J H1=>∀D,H1 D=none->zrm J D B (z6r ix σ) tt te Q H1
variable {elt tg iter:Expr} {ifs:List Expr} {pos:Pos} {g:TG} {B:V->Hp->(List V->Hp->Prop)->Prop} {tt:TT} {te:TE}
theorem z81 (C:CompOk X sc caps ix) (hg:∀fp s H,PG (z0p X sc (tgs++caps) fp s H) tg g)
  (hB:∀(x:V) (σt cs:St) (H:Hp) (Q:St->Hp->Prop),σt.length=tgs.length->B x H (fun vals H2=>Q (vals.map some++cs) H2)->g x (σt++cs) H fun σ2 H2=>(∃vals:List V,vals.length=tgs.length/\σ2=vals.map some++cs)/\Q σ2 H2)
  (ht:∀fp s H,PTs (z0p X sc (tgs++caps) fp s H) ifs tt) (he:∀fp s H,PE (z0p X sc (tgs++caps) fp s H) elt te)
  {J:It} {it:Addr} {tn:Nat->Heap->Prop} {Q:VK} {E:Value->Shared->Prop} (I2:Inv X pins σ H s) (T:Turn X.prog X.w X.K tg J fp it tn) (st:tn 0 s.heap) (hf:∀b∈fp,zcr X pins H b)
  (hw:∀D,H D=none->zrm J D B (z6r ix σ) tt te Q H) {RR:Value->Addr->Result->Shared->Prop}
  (hRR:∀D Cc H' s' m,s'.heap.Ns Cc m->Inv X pins σ H' s'->zcr X pins H' Cc->Q (.ref D) H'->RR (.ref D) Cc (.ok .next) s') :
  wpAny (model X.prog X.w) X.A (newList []) (fun acc s₃=>wpAny (model X.prog X.w) X.A (newFunctionEnv sc X.env.globals (z0d X.env.cells sc.names []) [] X.env.qual none .none (some X.env)) (fun cenv s₄=>
   codeAny (model X.prog X.w) X.A (.compStart (.ListComp elt [⟨tg,iter,ifs,0⟩] sc pos) 0 (.ref it) acc { cenv with scope:=relabel sc X.env }) (RR acc cenv.locals) s₄) E s₃) E s:=by
 refine wpAny_newObj_type (wpAny_newFunctionEnv C.ncell (by intro y hy;simp at hy) (fun h₁ hns₁ hsb₁=>?_) C.kind)
 have I3:Inv X pins σ (upd H s.heap.objs.size (.lst [])) { s with heap:=s.heap.push { cls:=.type "list",dict:=none,data:=.seq ([]:List Value).toArray } }:=I2.lnew (t':=s.toks) (its:=[]) .nil (Nat.zero_le _)
 have hD0:H s.heap.objs.size=none:=I2.fresh
 have lt0:∀b∈fp,b<s.heap.objs.size:=fun b hb=>by
  obtain ⟨o,e,_⟩:=T.obj _ _ st b hb
  exact Heap.lt_size e
 have hfD:∀b∈fp,b≠s.heap.objs.size:=fun b hb=>Nat.ne_of_lt (lt0 b hb)
 have hf3:∀b∈fp,zcr X pins (upd H s.heap.objs.size (.lst [])) b:=fun b hb=>⟨by rw [z02 (hfD b hb)];exact (hf b hb).1,(hf b hb).2⟩
 generalize hs3:({ s with heap:=s.heap.push { cls:=.type "list",dict:=none,data:=.seq ([]:List Value).toArray } }:Shared)=s₃ at I3 hns₁ hsb₁ ⊢
 have hs3h:s₃.heap=s.heap.push { cls:=.type "list",dict:=none,data:=.seq ([]:List Value).toArray }:=by rw [<-hs3]
 have st3:tn 0 s₃.heap:=T.keep _ _ _ st fun b _ o e=>by rw [hs3h];exact Heap.get?_push_of_some _ e
 have hl3:∀b∈fp,b<s₃.heap.objs.size:=fun b hb=>by rw [hs3h,Heap.size_push];exact Nat.lt_succ_of_lt (lt0 b hb)
 generalize hDD:s.heap.objs.size=D at *
 have hk1:∀b o,s₃.heap.get? b=some o->h₁.get? b=some o:=fun b o e=>hsb₁.extBut b o (Nat.ne_of_lt (Heap.lt_size e)) (Heap.get?_push_of_some _ e)
 have I4:=zea (tgs:=tgs) (t':=s₃.toks+([]:List (Str×Value)).length) C I3 hf3 hl3 hns₁ hk1
 have st4:tn 0 h₁:=T.keep _ _ _ st3 fun b _ o e=>hk1 b o e
 have fr4:∀b∈fp,(upd H D (.lst [])) b=none:=fun b hb=>(hf3 b hb).1
 generalize hXc:z0p X sc (tgs++caps) fp s₃ (upd H D (.lst []))=Xc at I4
 have hprog:Xc.prog=X.prog:=by rw [<-hXc];rfl
 have hww:Xc.w=X.w:=by rw [<-hXc];rfl
 have hKK:Xc.K=X.K:=by rw [<-hXc];rfl
 have hcalm:Xc.calm=true:=by rw [<-hXc];exact C.calm
 have hA:Xc.A=X.A:=by rw [<-hXc];rfl
 have henv:Xc.env=compEnvC sc (z0d X.env.cells sc.names []) s₃.heap.objs.size X.env:=by rw [<-hXc];rfl
 have hxe:Xc.xe=fun _ _=>False:=by rw [<-hXc];rfl
 have hg':=hg fp s₃ (upd H D (.lst []))
 have ht':=ht fp s₃ (upd H D (.lst []))
 have he':=he fp s₃ (upd H D (.lst []))
 rw [hXc] at hg' ht' he'
 obtain ⟨W,⟨m0,w0⟩,turn⟩:=hw D hD0
 have stat:∀{H':Hp},(∀b∈fp,H' b=none)->∀b∈fp,zcr Xc [] H' b:=fun {H'} hn b hb=>by
  refine ⟨hn b hb,?_,?_,.inl ?_,fun x c e z=>?_,fun p hp=>?_⟩
  . rw [henv];exact Nat.ne_of_lt (hl3 b hb)
  . rw [<-hXc]
    intro z
    obtain ⟨_,h1,h2,_⟩:=hf b hb
    rcases List.mem_cons.mp (I3.stkSub b z) with q | q
    . exact h1 q
    . exact h2 q
  . rw [<-hXc];exact hb
  . rw [henv] at e
    exact (hf b hb).2.2.2.2.1 x c (C.sub I2 e) z
  . rw [<-hXc] at hp
    exact absurd (show p∈([]:List (Addr×Obj)) from hp) (by simp)
 have loop:∀s₄:Shared,s₄={ s₃ with heap:=h₁,toks:=s₃.toks+([]:List (Str×Value)).length } ->
   codeAny (model X.prog X.w) X.A (.compLoop (.ListComp elt [⟨tg,iter,ifs,0⟩] sc pos) 0 (.ref it) (.ref D) (compEnvC sc (z0d X.env.cells sc.names []) s₃.heap.objs.size X.env)) (RR (.ref D) s₃.heap.objs.size) s₄:=by
  intro s₄ hs4
  rw [<-hprog,<-hww,<-hA,<-henv]
  refine zac (fun n s'=>∃(i:Nat) (ys:List V) (σt:St) (H':Hp),σt.length=tgs.length/\Inv Xc [] (σt++z6r ix σ) H' s'/\tn i s'.heap/\(∀b∈fp,H' b=none)/\W i n ys H') ?_ m0
   ⟨0,[],List.replicate tgs.length none,upd H D (.lst []),by simp,by rw [hs4];exact I4,by rw [hs4];exact st4,fr4,w0⟩
  rintro n s5 ⟨i,ys,σt,H5,hσ,I5,st5,fr5,w5⟩
  obtain ⟨hD5,hturn⟩:=turn i n ys H5 w5
  rcases hturn with ⟨stop,q⟩ | ⟨go,step⟩
  . rw [hprog,hww]
    refine thn (T.done Xc hprog hww hKK hcalm i [] s5 _ H5 _ I5 (stat fr5) st5 stop) fun r s6 ⟨hr,I6⟩=>?_
    subst hr
    obtain ⟨m6,hn6,_⟩:=I6.loc
    rw [henv] at hn6
    have hcb:∀b∈fp,(b∈X.ex\/X.s₀.heap.objs.size<=b)/\b≠X.env.locals/\(∀x c,X.env.cells.lookup x=some c->c≠b)/\∀p∈X.pn++pins,p.1≠b:=fun b hb=>⟨(hf b hb).2.2.2.1,(hf b hb).2.1,(hf b hb).2.2.2.2.1,(hf b hb).2.2.2.2.2⟩
    have hos:s6.os=s₃.os:=by have:=I6.os;rw [<-hXc] at this;exact this
    have un6:Un (frs X.stack) fp (upd H D (.lst [])) H5 s₃.heap s6.heap:=by have:=I6.base;rw [<-hXc] at this;exact this
    have hok6:HOk X.prog X.w H5 s6.heap:=by have:=I6.hok;rw [hprog,hww] at this;exact this
    have I7:Inv X pins σ H5 s6:=I3.call' hos un6 hok6 I6.bare hcb
    refine hRR D _ H5 s6 m6 hn6 I7 ?_ q
    have hCn:H5 s₃.heap.objs.size=none:=by have:=I6.free;rw [henv] at this;exact this
    exact I3.fpOk (Nat.le_refl _) hCn
  . rw [hprog,hww]
    refine thn (T.item Xc hprog hww hKK hcalm i [] s5 _ H5 _ I5 (stat fr5) st5 go) fun r s6 ⟨u,hr,h6⟩=>?_
    subst hr
    refine thn h6 fun _ s7 ⟨x,H7,I7,r7,y7,st7,fr7⟩=>?_
    have I7':=I7.pinned (stat fr7) (T.obj _ _ st7)
    have hst:=hg' _ s7 _ H7 x u _ I7' r7 (hB x σt (z6r ix σ) H7 (fun σ2 H2=>tt σ2 H2 fun b H3=>if b=true then te σ2 H3 fun y H4=>H4 D=some (.lst ys)/\ys.length<sizeLine/\∃m',m'<n/\W (i+1) m' (ys++[y]) (upd H4 D (.lst (ys++[y]))) else ∃m',m'<n/\W (i+1) m' ys H3) hσ (step x H7 y7))
    rw [hprog,hww,hxe] at hst
    refine thn hst fun _ s8 ⟨σ8,H8,I8,⟨vals,hvl,hσ8⟩,q8⟩=>?_
    have again:∀{H9:Hp} {s9:Shared},Inv Xc ([]++z9z fp s7.heap) σ8 H9 s9->tn (i+1) s9.heap/\∀b∈fp,H9 b=none:=fun {H9 s9} I9=>
     ⟨T.keep _ _ _ st7 fun b hb o e=>(I9.pin (b,o) (List.mem_append_right _ (List.mem_append_right _ (z3d hb e)))).1,fun b hb=>by
      obtain ⟨o,e,d⟩:=T.obj _ _ st7 b hb
      exact (I9.pin (b,o) (List.mem_append_right _ (List.mem_append_right _ (z3d hb e)))).2.1⟩
    subst hσ8
    have hts:=ht'.run I8 q8
    rw [hprog,hww,hxe] at hts
    refine thn hts fun ok s9 ⟨H9,I9,q9⟩=>?_
    cases ok with
    | false=>
     rw [if_neg Bool.false_ne_true] at q9 ⊢
     obtain ⟨m',hm,w9⟩:=q9
     obtain ⟨a1,a2⟩:=again I9
     exact ⟨m',hm,i+1,ys,vals.map some,H9,by simpa using hvl,I9.unpinned,a1,a2,w9⟩
    | true=>
     rw [if_pos rfl] at q9 ⊢
     have hev:=he' _ s9 _ H9 _ I9 q9
     rw [hprog,hww,hxe] at hev
     refine thn hev fun uy s10 ⟨y,H10,I10,r10,hD10,hz10,m',hm,w10⟩=>?_
     have hap:=z6n (X:=Xc) _ s10 _ H10 (.ref D) [y] (.ref D) [uy] (fun v H11=>v=.non/\H11=upd H10 D (.lst (ys++[y]))) I10 rfl (.cons r10 .nil) ⟨D,ys,y,rfl,rfl,hD10,hz10,rfl,rfl⟩
     rw [hprog,hww,hxe] at hap
     refine thn hap fun _ s11 ⟨v,H11,I11,_,_,e11⟩=>?_
     subst e11
     obtain ⟨a1,a2⟩:=again I11
     exact ⟨m',hm,i+1,ys++[y],vals.map some,_,by simpa using hvl,I11.unpinned,a1,a2,w10⟩
 refine codeAny_compStart_list (loop _ rfl) (T.self X.A 0 _ _ _ st4 (loop _ rfl))
theorem zn8 {wi:TI} (C:CompOk X sc caps ix) (hi:PI X tg iter wi) (hg:∀fp s H,PG (z0p X sc (tgs++caps) fp s H) tg g)
  (hB:∀(x:V) (σt cs:St) (H:Hp) (Q:St->Hp->Prop),σt.length=tgs.length->B x H (fun vals H2=>Q (vals.map some++cs) H2)->g x (σt++cs) H fun σ2 H2=>(∃vals:List V,vals.length=tgs.length/\σ2=vals.map some++cs)/\Q σ2 H2)
  (ht:∀fp s H,PTs (z0p X sc (tgs++caps) fp s H) ifs tt) (he:∀fp s H,PE (z0p X sc (tgs++caps) fp s H) elt te)
  (hs:∀x,foldedSetIterable iter X.env x=pure x:=by intro _;rfl):PE X (.ListComp elt [⟨tg,iter,ifs,0⟩] sc pos) (zeb wi B ix tt te):=by
 intro pins s σ H Q I h
 rw [eval_ListComp]
 refine wpAny_comprehension_free (use:=none) rfl hs (z2m (C.free_cell I)) C.kind C.names (thn (hi pins s σ H _ I h) fun v s1 h1=>thn h1 fun itv s2 h2=>?_)
 obtain ⟨it,fp,tn,J,H2,e,I2,T,st2,f2,hw⟩:=h2
 subst e
 refine z81 (RR:=fun acc Cc=>compPost (model X.prog X.w) X.A X.xe none (EP X pins σ Q) acc Cc) C hg hB ht he I2 T st2 f2 hw ?_
 intro D Cc H' s' m hn I' hfp q
 refine ⟨m,hn,fun h' sb=>⟨.ref D,H',?_,rfl,q⟩⟩
 exact I'.turned (t':=s'.toks) (fun b o hb e=>sb.extBut b o hb e) hfp.1 hfp.2.1 hfp.2.2.2.1 hfp.2.2.2.2.1 hfp.2.2.2.2.2
theorem zn9 {wi:TI} {k:Nat} {x:Str} {spos px:Pos} (hN:X.N.Nodup) (hk:X.N[k]?=some x) (hx:X.env.scope.names.lookup x=some .local) (C:CompOk X sc caps ix) (hi:PI X tg iter wi) (hg:∀fp s H,PG (z0p X sc (tgs++caps) fp s H) tg g)
  (hB:∀(x:V) (σt cs:St) (H:Hp) (Q:St->Hp->Prop),σt.length=tgs.length->B x H (fun vals H2=>Q (vals.map some++cs) H2)->g x (σt++cs) H fun σ2 H2=>(∃vals:List V,vals.length=tgs.length/\σ2=vals.map some++cs)/\Q σ2 H2)
  (ht:∀fp s H,PTs (z0p X sc (tgs++caps) fp s H) ifs tt) (he:∀fp s H,PE (z0p X sc (tgs++caps) fp s H) elt te)
  (hsw:swapsWith (.ListComp elt [⟨tg,iter,ifs,0⟩] sc pos) (some (.Name x px)) spos.line X.env=pure true:=by rfl)
  (hs:∀x,foldedSetIterable iter X.env x=pure x:=by intro _;rfl):PS X (.Assign [.Name x px] (.ListComp elt [⟨tg,iter,ifs,0⟩] sc pos) spos) (zkv (zeb wi B ix tt te) (z8k k)):=by
 intro pins s σ H D0 I h
 rw [exec_Assign_Name_used _ _ _ _ hsw]
 refine wpAny_bind (wpAny_standAt (wpAny_bind ?_))
 show wpAny _ X.A (do let _ <-comprehension (.ListComp elt [⟨tg,iter,ifs,0⟩] sc pos) sc X.env _ (newList []) false (eval iter X.env) (some (assign (.Name x px) X.env))) _ _ s
 refine wpAny_bind (wpAny_mono (wpAny_comprehension_free (use:=some (assign (.Name x px) X.env)) (Q:=fun _ s'=>SP X pins D0 .next s') rfl hs (z2m (C.free_cell I)) C.kind C.names
  (thn (hi pins s σ H _ I h) fun v s1 h1=>thn h1 fun itv s2 h2=>?_)) (fun _ s' hq=>wpAny_pure (wpAny_pure hq)) fun _ _ e=>e)
 obtain ⟨it,fp,tn,J,H2,e,I2,T,st2,f2,hw⟩:=h2
 subst e
 refine z81 (RR:=fun acc Cc=>compPost (model X.prog X.w) X.A X.xe (some (assign (.Name x px) X.env)) (fun _ s'=>SP X pins D0 .next s') acc Cc) C hg hB ht he I2 T st2 f2 hw ?_
 intro D Cc H' s' m hn I' hfp q
 show wpAny _ X.A (assign (.Name x px) X.env (.ref D)) _ _ _
 refine wpAny_assign_Name (z9y I' hN hk (.inl hx) (v:=.ref D) rfl (fun s'' I'' hch=>?_) (.inr hx))
 obtain ⟨a,sb,ha⟩:=hch
 have hne:Cc≠a:=by
  rcases ha with z | z
  . rw [z];exact hfp.2.1
  . exact fun e=>hfp.2.2.2.2.1 x a z e.symm
 refine ⟨m,hn.sameBut sb hne,fun h' sb'=>⟨_,H',?_,q⟩⟩
 exact I''.turned (t':=s''.toks) (fun b o hb e=>sb'.extBut b o hb e) hfp.1 hfp.2.1 hfp.2.2.2.1 hfp.2.2.2.2.1 hfp.2.2.2.2.2
end
section
variable {X:Cx}
theorem PE.imp {e:Expr} {t t':TE} (h:PE X e t) (hi:∀σ H Q,t' σ H Q->t σ H Q):PE X e t':=fun pins s σ H Q I q=>h pins s σ H Q I (hi σ H Q q)
theorem PT.imp {e:Expr} {t t':TT} (h:PT X e t) (hi:∀σ H Q,t' σ H Q->t σ H Q):PT X e t':=fun pins s σ H Q I q=>h pins s σ H Q I (hi σ H Q q)
theorem OpR.imp {f:Value->Value->Sem Value} {r r':R2} (h:OpR X f r) (hi:∀x y H Q,r' x y H Q->r x y H Q):OpR X f r':=fun pins s σ H x y v u Q I rx ry q=>h pins s σ H x y v u Q I rx ry (hi x y H Q q)
theorem UnR.imp {f:Value->Sem Value} {r r':V->Hp->VK->Prop} (h:UnR X f r) (hi:∀x H Q,r' x H Q->r x H Q):UnR X f r':=fun pins s σ H x v Q I rx q=>h pins s σ H x v Q I rx (hi x H Q q)
end
noncomputable def zbw (i:Nat):TE:=fun σ H Q=>match σ[i]? with | some (some v)=>Q v H | _=>False
theorem pw {X:Cx} (i:Nat) {x:Str} {pos:Pos} (hN:X.N[i]?=some x:=by rfl) (hv:Vis X.env.scope x:=by first | exact Or.inl rfl | exact Or.inr (Or.inl rfl) | exact Or.inr (Or.inr rfl)) (hd:(x==("__debug__":Str))=false:=by decide)
  (hcd:(x==("__classdict__":Str))=false:=by decide):PE X (.Name x pos) (zbw i):=
 (zks hN hv hd hcd).imp fun σ H Q q=>by
  unfold zbw at q
  unfold zzr
  split at q
  . rename_i v e;exact ⟨v,e,q⟩
  . exact q.elim
noncomputable def cI (g:Int->Int->V):R2:=fun x y H Q=>match x,y with | .int i,.int j=>Q (g i j) H | _,_=>False
noncomputable def cIC (C:Int->Int->Prop) (g:Int->Int->V):R2:=fun x y H Q=>match x,y with | .int i,.int j=>C i j/\Q (g i j) H | _,_=>False
theorem OpR.cI {X:Cx} {f:Value->Value->Sem Value} {g:Int->Int->V} (h:OpR X f (rI0 g)):OpR X f (cI g):=h.imp fun x y H Q q=>by
 cases x<;>cases y<;>first | exact ⟨_,_,rfl,rfl,q⟩ | exact q.elim
theorem OpR.cIC {X:Cx} {f:Value->Value->Sem Value} {C:Int->Int->Prop} {g:Int->Int->V} (h:OpR X f (rI C g)):OpR X f (cIC C g):=h.imp fun x y H Q q=>by
 cases x<;>cases y<;>first | exact ⟨_,_,rfl,rfl,q.1,q.2⟩ | exact q.elim
section
variable {X:Cx}
theorem z8s:OpR X (binaryOp .Add) (cI fun i j=>.int (i+j)):=op_add.cI
theorem zec:OpR X (binaryOp .Sub) (cI fun i j=>.int (i - j)):=op_sub.cI
theorem zx1:OpR X (binaryOp .Mult) (cIC CMul fun i j=>.int (i * j)):=op_mul.cIC
theorem zfk:OpR X (binaryOp .FloorDiv) (cIC zmy fun i j=>.int (i / j)):=op_fdiv.cIC
theorem z4b:OpR X (binaryOp .Mod) (cIC (fun _ j=>0<j) fun i j=>.int (i % j)):=op_mod.cIC
theorem zx2:OpR X (binaryOp .Pow) (cIC zmz fun i j=>.int (i ^ j.toNat)):=op_pow.cIC
theorem zx3:OpR X (compareOp .Lt) (cI fun i j=>.bl (decide (i<j))):=op_lt.cI
theorem y07:OpR X (compareOp .LtE) (cI fun i j=>.bl (decide (i<=j))):=op_le.cI
theorem zw8:OpR X (compareOp .Gt) (cI fun i j=>.bl (decide (j<i))):=op_gt.cI
def cU (g:Int->V):V->Hp->VK->Prop:=fun x H Q=>match x with | .int i=>Q (g i) H | _=>False
theorem ziv:UnR X (unaryOp .USub) (cU fun i=>.int (-i)):=un_neg.imp fun x H Q q=>by
 cases x<;>first | exact ⟨_,rfl,q⟩ | exact q.elim
end
noncomputable def z7q (H:Hp) (p:Addr):Option (List V):=match H p with
 | some (.lst xs)=>some xs
 | some (.tup xs)=>some xs
 | some (.frz _ (.lst xs))=>some xs
 | some (.frz _ (.tup xs))=>some xs
 | _=>none
theorem ziw {K:Frag} {H:Hp} {p:Addr} {xs:List V} (h:z7q H p=some xs):SqL K H p xs\/SqT K H p xs:=by
 unfold z7q at h
 split at h
 all_goals first | (cases h;done) | skip
 . rename_i ys e;cases h;exact .inl (.inl (.inl e))
 . rename_i ys e;cases h;exact .inr (.inl (.inl e))
 . rename_i o ys e;cases h;exact .inl (.inl (.inr ⟨_,e⟩))
 . rename_i o ys e;cases h;exact .inr (.inl (.inr ⟨_,e⟩))
theorem zfl {H:Hp} {p:Addr} {xs:List V} (h:H p=some (.lst xs)):z7q H p=some xs:=by unfold z7q;rw [h]
theorem zfm {H:Hp} {p:Addr} {xs:List V} (h:H p=some (.tup xs)):z7q H p=some xs:=by unfold z7q;rw [h]
noncomputable def cIx:R2:=fun x y H Q=>match x,y with
 | .ref p,.int i=>(match z7q H p with
  | some xs=>(match atI xs i with | some v=>Q v H | none=>False)
  | none=>False)
 | .str z,.int i=>z.length<=sizeLine/\(match atI z.cps.toList i with | some c=>Q (.str ⟨#[c]⟩) H | none=>False)
 | _,_=>False
def zae (x:V) (H:Hp) (Q:Bool->Hp->Prop):Prop:=match x with
 | .bl b=>Q b H
 | .int i=>Q (i != 0) H
 | .non=>Q false H
 | .str y=>y.length<=sizeLine/\Q ((y.length:Int) != 0) H
 | .ref p=>(match z7q H p with
  | some xs=>Q (!xs.isEmpty) H
  | none=>(match H p with | some (.dK kvs)=>Q (!kvs.isEmpty) H | _=>False))
 | _=>False
theorem zcx {K:Frag} {x:V} {H:Hp} {Q:Bool->Hp->Prop} (h:zae x H Q):∃k,zzy K x H k/\Q k H:=by
 cases x with
 | bl b=>exact ⟨b,rfl,h⟩
 | int i=>exact ⟨_,rfl,h⟩
 | non=>exact ⟨_,rfl,h⟩
 | str y=>exact ⟨_,⟨h.1,rfl⟩,h.2⟩
 | ref p=>
  unfold zae at h
  dsimp only at h
  split at h
  . rename_i xs e
    rcases ziw (K:=K) e with z | z
    . exact ⟨_,.inl ⟨xs,z,rfl⟩,h⟩
    . exact ⟨_,.inr (.inl ⟨xs,z,rfl⟩),h⟩
  . split at h
    . rename_i kvs e;exact ⟨_,.inr (.inr ⟨kvs,e,rfl⟩),h⟩
    . exact h.elim
 | _=>exact h.elim
noncomputable def y12 (t:TE):TT:=fun σ H Q=>t σ H fun x H'=>zae x H' Q
section
variable {X:Cx} {a b c:Expr} {ta tb:TE} {pos:Pos}
theorem zrn (ha:PE X a ta) (he:∀whole,isTrue a X.env whole=(do let v <-whole;standAt a.pos;holding [v] (truthy v)):=by intro _;rfl):PT X a (y12 ta):=by
 intro pins s σ H Q I h
 exact isTrue_plain (thn (ha pins s σ H _ I h) fun v s1 ⟨x,H1,I1,r1,q1⟩=>zky pins s1 σ H1 x v Q I1 r1 (zcx q1)) (he _)
noncomputable def zna (t:TE):TT:=fun σ H Q=>t σ H fun x H'=>match x with | .bl k=>Q k H' | _=>False
theorem znb {op:CmpOp} {r:R2} (ho:OpR X (compareOp op) r) (ha:PE X a ta) (hb:PE X b tb) (hm:behindInMarks op b=false):PT X (.Compare a [op] [b] pos) (zna (tOp r ta tb)):=by
 intro pins s σ H Q I h
 refine wpAny_isTrue_Compare1 (thn (ha pins s σ H _ I h) fun v s1 ⟨x,H1,I1,r1,q1⟩=>thn (hb pins s1 σ H1 _ I1 q1) fun u s2 ⟨y,H2,I2,r2,q2⟩=>
  thn (ho pins s2 σ H2 x y v u _ I2 r1 r2 q2) fun c s3 ⟨z,H3,I3,r3,q3⟩=>?_) hm
 cases z<;>first | exact q3.elim | skip
 cases r3
 exact wpAny_truthy_bool ⟨H3,I3,q3⟩
end
section
variable {X:Cx} {a b c:Expr} {ta tb:TE} {pos:Pos}
def PChT (X:Cx) (ops:List CmpOp) (rs:List Expr) (t:V->TT):Prop:=
 ∀(pos:Pos) (pins:List (Addr×Obj)) (s:Shared) (σ:St) (H:Hp) (x:V) (v:Value) (Q:Bool->Hp->Prop),Inv X pins σ H s->RelV x v->t x σ H Q->wpAny (model X.prog X.w) X.A (testChain pos v ops (evalEach rs X.env)) (TP X pins σ Q) X.xe s
noncomputable def y13 (r:R2) (tb:TE) (t:V->TE):V->TE:=fun x σ H Q=>tb σ H fun y H2=>r x y H2 fun z H3=>match z with | .bl k=>(if k=true then t y σ H3 Q else Q (.bl false) H3) | _=>False
noncomputable def zl0 (r:R2) (tb:TE):V->TT:=fun x σ H Q=>tb σ H fun y H2=>r x y H2 fun z H3=>match z with | .bl k=>Q k H3 | _=>False
noncomputable def zl1 (r:R2) (tb:TE) (t:V->TT):V->TT:=fun x σ H Q=>tb σ H fun y H2=>r x y H2 fun z H3=>match z with | .bl k=>(if k=true then t y σ H3 Q else Q false H3) | _=>False
theorem zfn {op:CmpOp} {r:R2} (ho:OpR X (compareOp op) r) (hb:PE X b tb):PChT X [op] [b] (zl0 r tb):=by
 intro pos pins s σ H x v Q I rx h
 refine test_last (thn (hb pins s σ H _ I h) fun u s2 ⟨y,H2,I2,r2,q2⟩=>thn (ho pins s2 σ H2 x y v u _ I2 rx r2 q2) fun d s3 ⟨z,H3,I3,r3,q3⟩=>?_)
 cases z<;>first | exact q3.elim | skip
 cases r3
 exact wpAny_truthy_bool ⟨H3,I3,q3⟩
theorem zfo {op op':CmpOp} {ops:List CmpOp} {r':Expr} {rs:List Expr} {r:R2} {t:V->TT} (ho:OpR X (compareOp op) r) (hb:PE X b tb) (hr:PChT X (op'::ops) (r'::rs) t):PChT X (op::op'::ops) (b::r'::rs) (zl1 r tb t):=by
 intro pos pins s σ H x v Q I rx h
 refine test_link (thn (hb pins s σ H _ I h) fun u s2 ⟨y,H2,I2,r2,q2⟩=>thn (ho pins s2 σ H2 x y v u _ I2 rx r2 q2) fun d s3 ⟨z,H3,I3,r3,q3⟩=>?_)
 cases z<;>first | exact q3.elim | skip
 rename_i k
 cases r3
 refine wpAny_truthy_bool ?_
 cases k with
 | false=>exact ite_ff ⟨H3,I3,by simpa using q3⟩
 | true=>exact ite_tt (hr pos pins s3 σ H3 y u Q I3 r2 (by simpa using q3))
noncomputable def zro (ta:TE) (t:V->TT):TT:=fun σ H Q=>ta σ H fun x H1=>t x σ H1 Q
theorem zrp {op₁ op₂:CmpOp} {ops:List CmpOp} {r₁ r₂:Expr} {rs:List Expr} {t:V->TT} (ha:PE X a ta) (hr:PChT X (op₁::op₂::ops) (r₁::r₂::rs) t) (hm:lastMarks (op₁::op₂::ops) (r₁::r₂::rs)=false:=by with_unfolding_all rfl) :
  PT X (.Compare a (op₁::op₂::ops) (r₁::r₂::rs) pos) (zro ta t):=by
 intro pins s σ H Q I h
 exact isTrue_chain (thn (ha pins s σ H _ I h) fun v s1 ⟨x,H1,I1,r1,q1⟩=>hr pos pins s1 σ H1 x v Q I1 r1 q1) hm
noncomputable def zrq (ta tb:TE):TE:=fun σ H Q=>ta σ H fun x H1=>match x with | .bl c=>(if c=true then tb σ H1 Q else Q (.bl false) H1) | _=>False
noncomputable def y08 (ta tb:TE):TE:=fun σ H Q=>ta σ H fun x H1=>match x with | .bl c=>(if c=true then Q (.bl true) H1 else tb σ H1 Q) | _=>False
end
section
variable {X:Cx} {a b c:Expr} {ta tb:TE} {pos:Pos} {rest:List Expr}
theorem znc (ha:PE X a ta) (hb:PE X (.BoolOp .And (b::rest) pos) tb):PE X (.BoolOp .And (a::b::rest) pos) (zrq ta tb):=by
 intro pins s σ H Q I h
 refine BoolOp_and (thn (ha pins s σ H _ I h) fun v s1 ⟨x,H1,I1,r1,q1⟩=>?_)
 cases x<;>first | exact q1.elim | skip
 rename_i k
 cases r1
 refine wpAny_truthy_bool ?_
 cases k with
 | true=>exact ite_tt (hb pins s1 σ H1 Q I1 (by simpa using q1))
 | false=>exact ite_ff ⟨.bl false,H1,I1,rfl,by simpa using q1⟩
theorem zrr (ha:PE X a ta) (hb:PE X (.BoolOp .Or (b::rest) pos) tb):PE X (.BoolOp .Or (a::b::rest) pos) (y08 ta tb):=by
 intro pins s σ H Q I h
 refine BoolOp_or (thn (ha pins s σ H _ I h) fun v s1 ⟨x,H1,I1,r1,q1⟩=>?_)
 cases x<;>first | exact q1.elim | skip
 rename_i k
 cases r1
 refine wpAny_truthy_bool ?_
 cases k with
 | true=>exact ite_tt ⟨.bl true,H1,I1,rfl,by simpa using q1⟩
 | false=>exact ite_ff (hb pins s1 σ H1 Q I1 (by simpa using q1))
noncomputable def zx4 (ta:TE):TE:=fun σ H Q=>ta σ H fun x H1=>zae x H1 fun k H2=>Q (.bl (!k)) H2
theorem znd (ha:PE X a ta):PE X (.UnaryOp .Not a pos) (zx4 ta):=by
 intro pins s σ H Q I h
 refine UnaryOp_ (thn (ha pins s σ H _ I h) fun v s1 ⟨x,H1,I1,r1,q1⟩=>not_of ?_)
 exact thn (zky pins s1 σ H1 x v _ I1 r1 (zcx q1)) fun k s2 ⟨H2,I2,q2⟩=>⟨.bl (!k),H2,I2,rfl,q2⟩
noncomputable def z8t (H:Hp):V->Option String
 | .non=>some "NoneType"
 | .bl _=>some "bool"
 | .int _=>some "int"
 | .str _=>some "str"
 | .ref a=>(match H a with
  | some (.lst _)=>some "list"
  | some (.frz _ (.lst _))=>some "list"
  | some (.tup _)=>some "tuple"
  | some (.dK _)=>some "dict"
  | some (.dT _)=>some "dict"
  | _=>none)
 | _=>none
noncomputable def zbf (t c:String):Bool:=t==c||(t=="bool"&&c=="int")
noncomputable def z3o (c:String):Bool:=["int","bool","str","list","tuple","dict"].contains c
theorem z0w {K:Frag} {t c:String} (ht:["NoneType","bool","int","str","list","tuple","dict"].contains t=true) (hc:z3o c=true):kitOne K (.type t) (.type c)=some (zbf t c):=by
 have h1:t="NoneType"\/t="bool"\/t="int"\/t="str"\/t="list"\/t="tuple"\/t="dict":=by simpa using ht
 have h2:c="int"\/c="bool"\/c="str"\/c="list"\/c="tuple"\/c="dict":=by simpa [z3o] using hc
 rcases h1 with rfl | rfl | rfl | rfl | rfl | rfl | rfl<;>rcases h2 with rfl | rfl | rfl | rfl | rfl | rfl<;>first | rfl | (with_unfolding_all rfl)
theorem zix:CallR X (.builtin "isinstance") (fun xs H Q=>match xs with
  | [x,.ty c]=>z3o c=true/\(match z8t H x with | some t=>Q (.bl (zbf t c)) H | none=>False)
  | _=>False):=by
 intro pins s σ H xs us Q I r h
 split at h
 . rename_i x c
   obtain ⟨hc,h⟩:=h
   obtain ⟨u,w',rfl,ru,rw'⟩:=zwu r
   cases rw'
   split at h
   . rename_i t et
     have fin:∀(tk:Nat),EP X pins σ Q (.bool (zbf t c)) { s with toks:=tk }:=fun tk=>⟨.bl _,H,I.tok _,rfl,h⟩
     cases x<;>simp only [z8t] at et
     case non=>cases et;exact z0t I ru .non (z0w (by decide) hc) fin
     case bl b=>cases et;exact z0t I ru (.bl b) (z0w (by decide) hc) fin
     case int b=>cases et;exact z0t I ru (.int b) (z0w (by decide) hc) fin
     case str b=>cases et;exact z0t I ru (.str b) (z0w (by decide) hc) fin
     case ref a=>
      split at et<;>first | (cases et;done) | skip
      . rename_i ys e;cases et;exact z0t I ru (.lst e) (z0w (by decide) hc) fin
      . rename_i o ys e;cases et;exact z0t I ru (.frz e) (z0w (by decide) hc) fin
      . rename_i ys e;cases et;exact z0t I ru (.tup e) (z0w (by decide) hc) fin
      . rename_i ys e;cases et;exact z0t I ru (.dK e) (z0w (by decide) hc) fin
      . rename_i ys e;cases et;exact z0t I ru (.dT e) (z0w (by decide) hc) fin
     all_goals cases et
   . exact h.elim
 . exact h.elim
abbrev zbx (s:Shared) (L:Addr):List (Addr×Obj):=z6l (Att.noObjs s.heap) s.heap L
section
variable {pins:List (Addr×Obj)} {σ:St} {H:Hp} {s:Shared} {h':Heap} {m:Str->Option Value}
theorem z82 {L:Addr} (N:News (Att.noObjs s.heap) L h' (zbx s L)):∀b o,b≠L->s.heap.get? b=some o->h'.get? b=some o:=fun b o hb e=>(N (b,o) (z2j hb (Att.noObjs_get _ _) e)).1
theorem Inv.frn {tk:Nat} (I:Inv X pins σ H s) (hn:s.heap.Ns X.env.locals m) (F:Fr (Att.noObjs s.heap) X.env.locals h' m) (N:News (Att.noObjs s.heap) X.env.locals h' (zbx s X.env.locals)):Inv X pins σ H { s with heap:=h',toks:=tk }:=by
 have kept:=z82 N
 refine I.step (g':=s.gens) (d':=s.drawn) (ch:=[]) (fun _ z=>nomatch z) (fun b o hL _ _ e _=>kept b o hL e) (fun b o hL _ _ e _=>⟨o.slots,kept b o hL e⟩) (fun _ _ _ _ n=>n) (fun b o _ e=>?_) (fun _ _ e=>e) (fun _ _ _ e=>e) (fun b ps e=>⟨#[],by rw [e];simp⟩) (fun m' hm=>?_) (fun b u e=>?_) I.bare
 . by_cases hb:b=X.env.locals
   . subst hb
     obtain ⟨o',_,_,ho',_⟩:=F.ns
     exact ⟨o',ho'⟩
   . exact ⟨o,kept b o hb e⟩
 . rw [hm.eq_nsMap,<-hn.eq_nsMap];exact F.ns
 . refine (I.hok b u e).stay (fun c v hc q=>kept c v ?_ q) (fun _ q=>q) fun _ _ q=>q
   intro z
   rcases hc with hc | hc
   . rw [<-hc,z,I.free] at e;cases e
   . rw [z,I.free] at hc;cases hc
theorem Inv.frnew {tk:Nat} {D:Addr} {ob:Obj} {o:HO} (I:Inv X pins σ H s) (hn:s.heap.Ns X.env.locals m) (F:Fr (Att.noObjs s.heap) X.env.locals h' m) (N:News (Att.noObjs s.heap) X.env.locals h' ((D,ob)::zbx s X.env.locals))
  (hD:s.heap.get? D=none) (new:ObjOk X.prog X.w (upd H D o) h' D o):H D=none/\Inv X pins σ (upd H D o) { s with heap:=h',toks:=tk }:=by
 have kept:=z82 (fun p hp=>N p (.tail _ hp))
 have hDL:D≠X.env.locals:=(N (D,ob) (.head _)).2.1
 have neD:∀b o,s.heap.get? b=some o->b≠D:=fun b o e z=>by rw [z,hD] at e;cases e
 have HD:H D=none:=by
  cases q:H D with
  | none=>rfl
  | some u=>
   have:=(I.hok D u q).lt
   obtain ⟨v,hv⟩:∃v,s.heap.get? D=some v:=by
    have z:=I.hok D u q
    cases u with
    | lst xs=>obtain ⟨_,_,_,_,e⟩:=z;exact ⟨_,e⟩
    | tup xs=>obtain ⟨_,_,_,o,e,_⟩:=z;exact ⟨_,e⟩
    | dK kvs=>obtain ⟨_,_,_,_,o,_,_,e,_⟩:=z;exact ⟨_,e⟩
    | dT kvs=>obtain ⟨_,_,_,_,o,_,_,e,_⟩:=z;exact ⟨_,e⟩
    | set S n=>obtain ⟨_,_,_,_,e,_⟩:=z;exact ⟨_,e⟩
    | ins C dx fs=>obtain ⟨_,_,_,e,_⟩:=z;exact ⟨_,e⟩
    | own x=>exact z
    | xd fs=>obtain ⟨mA,n1,_⟩:=z;obtain ⟨o,_,_,e,_⟩:=n1;exact ⟨o,e⟩
    | met f x=>exact ⟨_,z⟩
    | rng lo hi=>obtain ⟨_,_,_,e⟩:=z;exact ⟨_,e⟩
    | frz o u=>exact ⟨_,z.1⟩
    | tbl ps=>exact ⟨_,z⟩
    | ctb q=>obtain ⟨_,e,_⟩:=z;exact ⟨_,e⟩
    | ext φ=>exact z.2.1
   rw [hD] at hv;cases hv
 refine ⟨HD,I.step (g':=s.gens) (d':=s.drawn) (ch:=[]) (fun _ z=>nomatch z) (fun b o hL _ _ e _=>kept b o hL e) (fun b o hL _ _ e _=>⟨o.slots,kept b o hL e⟩) (fun b ob _ e n=>by rw [z02 (neD b ob e)];exact n) (fun b o _ e=>?_)
  (fun b xs e=>by rw [z02 (z0b e HD)];exact e) (fun b u xs e=>by rw [z02 (z0b e HD)];exact e) (fun b ps e=>⟨#[],by rw [z02 (z0b e HD),e];simp⟩) (fun m' hm=>?_) (fun b u e=>?_) I.bare⟩
 . by_cases hb:b=X.env.locals
   . subst hb
     obtain ⟨o',_,_,ho',_⟩:=F.ns
     exact ⟨o',ho'⟩
   . exact ⟨o,kept b o hb e⟩
 . rw [hm.eq_nsMap,<-hn.eq_nsMap];exact F.ns
 . by_cases hb:b=D
   . subst hb
     rw [z05] at e
     cases e
     exact new
   . rw [z02 hb] at e
     refine (I.hok b u e).stay (fun c v hc q=>kept c v ?_ q) (fun c q=>?_) fun c xs q=>?_
     . intro z
       rcases hc with hc | hc
       . rw [<-hc,z,I.free] at e;cases e
       . rw [z,I.free] at hc;cases hc
     . rw [z02 (z0b q HD)];exact q
     . rw [z02 (z0b q HD)];exact q
end
end
noncomputable def ItS (S:Hp->Prop) (xs:List V):It:=⟨fun i H=>S H/\i<xs.length,fun i H x H'=>H'=H/\xs[i]?=some x,fun i H=>S H/\xs.length<=i⟩
theorem Turn.conv {P:Program} {w:World} {K:Frag} {tg:Expr} {J J':It} {fp:List Addr} {it:Addr} {tn:Nat->Heap->Prop} (T:Turn P w K tg J fp it tn) (h1:∀i H,J'.go i H->J.go i H) (h2:∀i H x H',J'.go i H->J.yld i H x H'->J'.yld i H x H')
  (h3:∀i H,J'.stop i H->J.stop i H):Turn P w K tg J' fp it tn where
 mem:=T.mem
 obj:=T.obj
 keep:=T.keep
 item:=fun X a b c d i pins s σ H E I hf st hg=>thn (T.item X a b c d i pins s σ H E I hf st (h1 i H hg)) fun r s1 ⟨u,e,h⟩=>⟨u,e,thn h fun _ s2 ⟨x,H',I',r',y',st',fr'⟩=>⟨x,H',I',r',h2 i H x H' hg y',st',fr'⟩⟩
 done:=fun X a b c d i pins s σ H E I hf st hg=>T.done X a b c d i pins s σ H E I hf st (h3 i H hg)
 self:=T.self
section
variable {X:Cx} {tg:Expr}
def zql (x:V) (H1:Hp) (R:It->Hp->Prop):Prop:=match x with
 | .ref a=>(match H1 a with
  | some (.lst xs)=>R (ItS (fun H'=>Rd H' a (.lst xs)) xs) H1
  | some (.frz _ (.lst xs))=>R (ItS (fun H'=>Rd H' a (.lst xs)) xs) H1
  | some (.tup xs)=>R (ItS (fun H'=>H' a=some (.tup xs)) xs) H1
  | _=>False)
 | _=>False
theorem ziy {a:Addr} {H:Hp} {R:It->Hp->Prop} {xs:List V} (h:Rd H a (.lst xs)) (r:R (ItS (fun H'=>Rd H' a (.lst xs)) xs) H):zql (.ref a) H R:=by
 unfold zql
 rcases h with h | ⟨o,h⟩
 . dsimp only;rw [h];exact r
 . dsimp only;rw [h];exact r
theorem ziz {a:Addr} {H:Hp} {R:It->Hp->Prop} {xs:List V} (h:H a=some (.tup xs)) (r:R (ItS (fun H'=>H' a=some (.tup xs)) xs) H):zql (.ref a) H R:=by
 unfold zql
 dsimp only;rw [h];exact r
noncomputable def y14 (K:Frag) (tl:TE):TI:=fun σ H R=>tl σ H fun x H1=>zql x H1 R
theorem zrs {l:Expr} {tl:TE} (hl:PE X l tl):PI X tg l (y14 X.K tl):=by
 intro pins s σ H R I h
 refine thn (hl pins s σ H _ I h) fun v s1 ⟨x,H1,I1,r1,q1⟩=>?_
 cases x<;>first | exact q1.elim | skip
 rename_i a
 cases r1
 unfold zql at q1
 dsimp only at q1
 have asList:∀xs,Rd H1 a (.lst xs)->R (ItS (fun H'=>Rd H' a (.lst xs)) xs) H1->wpAny (model X.prog X.w) X.A (pyIter (.ref a)) (PIE X pins σ tg R) X.xe s1:=fun xs hq q=>by
  obtain ⟨its,rv,p,hz⟩:=I1.list (.inl hq)
  refine wpAny_pyIter_list p.isList ?_
  refine ⟨s1.heap.objs.size,[s1.heap.objs.size],_,_,H1,rfl,I1.kept (t':=s1.toks) fun b o e=>Heap.get?_push_of_some _ e,(zf5 a _).conv ?_ ?_ ?_,⟨_,Heap.get?_push_size _ rfl,rfl,rfl⟩,fun b hb=>?_,q⟩
  . exact fun i H' ⟨h1,h2⟩=>⟨xs,xs[i],.inl h1,by simp [h2]⟩
  . exact fun i H' x H'' ⟨h1,h2⟩ ⟨e,y⟩=>⟨e,y xs (.inl h1)⟩
  . exact fun i H' ⟨h1,h2⟩=>⟨xs,.inl h1,h2⟩
  . have e:b=s1.heap.objs.size:=by simpa using hb
    subst e
    exact I1.fpOk (Nat.le_refl _) (I1.hok.fresh (Nat.le_refl _))
 split at q1
 . rename_i xs e;exact asList xs (.inl e) q1
 . rename_i o xs e;exact asList xs (.inr ⟨o,e⟩) q1
 . rename_i xs e
   obtain ⟨its,rv,p,hz⟩:=I1.tuple (.of e)
   refine wpAny_pyIter_tuple (show s1.heap.IsTuple a its.toArray from p) ?_
   refine ⟨s1.heap.objs.size,[s1.heap.objs.size],_,_,H1,rfl,I1.kept (t':=s1.toks) fun b o e=>Heap.get?_push_of_some _ e,(ze5 a _).conv ?_ ?_ ?_,⟨_,Heap.get?_push_size _ rfl,rfl,rfl⟩,fun b hb=>?_,q1⟩
   . exact fun i H' ⟨h1,h2⟩=>⟨xs,xs[i],.of h1,by simp [h2]⟩
   . exact fun i H' x H'' ⟨h1,h2⟩ ⟨e,y⟩=>⟨e,y xs (.of h1)⟩
   . exact fun i H' ⟨h1,h2⟩=>⟨xs,.of h1,h2⟩
   . have e:b=s1.heap.objs.size:=by simpa using hb
     subst e
     exact I1.fpOk (Nat.le_refl _) (I1.hok.fresh (Nat.le_refl _))
 . exact q1.elim
noncomputable def zey (lo:Int) (n:Nat):List V:=(List.range n).map fun (i:Nat)=>V.int (lo+i)
theorem z4c (lo:Int) (n:Nat):(zey lo n).length=n:=by simp [zey]
theorem zfp (lo:Int) (n i:Nat) (h:i<n):(zey lo n)[i]?=some (.int (lo+i)):=by simp [zey,h]
noncomputable def iR1 (ta:TA):TI:=fun σ H R=>ta σ H fun vs H1=>match vs with | [.int j]=>(-(2 ^ 62)<=j/\j<2 ^ 62)/\R (ItS (fun _=>True) (zey 0 j.toNat)) H1 | _=>False
theorem z59 (lo:Int) (n:Nat):(∀i (H:Hp),(ItS (fun _=>True) (zey lo n)).go i H->(Itr lo n).go i H)/\(∀i H x H',(ItS (fun _=>True) (zey lo n)).go i H->(Itr lo n).yld i H x H'->(ItS (fun _=>True) (zey lo n)).yld i H x H') /\
  (∀i (H:Hp),(ItS (fun _=>True) (zey lo n)).stop i H->(Itr lo n).stop i H):=by
 refine ⟨fun i H ⟨_,h⟩=>?_,fun i H x H' ⟨_,h⟩ ⟨e,y⟩=>⟨e,?_⟩,fun i H ⟨_,h⟩=>?_⟩
 . rw [z4c] at h;exact h
 . rw [z4c] at h;rw [y];exact zfp lo n i h
 . rw [z4c] at h;exact h
end
def y09 (J:It) (g:TG) (tb:TS) (D:Ends) (σ:St) (H1:Hp):Prop:=∃W:Nat->Nat->St->Hp->Prop,(∃m,W 0 m σ H1)/\∀i m σ H,W i m σ H ->
 (J.stop i H/\D.nx σ H)\/(J.go i H/\∃N:St->Hp->Prop,(∀σ' H',N σ' H'->∃m',m'<m/\W (i+1) m' σ' H')/\∀x H',J.yld i H x H'->g x σ H' fun σ2 H2=>tb { D with nx:=N,ct:=N,bk:=D.nx } σ2 H2)
noncomputable def zrt (wi:TI) (g:TG) (tb:TS):TS:=fun D σ H=>wi σ H fun J H1=>y09 J g tb D σ H1
theorem zne {X:Cx} {tg iter:Expr} {body:List Stmt} {wi:TI} {g:TG} {tb:TS} {pos:Pos} (hp:PassesOwn (model X.prog X.w) X.A X.env X.xe) (hc:X.calm=true) (hi:PI X tg iter wi) (hg:PG X tg g) (hb:PSs X body tb)
 (hs:∀x,foldedSetIterable iter X.env x=pure x:=by intro _;rfl):PS X (.For tg iter body [] pos) (zrt wi g tb):=zr7 hp hc hi hg hb hs
theorem Same.upd_new {H:Hp} {a:Addr} {o:HO} (h:H a=none):Same H (upd H a o):=fun b u e=>by rw [z02 (z0b e h)];exact e
theorem Same.upd_at {H H1:Hp} {a:Addr} {o:HO} (s:Same H H1) (h:H a=none):Same H (upd H1 a o):=fun b u e=>by rw [z02 (z0b e h)];exact s b u e
section
variable {X:Cx} {pins:List (Addr×Obj)} {σ:St} {H:Hp} {s:Shared}
theorem Inv.turnedT {wr:List Addr} {h':Heap} {tk:Nat} {T:Addr} {xs:List V} {its:List Value} (I:Inv X pins σ H s) (hw:∀b∈wr,zcr X pins H b) (k:∀b o,b∉wr->s.heap.get? b=some o->h'.get? b=some o)
  (hT:s.heap.objs.size<=T) (ht:h'.IsTuple T its.toArray) (rv:Vals xs its) (hz:xs.length<=sizeLine):Inv X pins σ (upd H T (.tup xs)) { s with heap:=h',toks:=tk }:=by
 have HT:H T=none:=I.hok.fresh hT
 have nw:∀b u,H b=some u->b∉wr:=fun b u e z=>by rw [(hw b z).1] at e;cases e
 have neT:∀b o,s.heap.get? b=some o->b≠T:=fun b o e=>Nat.ne_of_lt (Nat.lt_of_lt_of_le (Heap.lt_size e) hT)
 refine I.step (g':=s.gens) (d':=s.drawn) (ch:=wr) (fun b hb=>⟨(hw b hb).2.2.2.1,(hw b hb).2.1,(hw b hb).2.2.2.2.1,(hw b hb).2.2.2.2.2⟩) (fun b o _ _ hc e _=>k b o hc e) (fun b o _ _ hc e _=>⟨o.slots,k b o hc e⟩)
  (fun b o _ e n=>by rw [z02 (neT b o e)];exact n) (fun b o hc e=>⟨o,k b o hc e⟩) (fun b ys e=>by rw [z02 (z0b e HT)];exact e) (fun b u ys e=>by rw [z02 (z0b e HT)];exact e)
  (fun b ps e=>⟨#[],by rw [z02 (z0b e HT),e];simp⟩) (fun m hm=>?_) (fun b u e=>?_) I.bare
 . obtain ⟨o,es,ep,ho,r⟩:=hm
   exact ⟨o,es,ep,k _ o (fun z=>(hw _ z).2.1 rfl) ho,r⟩
 . by_cases hb:b=T
   . subst hb
     rw [z05] at e
     cases e
     exact ⟨hz,its,rv,ht⟩
   . rw [z02 hb] at e
     refine (I.hok b u e).stay (fun c v hc q=>k c v ?_ q) (fun c q=>?_) fun c ys q=>?_
     . rcases hc with z | z
       . rw [z];exact nw b u e
       . exact nw c _ z
     . rw [z02 (z0b q HT)];exact q
     . rw [z02 (z0b q HT)];exact q
end
section
variable {X:Cx} {pins:List (Addr×Obj)} {σ:St} {H:Hp} {s:Shared}
theorem Inv.turnedN {wr:List Addr} {h':Heap} {tk:Nat} (I:Inv X pins σ H s) (hw:∀b∈wr,zcr X pins H b) (k:∀b o,b∉wr->s.heap.get? b=some o->h'.get? b=some o):Inv X pins σ H { s with heap:=h',toks:=tk }:=by
 have nw:∀b u,H b=some u->b∉wr:=fun b u e z=>by rw [(hw b z).1] at e;cases e
 refine I.step (g':=s.gens) (d':=s.drawn) (ch:=wr) (fun b hb=>⟨(hw b hb).2.2.2.1,(hw b hb).2.1,(hw b hb).2.2.2.2.1,(hw b hb).2.2.2.2.2⟩) (fun b o _ _ hc e _=>k b o hc e) (fun b o _ _ hc e _=>⟨o.slots,k b o hc e⟩)
  (fun b o _ e n=>n) (fun b o hc e=>⟨o,k b o hc e⟩) (fun b ys e=>e) (fun b u ys e=>e) (fun b ps e=>⟨#[],by rw [e];simp⟩) (fun m hm=>?_) (fun b u e=>?_) I.bare
 . obtain ⟨o,es,ep,ho,r⟩:=hm
   exact ⟨o,es,ep,k _ o (fun z=>(hw _ z).2.1 rfl) ho,r⟩
 . refine (I.hok b u e).stay (fun c v hc q=>k c v ?_ q) (fun c q=>q) fun c ys q=>q
   rcases hc with z | z
   . rw [z];exact nw b u e
   . exact nw c _ z
end
noncomputable def ItP (S:Hp->Prop) (ps:List (V×V)):It:=⟨fun i H=>S H/\i<ps.length,fun i H x H'=>∃T a b,x=.ref T/\H T=none/\H'=upd H T (.tup [a,b])/\ps[i]?=some (a,b),fun i H=>S H/\i=ps.length⟩
theorem zru:2<=sizeLine:=by rw [sizeLine_eq];decide
theorem zfq {P:Program} {w:World} {K:Frag} {elts:List Expr} {k:Nat} {pos:Pos} {e it l:Addr} {xs:List V} (hei:e≠it) (hle:l≠e) (hli:l≠it) :
  Turn P w K (.Tuple elts k pos) (ItP (fun H=>Rd H l (.lst xs)) ((zey 0 xs.length).zip xs)) [e,it] e (fun i h=>(∃old,IsEnum h e it i old)/\h.IsListIter it l i) where
 mem:=by simp
 obj:=fun i h ⟨⟨old,he⟩,⟨o1,h1,_,d1⟩⟩ c hc=>by
  have hc':c=e\/c=it:=by simpa using hc
  rcases hc' with rfl | rfl
  . exact ⟨_,he,fun v z=>by cases z⟩
  . exact ⟨o1,h1,fun v z=>by rw [d1] at z;cases z⟩
 keep:=fun i h h' ⟨⟨old,he⟩,h1⟩ kp=>⟨⟨old,kp e (by simp) _ he⟩,h1.at fun o z=>kp it (by simp) o z⟩
 item:=by
  intro X hP hw hK hc i pins s σ H E I hf st hg
  subst hP hw hK
  obtain ⟨hS,hlt⟩:=hg
  obtain ⟨he,h1⟩:=st
  obtain ⟨its,r,p1,z1⟩:=I.list (.inl hS)
  have W:=WalksT.enumerate (prog:=X.prog) (w:=X.w) (A:=X.A) (I.ok.hd hc) e it l hei hle hli its.toArray
  have le1:=r.length
  have hlx:i<xs.length:=by rw [List.length_zip,z4c] at hlt;omega
  have hlz:i<its.toArray.size:=by simp only [List.size_toArray];omega
  refine W.item i s _ _ hlz ⟨he,h1,p1.isList⟩ fun T vals h' tk hPt hT ht hM hk=>⟨.ref T,rfl,?_⟩
  refine W.go elts k pos i T _ _ _ hM fun h'' hst'' hk''=>?_
  obtain ⟨t,x,hx,rfl⟩:=hPt
  obtain ⟨a,ea⟩:∃a,xs[i]?=some a:=⟨xs[i],by simp⟩
  obtain ⟨u1,q1,ru1⟩:=r.get ea
  have hx':its[i]?=some x:=by simpa using hx
  rw [q1] at hx';cases hx'
  obtain ⟨oT,hoT,hcT,nT,hdT⟩:=ht
  have ht'':h''.IsTuple T ([.int (i:Nat) t,x]:List Value).toArray:=⟨oT,hk'' T oT (W.apart i T _ hM) hoT,hcT,nT,hdT⟩
  have sub:∀c∈[e,it],zcr X pins H c:=fun c hc'=>hf c hc'
  have I2:=I.turnedT (tk:=tk) (xs:=[.int (i:Nat),a]) (its:=[.int (i:Nat) t,x]) sub (fun c o hcw z=>hk'' c o hcw (hk c o hcw z)) hT ht'' (.cons ⟨_,rfl⟩ (.cons ru1 .nil)) zru
  have HT:H T=none:=I.hok.fresh hT
  refine ⟨.ref T,upd H T (.tup [.int (i:Nat),a]),I2,rfl,⟨T,.int (i:Nat),a,rfl,HT,rfl,?_⟩,⟨hst''.1,hst''.2.1⟩,fun c hc'=>?_⟩
  . rw [List.getElem?_zip_eq_some]
    refine ⟨?_,ea⟩
    rw [zfp 0 _ _ hlx];simp
  . rw [z02]
    . exact (hf c hc').1
    . intro ec
      have hh:∃o,s.heap.get? c=some o:=by
       have hc'':c=e\/c=it:=by simpa using hc'
       obtain ⟨old,he'⟩:=he
       obtain ⟨o1,g1,_⟩:=h1
       rcases hc'' with z | z<;>subst z
       . exact ⟨_,he'⟩
       . exact ⟨_,g1⟩
      obtain ⟨o,ho⟩:=hh
      exact absurd (Nat.lt_of_lt_of_le (Heap.lt_size ho) hT) (by rw [ec];exact Nat.lt_irrefl _)
 done:=by
  intro X hP hw hK hc i pins s σ H E I hf st hg
  subst hP hw hK
  obtain ⟨hS,hle'⟩:=hg
  obtain ⟨he,h1⟩:=st
  obtain ⟨its,r,p1,z1⟩:=I.list (.inl hS)
  have W:=WalksT.enumerate (prog:=X.prog) (w:=X.w) (A:=X.A) (I.ok.hd hc) e it l hei hle hli its.toArray
  have le1:=r.length
  have hi:its.toArray.size=i:=by
   rw [List.length_zip,z4c] at hle'
   simp only [List.size_toArray];omega
  rw [<-hi] at h1 he
  exact W.done s _ _ ⟨he,h1,p1.isList⟩ fun h' tk hk=>⟨rfl,I.turnedN hf hk⟩
 self:=fun A i s Q E st h=>by
  obtain ⟨⟨old,he⟩,_⟩:=st
  exact wpAny_pyIter_enum he h
section
variable {X:Cx} {a:Expr} {ta:TA} {p pos tpos:Pos} {elts:List Expr} {k:Nat}
noncomputable def y22 (ta:TA):TI:=fun σ H R=>ta σ H fun vs H1=>match vs with
 | [.ref l1,.ref l2]=>∃xs ys,Rd H1 l1 (.lst xs)/\Rd H1 l2 (.lst ys)/\R (ItP (fun H=>Rd H l1 (.lst xs)/\Rd H l2 (.lst ys)) (xs.zip ys)) H1
 | _=>False
noncomputable def zx5 (ta:TA):TI:=fun σ H R=>ta σ H fun vs H1=>match vs with
 | [.ref l]=>∃xs,Rd H1 l (.lst xs)/\R (ItP (fun H=>Rd H l (.lst xs)) ((zey 0 xs.length).zip xs)) H1
 | _=>False
theorem znf (hg:Gl X "enumerate") (hm:X.mg "enumerate"=none) (ha:PA X [a] ta) (hs:starEach [a] X.env=[(false,eval a X.env)]:=by rfl) :
  PI X (.Tuple elts k tpos) (.Call (.Name "enumerate" p) [a] [] pos) (zx5 ta):=by
 intro pins s σ H R I h
 refine Call_ (z4a I hg hm boot_enumerate (PyProof.Rows.callWith_type1 (thn (ha pos pins s σ H _ I h) fun us s1 ⟨vs,H1,I1,r1,q1⟩=>?_) hs rfl))
 dsimp only at q1
 split at q1
 . rename_i l
   obtain ⟨xs,e1,q⟩:=q1
   obtain ⟨u,rfl,ru⟩:=z63 r1
   cases ru
   obtain ⟨its1,rr1,p1,_⟩:=I1.list (.inl e1)
   have lt1:l<s1.heap.objs.size:=by obtain ⟨o,ho,_⟩:=p1.isList;exact Heap.lt_size ho
   refine call_enumerate_list p1.isList fun h' he hi hsz hk=>?_
   refine wpAny_pyIter_enum he ⟨s1.heap.objs.size+1,[s1.heap.objs.size+1,s1.heap.objs.size],_,_,H1,rfl,I1.kept (t':=s1.toks) hk,zfq (Nat.succ_ne_self _) (Nat.ne_of_lt (Nat.lt_succ_of_lt lt1)) (Nat.ne_of_lt lt1),⟨⟨_,he⟩,hi⟩,fun c hc=>?_,q⟩
   have hc':s1.heap.objs.size<=c:=by
    have:c=s1.heap.objs.size+1\/c=s1.heap.objs.size:=by simpa using hc
    rcases this with z | z<;>rw [z]<;>first | exact Nat.le_add_right _ _ | exact Nat.le_refl _
   exact I1.fpOk hc' (I1.hok.fresh hc')
 . exact q1.elim
end
section
variable {X:Cx} {tg:Expr} {a:Expr} {ta:TA} {p pos:Pos}
theorem zx6 (hg:Gl X "range") (hm:X.mg "range"=none) (ha:PA X [a] ta) (hs:starEach [a] X.env=[(false,eval a X.env)]:=by rfl):PI X tg (.Call (.Name "range" p) [a] [] pos) (iR1 ta):=by
 intro pins s σ H R I h
 refine Call_ (z4a I hg hm boot_range (PyProof.Rows.callWith_type1 (thn (ha pos pins s σ H _ I h) fun us s1 ⟨vs,H1,I1,r1,q1⟩=>?_) hs rfl))
 dsimp only at q1
 split at q1
 . rename_i j
   obtain ⟨⟨h1,h2⟩,q⟩:=q1
   obtain ⟨u,rfl,t,rfl⟩:=z63 r1
   refine call_range_1 (thn (ziq (tg:=tg) (R:=fun J H1=>∃J',(∀i H,J'.go i H->J.go i H)/\(∀i H x H',J'.go i H->J.yld i H x H'->J'.yld i H x H')/\(∀i H,J'.stop i H->J.stop i H)/\R J' H1) I1 (by omega) (by omega) h1 h2 ?_) fun itv s2 h2=>?_)
   . refine ⟨_,(z59 0 (j - 0).toNat).1,(z59 0 (j - 0).toNat).2.1,(z59 0 (j - 0).toNat).2.2,?_⟩
     simpa using q
   . obtain ⟨it,fp,tn,J,H2,e,I2,T,st,hf,J',c1,c2,c3,r⟩:=h2
     exact ⟨it,fp,tn,J',H2,e,I2,T.conv c1 c2 c3,st,hf,r⟩
 . exact q1.elim
end
def cB1:V->Hp->(List V->Hp->Prop)->Prop:=fun x H R=>R [x] H
def cBT (n:Nat):V->Hp->(List V->Hp->Prop)->Prop:=fun x H R=>match x with
 | .ref a=>(match H a with | some (.tup xs)=>xs.length=n/\R xs H | _=>False)
 | _=>False
section
variable {X:Cx} {sc:Scope} {caps:List Str} {ix:List Nat} {elt iter:Expr} {ifs:List Expr} {pos px:Pos} {tt:TT} {te:TE} {wi:TI} {x:Str}
theorem y0a (x:V) (σt cs:St) (H:Hp) (Q:St->Hp->Prop) (hl:σt.length=1) (h:cB1 x H (fun vals H2=>Q (vals.map some++cs) H2)):z8k 0 x (σt++cs) H fun σ2 H2=>(∃vals:List V,vals.length=1/\σ2=vals.map some++cs)/\Q σ2 H2:=by
 match σt,hl with
 | [t],_=>exact ⟨⟨[x],rfl,rfl⟩,h⟩
theorem y0b {tgs:List Str} {i:Nat} {x:Str} {px:Pos} (hN:(tgs++caps).Nodup) (hi:(tgs++caps)[i]?=some x) (hx:sc.names.lookup x=some .local) (fp:List Addr) (s:Shared) (H:Hp):PG (z0p X sc (tgs++caps) fp s H) (.Name x px) (z8k i):=
 zbp (X:=z0p X sc (tgs++caps) fp s H) hN hi (.inl (lookup_relabel_local hx)) (.inr (lookup_relabel_local hx))
theorem zj0 (C:CompOk X sc caps ix) (hN:([x]++caps).Nodup) (hx:sc.names.lookup x=some .local) (hi:PI X (.Name x px) iter wi) (ht:∀fp s H,PTs (z0p X sc ([x]++caps) fp s H) ifs tt) (he:∀fp s H,PE (z0p X sc ([x]++caps) fp s H) elt te)
  (hs:∀x,foldedSetIterable iter X.env x=pure x:=by intro _;rfl):PE X (.ListComp elt [⟨.Name x px,iter,ifs,0⟩] sc pos) (zeb wi cB1 ix tt te):=
 zn8 (tgs:=[x]) C hi (fun fp s H=>y0b hN rfl hx fp s H) y0a ht he hs
theorem zcy {v:Str} {k:Nat} {spos pv:Pos} (hNX:X.N.Nodup) (hk:X.N[k]?=some v) (hv:X.env.scope.names.lookup v=some .local) (C:CompOk X sc caps ix) (hN:([x]++caps).Nodup) (hx:sc.names.lookup x=some .local) (hi:PI X (.Name x px) iter wi)
  (ht:∀fp s H,PTs (z0p X sc ([x]++caps) fp s H) ifs tt) (he:∀fp s H,PE (z0p X sc ([x]++caps) fp s H) elt te)
  (hsw:swapsWith (.ListComp elt [⟨.Name x px,iter,ifs,0⟩] sc pos) (some (.Name v pv)) spos.line X.env=pure true:=by rfl) (hs:∀x,foldedSetIterable iter X.env x=pure x:=by intro _;rfl) :
  PS X (.Assign [.Name v pv] (.ListComp elt [⟨.Name x px,iter,ifs,0⟩] sc pos) spos) (zkv (zeb wi cB1 ix tt te) (z8k k)):=
 zn9 (tgs:=[x]) hNX hk hv C hi (fun fp s H=>y0b hN rfl hx fp s H) y0a ht he hsw hs
noncomputable def zng (n:Nat) (t:TGs):TG:=fun v σ H Q=>match v with
 | .ref a=>(match H a with | some (.tup xs)=>xs.length=n/\t xs σ H Q | _=>False)
 | _=>False
noncomputable def zl2 (t:TG) (u:TGs):TGs:=fun vs σ H Q=>match vs with | v::r=>t v σ H fun σ' H'=>u r σ' H' Q | []=>False
noncomputable def zrv:TGs:=fun vs σ H Q=>match vs with | []=>Q σ H | _=>False
theorem PGs.imp {es:List Expr} {t t':TGs} (h:PGs X es t) (hi:∀vs σ H Q,t' vs σ H Q->t vs σ H Q):PGs X es t':=fun pins s σ H vs us Q I r q=>h pins s σ H vs us Q I r (hi vs σ H Q q)
theorem PG.imp {e:Expr} {t t':TG} (h:PG X e t) (hi:∀v σ H Q,t' v σ H Q->t v σ H Q):PG X e t':=fun pins s σ H v u Q I r q=>h pins s σ H v u Q I r (hi v σ H Q q)
theorem zj1:PGs X [] zrv:=pgs_nil.imp fun vs σ H Q q=>by
 cases vs with
 | nil=>exact ⟨rfl,q⟩
 | cons _ _=>exact q.elim
theorem zfr {e:Expr} {es:List Expr} {t:TG} {u:TGs} (h1:PG X e t) (h2:PGs X es u) (hs:(assignEach (e::es) X.env).map (·.2)=assign e X.env::(assignEach es X.env).map (·.2):=by rfl):PGs X (e::es) (zl2 t u):=(zin h1 h2 hs).imp fun vs σ H Q q=>by
 cases vs with
 | nil=>exact q.elim
 | cons v r=>exact ⟨v,r,rfl,q⟩
theorem znh {es:List Expr} {k:Nat} {t:TGs} {n:Nat} (hc:X.calm=true) (h:PGs X es t)
  (hn:(assignEach es X.env).length=n:=by rfl) (hst:(assignEach es X.env).findIdx? (·.1)=none:=by rfl):PG X (.Tuple es k pos) (zng n t):=(zr5 hc h hn hst).imp fun v σ H Q q=>by
 cases v<;>first | exact q.elim | skip
 rename_i a
 unfold zng at q
 dsimp only at q
 split at q
 . rename_i xs e;exact ⟨a,xs,rfl,.of e,q.1,q.2⟩
 . exact q.elim
end
theorem y0c {α:Type} (a:α) (r:List α):atI (a::r) 0=some a:=z8n (j:=0) rfl
theorem y0d {α:Type} (a b:α) (r:List α):atI (a::b::r) 1=some b:=z8n (j:=1) rfl
section
variable {prog:Program} {w:World} {A:Around} {E:Value->Shared->Prop} {s:Shared}
theorem zcz {it t:Addr} {items:Array Value} (hne:t≠it):∀(n i:Nat) (s:Shared) (Q:List Value->Shared->Prop),s.heap.IsListIter it t i->s.heap.IsList t items->i+n<=items.size ->
  (∀h',h'.IsListIter it t (i+n)->Heap.SameBut it s.heap h'->Q ((items.toList.drop i).take n) { s with heap:=h' })->wpAny (model prog w) A (draw (.ref it) n) Q E s
 | 0,i,s,Q,hit,_,_,k=>by
  show wpAny _ _ (pure []) Q E s
  exact wpAny_pure (by simpa using k s.heap hit (Heap.SameBut.refl ..))
 | n+1,i,s,Q,hit,ht,hle,k=>by
  have hlt:i<items.size:=by omega
  show wpAny _ _ (pyNext (.ref it) >>= _) Q E s
  refine wpAny_bind (wpAny_pyNext_list_item hit ht (x:=items[i]) (by simp [hlt]) fun g1 it1 sb1=>?_)
  refine wpAny_bind (wpAny_holding (zcz hne n (i+1) _ _ it1 (ht.extBut sb1.extBut hne) (by omega) fun g2 it2 sb2=>wpAny_pure ?_))
  have hd:items.toList.drop i=items[i]::items.toList.drop (i+1):=by simp [List.drop_eq_getElem_cons,hlt]
  have z:=k g2 (by rw [show i+(n+1)=i+1+n by omega];exact it2) (sb1.trans sb2)
  rw [hd,List.take_succ_cons] at z
  exact z
theorem zfs {t:Addr} {items:Array Value} {Q:List Value->Shared->Prop} (hh:A.handled=none) (ht:s.heap.IsList t items)
  (k:∀h',(∀b o,s.heap.get? b=some o->h'.get? b=some o)->Q items.toList { s with heap:=h' }):wpAny (model prog w) A (unpackItems (.ref t) items.size none) Q E s:=by
 have hlt:t≠s.heap.objs.size:=by obtain ⟨o,ho,_⟩:=ht;exact Nat.ne_of_lt (Heap.lt_size ho)
 have old:∀{b:Addr} {o:Obj},s.heap.get? b=some o->b≠s.heap.objs.size:=fun e=>Nat.ne_of_lt (Heap.lt_size e)
 unfold unpackItems
 refine wpAny_bind ?_
 . unfold notIterableAtAll
   refine wpAny_bind (wpAny_specialOf ht.typeIs slot_list_iter.lookup ?_)
   refine wpAny_pure ?_
   simp only [Bool.false_eq_true,if_false]
   refine wpAny_bind (wpAny_holding (wpAny_pyIter_list ht ?_))
   refine wpAny_bind (wpAny_holding (zcz hlt items.size 0 _ _ ⟨_,Heap.get?_push_size _ rfl,rfl,rfl⟩ (ht.push _) (by omega) fun g1 it1 sb1=>?_))
   have hall:List.take items.size (List.drop 0 items.toList)=items.toList:=by
    rw [List.drop_zero];exact List.take_of_length_le (by simp)
   rw [hall]
   rw [if_neg (by simp)]
   have ht1:g1.IsList t items:=(ht.push _).extBut sb1.extBut hlt
   refine wpAny_bind (wpAny_holding (wpAny_pyNext_list_end hh it1 ht1 (by simp) fun g2 eb2=>?_))
   simp only [Option.isSome_none,Bool.false_eq_true,if_false]
   exact wpAny_pure (k g2 fun b o e=>eb2 b o (old e) (sb1.extBut b o (old e) (Heap.get?_push_of_some _ e)))
theorem zed {env:Env} {elts:List Expr} {x1} {pos:Pos} {t:Addr} {items:Array Value} {Q:Unit->Shared->Prop} (hh:A.handled=none) (ht:s.heap.IsList t items)
  (hn:(assignEach elts env).length=items.size) (hstar:(assignEach elts env).findIdx? (·.1)=none)
  (h:∀h',(∀b o,s.heap.get? b=some o->h'.get? b=some o)->wpAny (model prog w) A (assignInOrder ((assignEach elts env).map (·.2)) items.toList) Q E { s with heap:=h' }) :
  wpAny (model prog w) A (assign (.Tuple elts x1 pos) env (.ref t)) Q E s:=by
 rw [assign_Tuple]
 refine wpAny_bind (wpAny_standAt ?_)
 unfold unpack
 rw [hn,hstar]
 exact wpAny_bind (wpAny_holding (zfs hh ht h))
end
section
variable {X:Cx} {pos:Pos}
noncomputable def zft (n:Nat) (t:TGs):TG:=fun v σ H Q=>match v with
 | .ref a=>(match H a with
  | some (.tup xs)=>xs.length=n/\t xs σ H Q
  | some (.lst xs)=>xs.length=n/\t xs σ H Q
  | _=>False)
 | _=>False
theorem zni {es:List Expr} {k:Nat} {t:TGs} {n:Nat} (hc:X.calm=true) (h:PGs X es t)
  (hn:(assignEach es X.env).length=n:=by rfl) (hst:(assignEach es X.env).findIdx? (·.1)=none:=by rfl):PG X (.Tuple es k pos) (zft n t):=by
 intro pins s σ H v u Q I r hw
 cases v<;>first | exact hw.elim | skip
 rename_i a
 unfold zft at hw
 dsimp only at hw
 split at hw
 . rename_i xs e
   exact znh hc h hn hst pins s σ H (.ref a) u Q I r (by unfold zng;dsimp only;rw [e];exact hw)
 . rename_i xs e
   obtain ⟨hl,hw⟩:=hw
   cases r
   obtain ⟨its,rv,ht,hz⟩:=I.list (.of e)
   refine zed (I.ok.hd hc) ht.isList (by simp [hn,<-hl,rv.length]) hst fun h' hx=>?_
   exact h pins _ σ H xs _ Q (I.kept (t':=s.toks) hx) (by simpa using rv) hw
 . exact hw.elim
def zw9:List V->Hp->VK->Prop:=fun xs H Q=>match xs with
 | [x,.ty c]=>z3o c=true/\(match z8t H x with | some t=>Q (.bl (zbf t c)) H | none=>False)
 | _=>False
section
variable {H:Hp} {Q:VK} {x:V} {cs:String}
theorem zrw:zw9 [x,.ty cs] H Q=(z3o cs=true/\(match z8t H x with | some t=>Q (.bl (zbf t cs)) H | none=>False)):=rfl
end
theorem zx7:CallR X (.builtin "isinstance") zw9:=zix
end
inductive NK where
 | i (n:Int)
 | t (ks:List NK)
noncomputable instance:DecidableEq NK:=fun a b=>Classical.propDecidable (a=b)
mutual
noncomputable def NK.dep:NK->Nat
 | .i _=>0
 | .t ks=>z3r ks+1
noncomputable def z3r:List NK->Nat
 | []=>0
 | k::ks=>max k.dep (z3r ks)
end
mutual
noncomputable def NK.hs:NK->Int
 | .i n=>hashInt n
 | .t ks=>reduceHash (Builtin.Tuple.tupleHashOf (zrx ks))
noncomputable def zrx:List NK->List Int
 | []=>[]
 | k::ks=>k.hs::zrx ks
end
mutual
noncomputable def NK.dr:NK->Nat
 | .i _=>1
 | .t ks=>zwa ks+1
noncomputable def zwa:List NK->Nat
 | []=>0
 | k::ks=>k.dr+zwa ks
end
mutual
def NKv (h:Heap):NK->Value->Prop
 | .i n,v=>∃t,v=.int n t
 | .t ks,v=>∃a its,v=.ref a/\h.IsTuple a its/\NKvs h ks its.toList
def NKvs (h:Heap):List NK->List Value->Prop
 | [],vs=>vs=[]
 | k::ks,vs=>∃v r,vs=v::r/\NKv h k v/\NKvs h ks r
end
theorem NKvs.len {h:Heap}:∀{ks:List NK} {vs:List Value},NKvs h ks vs->ks.length=vs.length
 | [],_,q=>by simp only [NKvs] at q;rw [q];rfl
 | k::ks,_,q=>by
  simp only [NKvs] at q
  obtain ⟨v,r,rfl,_,q⟩:=q
  simp only [List.length_cons,NKvs.len q]
theorem zfu {h:Heap} {a:Addr} {x y:Array Value} (p:h.IsTuple a x) (q:h.IsTuple a y):x=y:=by
 obtain ⟨o,e,c,n,d⟩:=p
 obtain ⟨o',e',c',n',d'⟩:=q
 rw [e] at e';cases e'
 rw [d] at d';cases d';rfl
mutual
theorem NKv.inj {h:Heap}:∀{k j:NK} {v:Value},NKv h k v->NKv h j v->k=j
 | .i n,.i m,v,p,q=>by
  simp only [NKv] at p q
  obtain ⟨t,rfl⟩:=p;obtain ⟨t',e⟩:=q
  cases e;rfl
 | .i n,.t ks,v,p,q=>by
  simp only [NKv] at p q
  obtain ⟨t,rfl⟩:=p;obtain ⟨_,_,e,_⟩:=q;cases e
 | .t ks,.i m,v,p,q=>by
  simp only [NKv] at p q
  obtain ⟨t,rfl⟩:=q;obtain ⟨_,_,e,_⟩:=p;cases e
 | .t ks,.t js,v,p,q=>by
  simp only [NKv] at p q
  obtain ⟨a,its,rfl,p1,p2⟩:=p
  obtain ⟨b,its',e,q1,q2⟩:=q
  cases e
  cases zfu p1 q1
  rw [NKvs.inj p2 q2]
theorem NKvs.inj {h:Heap}:∀{ks js:List NK} {vs:List Value},NKvs h ks vs->NKvs h js vs->ks=js
 | [],[],_,_,_=>rfl
 | [],j::js,_,p,q=>by
  simp only [NKvs] at p q;subst p;obtain ⟨_,_,e,_⟩:=q;cases e
 | k::ks,[],_,p,q=>by
  simp only [NKvs] at p q;subst q;obtain ⟨_,_,e,_⟩:=p;cases e
 | k::ks,j::js,_,p,q=>by
  simp only [NKvs] at p q
  obtain ⟨v,r,rfl,p1,p2⟩:=p
  obtain ⟨_,_,e,q1,q2⟩:=q
  cases e
  rw [NKv.inj p1 q1,NKvs.inj p2 q2]
end
mutual
theorem NKv.stay {h h':Heap} (st:∀a its,h.IsTuple a its->h'.IsTuple a its):∀{k:NK} {v:Value},NKv h k v->NKv h' k v
 | .i n,v,p=>by simp only [NKv] at p ⊢;exact p
 | .t ks,v,p=>by
  simp only [NKv] at p ⊢
  obtain ⟨a,its,e,p1,p2⟩:=p
  exact ⟨a,its,e,st _ _ p1,NKvs.stay st p2⟩
theorem NKvs.stay {h h':Heap} (st:∀a its,h.IsTuple a its->h'.IsTuple a its):∀{ks:List NK} {vs:List Value},NKvs h ks vs->NKvs h' ks vs
 | [],_,p=>by simp only [NKvs] at p ⊢;exact p
 | k::ks,_,p=>by
  simp only [NKvs] at p ⊢
  obtain ⟨v,r,e,p1,p2⟩:=p
  exact ⟨v,r,e,NKv.stay st p1,NKvs.stay st p2⟩
end
section
variable {prog:Program} {w:World}
theorem zfv:∀(m:Nat) {k:NK} {v:Value} {A:Around} {E:Value->Shared->Prop} {s:Shared} {Q:Int->Shared->Prop},k.dep<=m->A.units+m<cLine->NKv s.heap k v->Q k.hs { s with toks:=s.toks+k.dr }->wpAny (model prog w) A (pyHash v) Q E s
 | m,.i n,v,A,E,s,Q,hd,hu,p,q=>by
  simp only [NKv] at p
  obtain ⟨t,rfl⟩:=p
  exact wpAny_pyHash_int q
 | 0,.t ks,v,A,E,s,Q,hd,hu,p,q=>by simp only [NK.dep] at hd;omega
 | m+1,.t ks,v,A,E,s,Q,hd,hu,p,q=>by
  simp only [NKv] at p
  obtain ⟨a,its,rfl,⟨o,e,c,n,d⟩,p2⟩:=p
  simp only [NK.dep] at hd
  show wpAny (model prog w) A (pyHashByItsType (.ref a)) Q E s
  refine W.pyHash_slot (T:="tuple") ⟨o,e,c⟩ F.slot_tuple_hash F.entry_tuple_hash (F.args_tuple_hash_1 _) rfl (.inr (by omega)) ?_
  refine wpAny_bind (wpAny_of_eq (show slotArgs "__hash__" 0 ⟨[.ref a],[]⟩=pure (.ref a,[]) from rfl) ?_)
  show wpAny (model prog w) A.in1 (Builtin.Tuple.tupleItemsOf (.ref a) >>= _) _ _ s
  refine wpAny_bind (wpAny_tupleItemsOf e d ?_)
  refine wpAny_bind ?_
  have go:∀(ks:List NK) (vs:List Value) (b:Array Int) (s':Shared) (Q':Array Int->Shared->Prop),z3r ks<=m->NKvs s'.heap ks vs->(∀b':Array Int,b'.toList=b.toList++zrx ks->Q' b' { s' with toks:=s'.toks+zwa ks }) ->
    wpAny (model prog w) A.in1 (forIn vs b fun x r=>do
     let h <-pyHash x
     pure (ForInStep.yield (r.push h))) Q' E s':=by
   intro ks
   induction ks with
   | nil=>
    intro vs b s' Q' _ p hq
    simp only [NKvs] at p;subst p
    exact wpAny_pure (hq b (by simp [zrx]))
   | cons k ks ih=>
    intro vs b s' Q' hd p hq
    simp only [NKvs] at p
    obtain ⟨v,r,rfl,p1,p2⟩:=p
    simp only [z3r] at hd
    rw [List.forIn_cons]
    refine wpAny_bind (wpAny_bind (zfv m (by omega) (by show A.units+1+m<cLine;omega) p1 ?_))
    refine wpAny_pure ?_
    refine ih r (b.push k.hs) _ Q' (by omega) p2 fun b' hb'=>?_
    have:=hq b' (by rw [hb'];simp [zrx])
    simpa only [zwa,Nat.add_assoc] using this
  rw [<-Array.forIn_toList]
  refine go ks its.toList #[] s _ (by omega) p2 fun b' hb'=>?_
  show wpAny (model prog w) A.in1 (retInt (Builtin.Tuple.tupleHashOf b'.toList)) _ _ _
  refine wpAny_mono (wpAny_ret_mkInt (Q:=fun v s'=>∃n t,v=Value.int n t/\Q (reduceHash n) s') ⟨_,_,rfl,?_⟩) (fun fin s' h=>?_) fun _ _ h=>h
  . rw [hb']
    simpa only [NK.hs,NK.dr,Nat.add_assoc,List.nil_append] using q
  . obtain ⟨v,rfl,n,t,rfl,hq⟩:=h
    exact ⟨n,t,rfl,hq⟩
theorem zry {s:Shared}:∀(m:Nat) {k j:NK} {u v:Value} {A:Around},k.dep<=m->A.units+m<cLine->NKv s.heap k u->NKv s.heap j v->SeqAt.EqAt A s u v (decide (k=j))
 | m,.i n,.i n',u,v,A,hd,hu,p,q=>by
  simp only [NKv] at p q
  obtain ⟨t,rfl⟩:=p;obtain ⟨t',rfl⟩:=q
  have:decide (NK.i n=NK.i n')=(n==n'):=by
   by_cases h:n=n'
   . rw [h];simp
   . rw [decide_eq_false (fun e=>h (NK.i.inj e))];simp [h]
  rw [this]
  exact .int_int _ _ _ _
 | m,.i n,.t js,u,v,A,hd,hu,p,q=>by
  simp only [NKv] at p q
  obtain ⟨t,rfl⟩:=p;obtain ⟨a,its,rfl,q1,_⟩:=q
  rw [decide_eq_false (fun e=>by cases e)]
  exact .int_tuple _ _ q1 (by omega)
 | m,.t ks,.i n',u,v,A,hd,hu,p,q=>by
  simp only [NKv] at p q
  obtain ⟨t,rfl⟩:=q;obtain ⟨a,its,rfl,q1,_⟩:=p
  rw [decide_eq_false (fun e=>by cases e)]
  exact .tuple_int _ _ q1 (by omega)
 | 0,.t ks,.t js,u,v,A,hd,hu,p,q=>by simp only [NK.dep] at hd;omega
 | m+1,.t ks,.t js,u,v,A,hd,hu,p,q=>by
  have p0:=p
  have q0:=q
  simp only [NKv] at p q
  obtain ⟨a,its,rfl,p1,p2⟩:=p
  obtain ⟨b,its2,rfl,q1,q2⟩:=q
  simp only [NK.dep] at hd
  by_cases hab:a=b
  . subst hab
    rw [decide_eq_true (NKv.inj p0 q0)]
    exact .same _
  . have l1:=p2.len
    have l2:=q2.len
    simp only [Array.length_toList] at l1 l2
    have at':∀(ks:List NK) (vs:List Value),NKvs s.heap ks vs->∀j v,vs[j]?=some v->NKv s.heap (ks.getD j (.i 0)) v/\(ks.getD j (.i 0)).dep<=z3r ks:=by
     intro ks
     induction ks with
     | nil=>intro vs p j v e;simp only [NKvs] at p;subst p;simp at e
     | cons k ks ih=>
      intro vs p j v e
      simp only [NKvs] at p
      obtain ⟨v0,r,rfl,r1,r2⟩:=p
      cases j with
      | zero=>simp at e;subst e;exact ⟨r1,by simp only [List.getD_cons_zero,z3r];omega⟩
      | succ j=>
       simp only [List.getElem?_cons_succ] at e
       obtain ⟨x1,x2⟩:=ih r r2 j v e
       exact ⟨x1,by simp only [List.getD_cons_succ,z3r];omega⟩
    have q:=SeqAt.RcAt.tuples (A:=A) p1 q1 (by omega) (e:=fun j=>decide (ks.getD j (.i 0)=js.getD j (.i 0))) fun j h1 h2=>by
     obtain ⟨x1,x2⟩:=at' ks _ p2 j its[j] (by simp [h1])
     obtain ⟨y1,y2⟩:=at' js _ q2 j its2[j] (by simp [h2])
     exact zry m (by omega) (by show A.units+1+m<cLine;omega) x1 y1
    have eb:((List.range (min its.size its2.size)).all (fun j=>decide (ks.getD j (.i 0)=js.getD j (.i 0)))&&its.size==its2.size)=decide (NK.t ks=NK.t js):=by
     rw [Bool.eq_iff_iff,Bool.and_eq_true,List.all_eq_true,decide_eq_true_eq,beq_iff_eq]
     constructor
     . rintro ⟨h1,h2⟩
       congr 1
       refine List.ext_getElem (by omega) fun j hj hj'=>?_
       have:=h1 j (List.mem_range.mpr (by omega))
       rw [decide_eq_true_eq,List.getD_eq_getElem?_getD,List.getD_eq_getElem?_getD,List.getElem?_eq_getElem hj,List.getElem?_eq_getElem hj'] at this
       exact this
     . intro e
       cases e
       exact ⟨fun j _=>decide_eq_true rfl,by omega⟩
    rw [eb] at q
    exact .of_refs hab q
end
section
variable {prog:Program} {w:World}
theorem zd0 {A:Around} {E:Value->Shared->Prop} {s:Shared}:∀(m:Nat) {k:NK} {v:Value} {Q:Bool->Shared->Prop},k.dep<=m->NKv s.heap k v->Q true s->wpAny (model prog w) A (eqIsQuiet m v) Q E s
 | m,.i n,v,Q,hd,p,q=>by
  simp only [NKv] at p
  obtain ⟨t,rfl⟩:=p
  rw [eqIsQuiet.eq_3 _ _ (fun a e=>by cases e)]
  exact wpAny_pure q
 | 0,.t ks,v,Q,hd,p,q=>by simp only [NK.dep] at hd;omega
 | m+1,.t ks,v,Q,hd,p,q=>by
  simp only [NKv] at p
  obtain ⟨a,its,rfl,⟨o,e,c,n,d⟩,p2⟩:=p
  simp only [NK.dep] at hd
  rw [eqIsQuiet.eq_2]
  refine wpAny_bind (wpAny_specialOf (T:="tuple") ⟨o,e,c⟩ F.slot_tuple_eq.lookup ?_)
  show wpAny (model prog w) A (isInstance (.ref a) (.type "tuple") >>= _) _ _ s
  refine wpAny_bind (wpAny_isInstance (T:="tuple") (b:=true) ⟨o,e,c⟩ (by rfl) ?_)
  show wpAny (model prog w) A (seqItems? (.ref a) >>= _) _ _ s
  refine wpAny_bind (wpAny_seqItems e d ?_)
  refine wpAny_bind ?_
  have go:∀(ks:List NK) (vs:List Value) (Q':Option Bool×Unit->Shared->Prop),z3r ks<=m->NKvs s.heap ks vs->Q' (none,()) s ->
    wpAny (model prog w) A (forIn vs ((none,()):Option Bool×Unit) fun y __s=>do
     let __do_lift <-eqIsQuiet m y
     if (!__do_lift)=true then pure (ForInStep.done (some false,()))
      else pure (ForInStep.yield (none,()))) Q' E s:=by
   intro ks
   induction ks with
   | nil=>
    intro vs Q' _ p hq
    simp only [NKvs] at p;subst p
    exact wpAny_pure hq
   | cons k ks ih=>
    intro vs Q' hd p hq
    simp only [NKvs] at p
    obtain ⟨v,r,rfl,p1,p2⟩:=p
    simp only [z3r] at hd
    rw [List.forIn_cons]
    refine wpAny_bind (wpAny_bind (zd0 m (by omega) p1 ?_))
    refine wpAny_pure ?_
    exact ih r Q' (by omega) p2 hq
  show wpAny (model prog w) A (forIn its ((none,()):Option Bool×Unit) _) _ _ s
  rw [<-Array.forIn_toList]
  refine go ks its.toList _ (by omega) p2 ?_
  exact wpAny_pure q
noncomputable def deepKind (prog:Program) (w:World):HeapKind prog w NK where
 is:=fun h k a=>NKv h k (.ref a)/\k.dep<=8
 hash:=NK.hs
 draws:=NK.dr
 room:=fun A=>A.units+8<cLine
 inj:=fun p q=>NKv.inj p.1 q.1
 keeps:=fun {h h' k a d o es ep} p e eo sb=>⟨NKv.stay (fun b its t=>by
  obtain ⟨ob,eb,cb,n,db⟩:=t
  have hne:b≠d:=fun z=>by
   subst z
   rw [e] at eb;cases eb
   rw [eo] at db;cases db
  exact ⟨ob,(sb.2 b hne).trans eb,cb,n,db⟩) p.1,p.2⟩
 pyHash:=fun {A E s k a Q} hr p q=>zfv 8 p.2 hr p.1 q
 eqBool:=fun {A E s x y a b Q} hr p p' q=>zry 8 p.2 hr p.1 p'.1 prog w E Q q
 quiet:=fun {A E s k a Q} p q=>zd0 8 p.2 p.1 q
end
noncomputable def dnE (x:NK×Addr×Value):DictEntry:={ hash:=x.1.hs,key:=.ref x.2.1,val:=x.2.2 }
def dnP (a:Addr) (ks:List (NK×Addr)) (xs:List V) (o:Obj) (h:Heap):Prop:=
 h.get? a=some o/\∃(vs:List Value) (es:Array DictEntry) (ep:Nat),Vals xs vs/\ks.length=vs.length/\o.ExactDict/\o.data=.dict es ep/\es.toList=((ks.zip vs).map fun q=>(q.1.1,q.1.2,q.2)).map dnE
theorem dnP.stay {a:Addr} {ks:List (NK×Addr)} {xs:List V} {o:Obj}:∀h1 h2:Heap,dnP a ks xs o h1->(∀o,h1.get? a=some o->h2.get? a=some o)->dnP a ks xs o h2:=fun _ _ p k=>⟨k _ p.1,p.2⟩
mutual
def NKr (H:Hp):NK->V->Prop
 | .i n,v=>v=.int n
 | .t ks,v=>∃a ys,v=.ref a/\H a=some (.tup ys)/\NKrs H ks ys
def NKrs (H:Hp):List NK->List V->Prop
 | [],vs=>vs=[]
 | k::ks,vs=>∃v r,vs=v::r/\NKr H k v/\NKrs H ks r
end
mutual
theorem NKr.mono {H H':Hp} (st:∀a ys,H a=some (.tup ys)->H' a=some (.tup ys)):∀{k:NK} {v:V},NKr H k v->NKr H' k v
 | .i n,v,p=>by simp only [NKr] at p ⊢;exact p
 | .t ks,v,p=>by
  simp only [NKr] at p ⊢
  obtain ⟨a,ys,e,p1,p2⟩:=p
  exact ⟨a,ys,e,st _ _ p1,NKrs.mono st p2⟩
theorem NKrs.mono {H H':Hp} (st:∀a ys,H a=some (.tup ys)->H' a=some (.tup ys)):∀{ks:List NK} {vs:List V},NKrs H ks vs->NKrs H' ks vs
 | [],_,p=>by simp only [NKrs] at p ⊢;exact p
 | k::ks,_,p=>by
  simp only [NKrs] at p ⊢
  obtain ⟨v,r,e,p1,p2⟩:=p
  exact ⟨v,r,e,NKr.mono st p1,NKrs.mono st p2⟩
end
section
variable {X:Cx} {pins:List (Addr×Obj)} {σ:St} {H:Hp} {s:Shared}
mutual
theorem znj (I:Inv X pins σ H s):∀{k:NK} {x:V} {u:Value},NKr H k x->RelV x u->NKv s.heap k u
 | .i n,x,u,p,r=>by
  simp only [NKr] at p;subst p
  obtain ⟨t,rfl⟩:=r
  simp only [NKv];exact ⟨t,rfl⟩
 | .t ks,x,u,p,r=>by
  simp only [NKr] at p
  obtain ⟨a,ys,rfl,p1,p2⟩:=p
  cases r
  obtain ⟨its,r1,t1,_⟩:=I.tuple (.of p1)
  simp only [NKv]
  exact ⟨a,its.toArray,rfl,t1,zl3 I p2 r1⟩
theorem zl3 (I:Inv X pins σ H s):∀{ks:List NK} {xs:List V} {us:List Value},NKrs H ks xs->Vals xs us->NKvs s.heap ks us
 | [],_,_,p,r=>by simp only [NKrs] at p;subst p;cases r;simp only [NKvs]
 | k::ks,_,_,p,r=>by
  simp only [NKrs] at p
  obtain ⟨v,q,rfl,p1,p2⟩:=p
  cases r with
  | cons a1 a2=>
   simp only [NKvs]
   exact ⟨_,_,rfl,znj I p1 a1,zl3 I p2 a2⟩
end
end
def KL (K:Frag) (a:Addr) (xs:List V):Prop:=∃(o:Obj) (its:Array Value) (n:Nat),K.lookup a=some o/\o.cls=.type "list"/\o.dict=none/\o.data=.seq its n/\its.size<=sizeLine/\Vals xs its.toList
def XO (K:Frag) (c:String) (a:Addr) (od:Option Addr) (o:HO):Prop:=∃C:Addr,nsIn K mainGlobals (c:Str)=some (some (.ref C))/\o=.ext fun h=>∃ob,h.get? a=some ob/\ob.cls=.ref C/\(∃vs,ob.data=.fields vs)/\ob.dict=od
noncomputable def zx8 (c:String):List Str:=if c="Fallen" then ["corner"] else if c="Crossed" then ["one","other"] else if c="NotFull" then ["line"] else []
inductive D where
 | non | bl (b:Bool) | int (i:Int) | str (x:Str) | tup (ds:List D) | lst (ds:List D)
 | dk (ks:List Key) (ds:List D) | dt (ks:List (List Key)) (ds:List D) | dn (ks:List NK) (ds:List D) | scr (ns:List Int) | exc (c:String) (fs:List D)
def DN (H:Hp) (a:Addr) (qs:List (NK×Addr)):Prop:=(qs.map (·.1)).Nodup/\(∀q∈qs,NKr H q.1 (.ref q.2)/\q.1.dep<=8)/\(a==sysModules)=false/\qs.length<=sizeLine
theorem DN.tk {H H':Hp} {a:Addr} {qs:List (NK×Addr)} (h:DN H a qs) (st:∀a ys,H a=some (.tup ys)->H' a=some (.tup ys)):DN H' a qs:=
 ⟨h.1,fun q hq=>⟨NKr.mono st (h.2.1 q hq).1,(h.2.1 q hq).2⟩,h.2.2⟩
mutual
def RD (K:Frag) (H:Hp):D->V->Prop
 | .non,v=>v=.non
 | .bl b,v=>v=.bl b
 | .int i,v=>v=.int i
 | .str x,v=>v=.str x
 | .tup ds,v=>∃a xs,v=.ref a/\H a=some (.tup xs)/\RDs K H ds xs
 | .lst ds,v=>∃a xs,v=.ref a/\H a=some (.lst xs)/\RDs K H ds xs
 | .dk ks ds,v=>∃a xs,v=.ref a/\H a=some (.dK (ks.zip xs))/\ks.length=xs.length/\RDs K H ds xs
 | .dt ks ds,v=>∃a xs,v=.ref a/\H a=some (.dT (ks.zip xs))/\ks.length=xs.length/\RDs K H ds xs
 | .dn ks ds,v=>∃a qs xs o,v=.ref a/\H a=some (.ext (dnP a qs xs o))/\qs.map (·.1)=ks/\DN H a qs/\RDs K H ds xs
 | .scr ns,v=>∃a,v=.ref a/\((∃o,H a=some (.frz o (.lst (ns.map V.int))))\/KL K a (ns.map V.int))
 | .exc c fs,v=>∃a od o,v=.ref a/\XO K c a od o/\H a=some o/\(fs=[]\/∃(dx:Addr) (ns:List Int) (ob:Obj),od=some dx/\H dx=some (.frz ob (.xd ((zx8 c).zip (ns.map V.int))))/\fs=ns.map D.int)
def RDs (K:Frag) (H:Hp):List D->List V->Prop
 | [],xs=>xs=[]
 | d::ds,xs=>∃x r,xs=x::r/\RD K H d x/\RDs K H ds r
end
mutual
noncomputable def D.noL:D->Bool
 | .lst _=>false
 | .dk _ _=>false
 | .dt _ _=>false
 | .dn _ _=>false
 | .tup ds=>z3s ds
 | _=>true
noncomputable def z3s:List D->Bool
 | []=>true
 | d::ds=>d.noL&&z3s ds
end
mutual
noncomputable def D.pl:D->Bool
 | .dk _ _=>false
 | .dt _ _=>false
 | .dn _ _=>false
 | .scr _=>false
 | .exc _ _=>false
 | .tup ds=>pls ds
 | .lst ds=>pls ds
 | _=>true
noncomputable def pls:List D->Bool
 | []=>true
 | d::ds=>d.pl&&pls ds
end
noncomputable def D.shal:D->Bool
 | .lst ds=>z3s ds
 | .dk _ ds=>z3s ds
 | .dt _ ds=>z3s ds
 | .dn _ ds=>z3s ds
 | d=>d.noL
def Imm:HO->Prop
 | .tup _=>True
 | .frz _ _=>True
 | .ext φ=>∀a qs xs o,φ≠dnP a qs xs o
 | _=>False
theorem XO.imm {K:Frag} {c:String} {a:Addr} {od:Option Addr} {o:HO} (h:XO K c a od o):Imm o:=by
 obtain ⟨C,_,rfl⟩:=h
 intro b qs xs o0 e
 obtain ⟨ob,hob⟩:∃ob:Obj,ob={ cls:=.ref C,dict:=od,data:=.fields #[] }:=⟨_,rfl⟩
 have hg:∀(i:Nat) (o:Obj),({ objs:=Array.replicate (a+1) ob }:Heap).get? i=some o->o=ob:=fun i o q=>by
  by_cases hi:i<a+1
  . have z:({ objs:=Array.replicate (a+1) ob }:Heap).get? i=some ob:=by
     unfold Heap.get?
     rw [Array.getElem?_replicate,if_pos hi,hob]
    rw [z] at q;cases q;rfl
  . unfold Heap.get? at q
    rw [Array.getElem?_replicate,if_neg hi] at q;cases q
 have h1:(fun h:Heap=>∃ob,h.get? a=some ob/\ob.cls=.ref C/\(∃vs,ob.data=.fields vs)/\ob.dict=od) { objs:=Array.replicate (a+1) ob }:=by
  refine ⟨ob,?_,by rw [hob],⟨#[],by rw [hob]⟩,by rw [hob]⟩
  unfold Heap.get?
  rw [Array.getElem?_replicate,if_pos (Nat.lt_succ_self a),hob]
 rw [e] at h1
 obtain ⟨g,vs,es,ep,_,_,_,d,_⟩:=h1
 rw [hg _ _ g,hob] at d
 cases d
def TK (H H':Hp):Prop:=∀a o,Imm o->H a=some o->H' a=some o
section
variable {K:Frag} {H H':Hp}
mutual
theorem RD.tk (hs:TK H H'):∀{d:D} {v:V},d.noL=true->RD K H d v->RD K H' d v
 | .non,_,_,h=>by simp only [RD] at h ⊢;exact h
 | .bl _,_,_,h=>by simp only [RD] at h ⊢;exact h
 | .int _,_,_,h=>by simp only [RD] at h ⊢;exact h
 | .str _,_,_,h=>by simp only [RD] at h ⊢;exact h
 | .tup ds,_,n,h=>by
  simp only [RD] at h ⊢
  obtain ⟨a,xs,e,h1,h2⟩:=h
  exact ⟨a,xs,e,hs _ _ trivial h1,RDs.tk hs (by simpa only [D.noL] using n) h2⟩
 | .lst ds,_,n,h=>by simp [D.noL] at n
 | .dk _ ds,_,n,h=>by simp [D.noL] at n
 | .dt _ ds,_,n,h=>by simp [D.noL] at n
 | .dn _ ds,_,n,h=>by simp [D.noL] at n
 | .exc c fs,_,n,h=>by
  simp only [RD] at h ⊢
  obtain ⟨a,od,o,e,h1,h2,h3⟩:=h
  refine ⟨a,od,o,e,h1,hs _ _ h1.imm h2,?_⟩
  rcases h3 with h3 | ⟨dx,xs,ob,q1,q2,q3⟩
  . exact .inl h3
  . exact .inr ⟨dx,xs,ob,q1,hs _ _ trivial q2,q3⟩
 | .scr ns,_,n,h=>by
  simp only [RD] at h ⊢
  obtain ⟨a,e,h1⟩:=h
  refine ⟨a,e,?_⟩
  rcases h1 with ⟨o,h1⟩ | h1
  . exact .inl ⟨o,hs _ _ trivial h1⟩
  . exact .inr h1
theorem RDs.tk (hs:TK H H'):∀{ds:List D} {xs:List V},z3s ds=true->RDs K H ds xs->RDs K H' ds xs
 | [],_,_,h=>by simp only [RDs] at h ⊢;exact h
 | d::ds,_,n,h=>by
  simp only [RDs] at h ⊢
  simp only [z3s,Bool.and_eq_true] at n
  obtain ⟨x,r,e,h1,h2⟩:=h
  exact ⟨x,r,e,RD.tk hs n.1 h1,RDs.tk hs n.2 h2⟩
end
mutual
theorem RD.mono (hs:Same H H'):∀{d:D} {v:V},RD K H d v->RD K H' d v
 | .non,_,h=>by simp only [RD] at h ⊢;exact h
 | .bl _,_,h=>by simp only [RD] at h ⊢;exact h
 | .int _,_,h=>by simp only [RD] at h ⊢;exact h
 | .str _,_,h=>by simp only [RD] at h ⊢;exact h
 | .tup ds,_,h=>by
  simp only [RD] at h ⊢
  obtain ⟨a,xs,e,h1,h2⟩:=h
  exact ⟨a,xs,e,hs _ _ h1,RDs.mono hs h2⟩
 | .lst ds,_,h=>by
  simp only [RD] at h ⊢
  obtain ⟨a,xs,e,h1,h2⟩:=h
  exact ⟨a,xs,e,hs _ _ h1,RDs.mono hs h2⟩
 | .dk _ ds,_,h=>by
  simp only [RD] at h ⊢
  obtain ⟨a,xs,e,h1,hl,h2⟩:=h
  exact ⟨a,xs,e,hs _ _ h1,hl,RDs.mono hs h2⟩
 | .dn _ ds,_,h=>by
  simp only [RD] at h ⊢
  obtain ⟨a,qs,xs,o,e,h1,hk,hd,h2⟩:=h
  exact ⟨a,qs,xs,o,e,hs _ _ h1,hk,hd.tk fun b ys q=>hs _ _ q,RDs.mono hs h2⟩
 | .dt _ ds,_,h=>by
  simp only [RD] at h ⊢
  obtain ⟨a,xs,e,h1,hl,h2⟩:=h
  exact ⟨a,xs,e,hs _ _ h1,hl,RDs.mono hs h2⟩
 | .exc c fs,_,h=>by
  simp only [RD] at h ⊢
  obtain ⟨a,od,o,e,h1,h2,h3⟩:=h
  refine ⟨a,od,o,e,h1,hs _ _ h2,?_⟩
  rcases h3 with h3 | ⟨dx,xs,ob,q1,q2,q3⟩
  . exact .inl h3
  . exact .inr ⟨dx,xs,ob,q1,hs _ _ q2,q3⟩
 | .scr ns,_,h=>by
  simp only [RD] at h ⊢
  obtain ⟨a,e,h1⟩:=h
  refine ⟨a,e,?_⟩
  rcases h1 with ⟨o,h1⟩ | h1
  . exact .inl ⟨o,hs _ _ h1⟩
  . exact .inr h1
theorem RDs.mono (hs:Same H H'):∀{ds:List D} {xs:List V},RDs K H ds xs->RDs K H' ds xs
 | [],_,h=>by simp only [RDs] at h ⊢;exact h
 | d::ds,_,h=>by
  simp only [RDs] at h ⊢
  obtain ⟨x,r,e,h1,h2⟩:=h
  exact ⟨x,r,e,RD.mono hs h1,RDs.mono hs h2⟩
end
theorem RDs.length:∀{ds:List D} {xs:List V},RDs K H ds xs->ds.length=xs.length
 | [],_,h=>by simp only [RDs] at h;subst h;rfl
 | d::ds,_,h=>by
  simp only [RDs] at h
  obtain ⟨x,r,rfl,_,h2⟩:=h
  simp [RDs.length h2]
theorem RDs.get:∀{ds:List D} {xs:List V} {i:Nat} {x:V},RDs K H ds xs->xs[i]?=some x->∃d,ds[i]?=some d/\RD K H d x
 | [],_,i,x,h,e=>by simp only [RDs] at h;subst h;simp at e
 | d::ds,_,i,x,h,e=>by
  simp only [RDs] at h
  obtain ⟨y,r,rfl,h1,h2⟩:=h
  cases i with
  | zero=>simp at e;subst e;exact ⟨d,rfl,h1⟩
  | succ i=>simp at e;obtain ⟨d',e1,e2⟩:=RDs.get h2 e;exact ⟨d',by simpa using e1,e2⟩
theorem RDs.get':∀{ds:List D} {xs:List V} {i:Nat} {d:D},RDs K H ds xs->ds[i]?=some d->∃x,xs[i]?=some x/\RD K H d x
 | [],_,i,d,h,e=>by simp at e
 | d'::ds,_,i,d,h,e=>by
  simp only [RDs] at h
  obtain ⟨y,r,rfl,h1,h2⟩:=h
  cases i with
  | zero=>simp at e;subst e;exact ⟨y,rfl,h1⟩
  | succ i=>simp at e;obtain ⟨x',e1,e2⟩:=RDs.get' h2 e;exact ⟨x',by simpa using e1,e2⟩
theorem RDs.append:∀{ds es:List D} {xs ys:List V},RDs K H ds xs->RDs K H es ys->RDs K H (ds++es) (xs++ys)
 | [],_,_,_,h,h'=>by simp only [RDs] at h;subst h;exact h'
 | d::ds,es,_,ys,h,h'=>by
  simp only [RDs] at h
  obtain ⟨x,r,rfl,h1,h2⟩:=h
  simp only [List.cons_append,RDs]
  exact ⟨x,r++ys,rfl,h1,RDs.append h2 h'⟩
theorem RDs.nil:RDs K H [] []:=by simp only [RDs]
theorem RDs.cons {d:D} {x:V} {ds:List D} {xs:List V} (h:RD K H d x) (h':RDs K H ds xs):RDs K H (d::ds) (x::xs):=by simp only [RDs];exact ⟨x,xs,rfl,h,h'⟩
theorem RDs.one {d:D} {x:V} (h:RD K H d x):RDs K H [d] [x]:=.cons h .nil
theorem RDs.take:∀{ds:List D} {xs:List V} (n:Nat),RDs K H ds xs->RDs K H (ds.take n) (xs.take n)
 | _,_,0,_=>by simp [RDs]
 | [],_,n+1,h=>by simp only [RDs] at h;subst h;simp [RDs]
 | d::ds,_,n+1,h=>by
  simp only [RDs] at h
  obtain ⟨x,r,rfl,h1,h2⟩:=h
  simp only [List.take_succ_cons]
  exact .cons h1 (RDs.take n h2)
theorem RDs.drop:∀{ds:List D} {xs:List V} (n:Nat),RDs K H ds xs->RDs K H (ds.drop n) (xs.drop n)
 | _,_,0,h=>h
 | [],_,n+1,h=>by simp only [RDs] at h;subst h;simp [RDs]
 | d::ds,_,n+1,h=>by
  simp only [RDs] at h
  obtain ⟨x,r,rfl,h1,h2⟩:=h
  exact RDs.drop n h2
theorem RDs.set:∀{ds:List D} {xs:List V} (n:Nat) {d:D} {x:V},RDs K H ds xs->RD K H d x->RDs K H (ds.set n d) (xs.set n x)
 | [],_,n,_,_,h,_=>by simp only [RDs] at h;subst h;simp [RDs]
 | d::ds,_,0,_,_,h,h'=>by
  simp only [RDs] at h
  obtain ⟨x,r,rfl,h1,h2⟩:=h
  exact .cons h' h2
 | d::ds,_,n+1,_,_,h,h'=>by
  simp only [RDs] at h
  obtain ⟨x,r,rfl,h1,h2⟩:=h
  exact .cons h1 (RDs.set n h2 h')
theorem RDs.ofInts:∀(ns:List Int),RDs K H (ns.map D.int) (ns.map V.int)
 | []=>by simp only [List.map,RDs]
 | n::ns=>by
  simp only [List.map]
  exact RDs.cons (by simp only [RD]) (RDs.ofInts ns)
end
mutual
noncomputable def eqD:D->D->Bool
 | .non,.non=>true
 | .bl a,.bl b=>a==b
 | .bl a,.int j=>(if a then 1 else 0)==j
 | .int i,.bl b=>i==(if b then 1 else 0)
 | .int i,.int j=>i==j
 | .str a,.str b=>a==b
 | .tup ds,.tup es=>z6d ds es
 | .lst ds,.lst es=>z6d ds es
 | _,_=>false
noncomputable def z6d:List D->List D->Bool
 | [],[]=>true
 | d::ds,e::es=>eqD d e&&z6d ds es
 | _,_=>false
end
mutual
noncomputable def D.dep:D->Nat
 | .tup ds=>z40 ds+1
 | .lst ds=>z40 ds+1
 | _=>0
noncomputable def z40:List D->Nat
 | []=>0
 | d::ds=>max d.dep (z40 ds)
end
mutual
theorem zd1:∀d:D,d.pl=true->eqD d d=true
 | .non,_=>rfl
 | .bl b,_=>by simp [eqD]
 | .int b,_=>by simp [eqD]
 | .str b,_=>by simp [eqD]
 | .tup ds,h=>by simp only [eqD];exact z6s ds (by simpa only [D.pl] using h)
 | .lst ds,h=>by simp only [eqD];exact z6s ds (by simpa only [D.pl] using h)
 | .dk _ _,h=>by simp [D.pl] at h
 | .dt _ _,h=>by simp [D.pl] at h
 | .dn _ _,h=>by simp [D.pl] at h
 | .scr _,h=>by simp [D.pl] at h
 | .exc _ _,h=>by simp [D.pl] at h
theorem z6s:∀ds:List D,pls ds=true->z6d ds ds=true
 | [],_=>rfl
 | d::ds,h=>by
  simp only [pls,Bool.and_eq_true] at h
  simp only [z6d,zd1 d h.1,z6s ds h.2,Bool.and_self]
end
mutual
theorem RD.inj {K:Frag} {H:Hp}:∀{d e:D} {v:V},d.pl=true->e.pl=true->RD K H d v->RD K H e v->d=e
 | .non,e,v,_,p,h,h'=>by
  simp only [RD] at h;subst h
  cases e<;>simp only [RD] at h'<;>first | (exfalso;simp [D.pl] at p;done) | rfl | (cases h';done) | (obtain ⟨a,xs,z,_⟩:=h';cases z)
 | .bl b,e,v,_,p,h,h'=>by
  simp only [RD] at h;subst h
  cases e<;>simp only [RD] at h'<;>first | (exfalso;simp [D.pl] at p;done) | (cases h';rfl) | (cases h';done) | (obtain ⟨a,xs,z,_⟩:=h';cases z)
 | .int b,e,v,_,p,h,h'=>by
  simp only [RD] at h;subst h
  cases e<;>simp only [RD] at h'<;>first | (exfalso;simp [D.pl] at p;done) | (cases h';rfl) | (cases h';done) | (obtain ⟨a,xs,z,_⟩:=h';cases z)
 | .str b,e,v,_,p,h,h'=>by
  simp only [RD] at h;subst h
  cases e<;>simp only [RD] at h'<;>first | (exfalso;simp [D.pl] at p;done) | (cases h';rfl) | (cases h';done) | (obtain ⟨a,xs,z,_⟩:=h';cases z)
 | .dk _ _,e,v,p,_,h,h'=>by simp [D.pl] at p
 | .dt _ _,e,v,p,_,h,h'=>by simp [D.pl] at p
 | .dn _ _,e,v,p,_,h,h'=>by simp [D.pl] at p
 | .scr _,e,v,p,_,h,h'=>by simp [D.pl] at p
 | .exc _ _,e,v,p,_,h,h'=>by simp [D.pl] at p
 | .tup ds,e,v,p,p',h,h'=>by
  simp only [RD] at h
  obtain ⟨a,xs,rfl,h1,h2⟩:=h
  cases e<;>simp only [RD] at h'
  case tup es=>
   obtain ⟨b,ys,z,h3,h4⟩:=h'
   cases z
   rw [h1] at h3;cases h3
   rw [RDs.inj (by simpa only [D.pl] using p) (by simpa only [D.pl] using p') h2 h4]
  case lst es=>
   obtain ⟨b,ys,z,h3,h4⟩:=h'
   cases z
   rw [h1] at h3;cases h3
  all_goals first | (exfalso;simp [D.pl] at p';done) | cases h'
 | .lst ds,e,v,p,p',h,h'=>by
  simp only [RD] at h
  obtain ⟨a,xs,rfl,h1,h2⟩:=h
  cases e<;>simp only [RD] at h'
  case tup es=>
   obtain ⟨b,ys,z,h3,h4⟩:=h'
   cases z
   rw [h1] at h3;cases h3
  case lst es=>
   obtain ⟨b,ys,z,h3,h4⟩:=h'
   cases z
   rw [h1] at h3;cases h3
   rw [RDs.inj (by simpa only [D.pl] using p) (by simpa only [D.pl] using p') h2 h4]
  all_goals first | (exfalso;simp [D.pl] at p';done) | cases h'
theorem RDs.inj {K:Frag} {H:Hp}:∀{ds es:List D} {xs:List V},pls ds=true->pls es=true->RDs K H ds xs->RDs K H es xs->ds=es
 | [],es,xs,_,_,h,h'=>by
  simp only [RDs] at h;subst h
  cases es<;>simp only [RDs] at h'
  . rfl
  . obtain ⟨x,r,z,_⟩:=h';cases z
 | d::ds,es,xs,p,p',h,h'=>by
  simp only [RDs] at h
  obtain ⟨x,r,rfl,h1,h2⟩:=h
  simp only [pls,Bool.and_eq_true] at p
  cases es with
  | nil=>simp only [RDs] at h';cases h'
  | cons e es=>
   simp only [RDs] at h'
   obtain ⟨y,r',z,h3,h4⟩:=h'
   cases z
   simp only [pls,Bool.and_eq_true] at p'
   rw [RD.inj p.1 p'.1 h1 h3,RDs.inj p.2 p'.2 h2 h4]
end
theorem zby:∀{ds:List D} {d:D},pls ds=true->d∈ds->d.pl=true
 | e::ds,d,h,m=>by
  simp only [pls,Bool.and_eq_true] at h
  rcases List.mem_cons.mp m with rfl | m
  . exact h.1
  . exact zby h.2 m
theorem z8u:∀{ds:List D} {d:D},d∈ds->d.dep<=z40 ds
 | d'::ds,d,h=>by
  simp only [z40]
  rcases List.mem_cons.mp h with rfl | h
  . omega
  . have:=z8u h;omega
theorem z8v:∀{ds es:List D},ds.length=es.length->z6d ds es=(List.range ds.length).all fun j=>eqD (ds.getD j .non) (es.getD j .non)
 | [],[],_=>rfl
 | [],_::_,h=>by simp at h
 | _::_,[],h=>by simp at h
 | d::ds,e::es,h=>by
  simp only [z6d,List.length_cons]
  rw [z8v (by simpa using h),List.range_succ_eq_map,List.all_cons,List.all_map]
  rfl
theorem z8w:∀{ds es:List D},ds.length≠es.length->z6d ds es=false
 | [],[],h=>absurd rfl h
 | [],_::_,_=>rfl
 | _::_,[],_=>rfl
 | d::ds,e::es,h=>by
  simp only [z6d]
  rw [z8w (by intro z;exact h (by simp [z])),Bool.and_false]
section
variable {X:Cx} {pins:List (Addr×Obj)} {σ:St} {H:Hp} {s:Shared}
theorem Inv.tupA (I:Inv X pins σ H s) {a:Addr} {xs:List V} (h:H a=some (.tup xs)):∃its:List Value,Vals xs its/\s.heap.IsTuple a its.toArray:=by
 obtain ⟨its,r,t,_⟩:=I.tuple (.of h)
 exact ⟨its,r,t⟩
theorem Inv.lstA (I:Inv X pins σ H s) {a:Addr} {xs:List V} (h:H a=some (.lst xs)):∃its:List Value,Vals xs its/\s.heap.IsList a its.toArray:=by
 obtain ⟨its,r,t,_⟩:=I.list (.of h)
 exact ⟨its,r,t.isList⟩
inductive Shp (X:Cx) (H:Hp) (s:Shared):D->V->Value->Prop
 | non:Shp X H s .non .non .none
 | bl (b:Bool):Shp X H s (.bl b) (.bl b) (.bool b)
 | int (i:Int) (t:Tok):Shp X H s (.int i) (.int i) (.int i t)
 | str (c:Str) (t:Tok):Shp X H s (.str c) (.str c) (.str c t)
 | tup {ds:List D} {a:Addr} {xs:List V} {its:List Value} (p:pls ds=true) (h:H a=some (.tup xs)) (q:RDs X.K H ds xs) (r:Vals xs its) (t:s.heap.IsTuple a its.toArray):Shp X H s (.tup ds) (.ref a) (.ref a)
 | lst {ds:List D} {a:Addr} {xs:List V} {its:List Value} (p:pls ds=true) (h:H a=some (.lst xs)) (q:RDs X.K H ds xs) (r:Vals xs its) (t:s.heap.IsList a its.toArray):Shp X H s (.lst ds) (.ref a) (.ref a)
theorem shp (I:Inv X pins σ H s) {d:D} {x:V} {u:Value} (p:d.pl=true) (h:RD X.K H d x) (r:RelV x u):Shp X H s d x u:=by
 cases d<;>simp only [RD] at h<;>first | (exfalso;simp [D.pl] at p;done) | skip
 . subst h;cases r;exact .non
 . subst h;cases r;exact .bl _
 . subst h;obtain ⟨t,rfl⟩:=r;exact .int _ _
 . subst h;obtain ⟨t,rfl⟩:=r;exact .str _ _
 . obtain ⟨a,xs,rfl,h1,h2⟩:=h
   cases r
   obtain ⟨its,v,t⟩:=I.tupA h1
   exact .tup (by simpa only [D.pl] using p) h1 h2 v t
 . obtain ⟨a,xs,rfl,h1,h2⟩:=h
   cases r
   obtain ⟨its,v,t⟩:=I.lstA h1
   exact .lst (by simpa only [D.pl] using p) h1 h2 v t
def zx9 (X:Cx) (H:Hp) (s:Shared) (A:Around) (n:Nat):Prop:=∀{d e:D} {x y:V} {u v:Value},d.pl=true->e.pl=true->d.dep<=n->RD X.K H d x->RD X.K H e y->RelV x u->RelV y v->SeqAt.EqAt A s u v (eqD d e)
theorem zfw {A:Around} {n:Nat} (ih:zx9 X H s A n) {ds es:List D} {xs ys:List V} {its its2:List Value} (pd:pls ds=true) (pe:pls es=true) (hdn:z40 ds<=n) (hxs:RDs X.K H ds xs) (hys:RDs X.K H es ys) (r:Vals xs its) (r2:Vals ys its2) (j:Nat)
  (h1:j<its.toArray.size) (h2:j<its2.toArray.size):SeqAt.EqAt A s its.toArray[j] its2.toArray[j] (eqD (ds.getD j .non) (es.getD j .non)):=by
 have h1':j<its.length:=by simpa using h1
 have h2':j<its2.length:=by simpa using h2
 have l1:=r.length
 have l2:=r2.length
 obtain ⟨u1,e1,q1⟩:=r.get (i:=j) (x:=xs[j]'(by omega)) (by simp)
 obtain ⟨u2,e2,q2⟩:=r2.get (i:=j) (x:=ys[j]'(by omega)) (by simp)
 obtain ⟨d1,g1,w1⟩:=hxs.get (i:=j) (x:=xs[j]'(by omega)) (by simp)
 obtain ⟨d2,g2,w2⟩:=hys.get (i:=j) (x:=ys[j]'(by omega)) (by simp)
 have ea:its.toArray[j]=u1:=by
  rw [List.getElem?_eq_getElem h1'] at e1;simpa using e1
 have eb:its2.toArray[j]=u2:=by
  rw [List.getElem?_eq_getElem h2'] at e2;simpa using e2
 have ga:ds.getD j .non=d1:=by rw [List.getD_eq_getElem?_getD,g1];rfl
 have gb:es.getD j .non=d2:=by rw [List.getD_eq_getElem?_getD,g2];rfl
 rw [ea,eb,ga,gb]
 exact ih (zby pd (List.mem_of_getElem? g1)) (zby pe (List.mem_of_getElem? g2)) (Nat.le_trans (z8u (List.mem_of_getElem? g1)) hdn) w1 w2 q1 q2
theorem znk {ds es:List D} {xs ys:List V} {its its2:List Value} (hxs:RDs X.K H ds xs) (hys:RDs X.K H es ys) (r:Vals xs its) (r2:Vals ys its2) :
  ((List.range (min its.toArray.size its2.toArray.size)).all (fun j=>eqD (ds.getD j .non) (es.getD j .non))&&its.toArray.size==its2.toArray.size)=z6d ds es:=by
 have lx:=hxs.length;have ly:=hys.length;have l1:=r.length;have l2:=r2.length
 simp only [List.size_toArray]
 by_cases hl:ds.length=es.length
 . rw [z8v hl]
   have:its.length=its2.length:=by omega
   rw [this,Nat.min_self,show its2.length=ds.length by omega]
   simp
 . rw [z8w hl]
   have:(its.length==its2.length)=false:=by simp;omega
   rw [this,Bool.and_false]
theorem znl {ds es:List D} {xs ys:List V} {its its2:List Value} (hxs:RDs X.K H ds xs) (hys:RDs X.K H es ys) (r:Vals xs its) (r2:Vals ys its2) (hl:ds.length=es.length) :
  ((List.range its.toArray.size).all fun j=>eqD (ds.getD j .non) (es.getD j .non))=z6d ds es:=by
 have lx:=hxs.length;have ly:=hys.length;have l1:=r.length;have l2:=r2.length
 rw [z8v hl,List.size_toArray,show its.length=ds.length by omega]
theorem y0e {A:Around} {n:Nat} (hu:A.units<cLine) (ih:zx9 X H s A.in1 n) {d e:D} {x y:V} {u v:Value} (hn:d.dep<=n+1) (sx:Shp X H s d x u) (sy:Shp X H s e y v):SeqAt.RcAt A s u v (eqD d e)/\SeqAt.RcNeAt A s u v (!eqD d e):=by
 cases sx with
 | non=>cases sy with
  | non=>exact ⟨.none_none,.none_none⟩
  | bl _=>exact ⟨.none_bool _,.none_bool _⟩
  | int _ _=>exact ⟨.none_int _ _,.none_int _ _⟩
  | str _ _=>exact ⟨.none_str _ _,.none_str _ _⟩
  | tup p2 h2 q2 r2 t2=>exact ⟨.none_tuple t2 hu,.none_tuple t2 hu⟩
  | lst p2 h2 q2 r2 t2=>exact ⟨.none_list t2 hu,.none_list t2 hu⟩
 | bl _=>cases sy with
  | non=>exact ⟨.bool_none _,.bool_none _⟩
  | bl _=>exact ⟨.bool_bool _ _,.bool_bool _ _⟩
  | int _ _=>exact ⟨.bool_int _ _ _,.bool_int _ _ _⟩
  | str _ _=>exact ⟨.bool_str _ _ _,.bool_str _ _ _⟩
  | tup p2 h2 q2 r2 t2=>exact ⟨.bool_tuple _ t2 hu,.bool_tuple _ t2 hu⟩
  | lst p2 h2 q2 r2 t2=>exact ⟨.bool_list _ t2 hu,.bool_list _ t2 hu⟩
 | int _ _=>cases sy with
  | non=>exact ⟨.int_none _ _,.int_none _ _⟩
  | bl _=>exact ⟨.int_bool _ _ _,.int_bool _ _ _⟩
  | int _ _=>exact ⟨.int_int _ _ _ _,.int_int _ _ _ _⟩
  | str _ _=>exact ⟨.int_str _ _ _ _,.int_str _ _ _ _⟩
  | tup p2 h2 q2 r2 t2=>exact ⟨.int_tuple _ _ t2 hu,.int_tuple _ _ t2 hu⟩
  | lst p2 h2 q2 r2 t2=>exact ⟨.int_list _ _ t2 hu,.int_list _ _ t2 hu⟩
 | str _ _=>cases sy with
  | non=>exact ⟨.str_none _ _,.str_none _ _⟩
  | bl _=>exact ⟨.str_bool _ _ _,.str_bool _ _ _⟩
  | int _ _=>exact ⟨.str_int _ _ _ _,.str_int _ _ _ _⟩
  | str _ _=>exact ⟨.str_str _ _ _ _,.str_str _ _ _ _⟩
  | tup p2 h2 q2 r2 t2=>exact ⟨.str_tuple _ _ t2 hu,.str_tuple _ _ t2 hu⟩
  | lst p2 h2 q2 r2 t2=>exact ⟨.str_list _ _ t2 hu,.str_list _ _ t2 hu⟩
 | tup p h q r t=>cases sy with
  | non=>exact ⟨.tuple_none t hu,.tuple_none t hu⟩
  | bl _=>exact ⟨.tuple_bool _ t hu,.tuple_bool _ t hu⟩
  | int _ _=>exact ⟨.tuple_int _ _ t hu,.tuple_int _ _ t hu⟩
  | str _ _=>exact ⟨.tuple_str _ _ t hu,.tuple_str _ _ t hu⟩
  | tup p2 h2 q2 r2 t2 => 
   simp only [D.dep] at hn
   have z:=zfw ih p p2 (Nat.le_of_succ_le_succ hn) q q2 r r2
   simp only [eqD]
   rw [<-znk q q2 r r2]
   exact ⟨.tuples t t2 hu z,.tuples t t2 hu z⟩
  | lst p2 h2 q2 r2 t2=>exact ⟨.tuple_list t t2 hu,.tuple_list t t2 hu⟩
 | lst p h q r t=>cases sy with
  | non=>exact ⟨.list_none t hu,.list_none t hu⟩
  | bl _=>exact ⟨.list_bool _ t hu,.list_bool _ t hu⟩
  | int _ _=>exact ⟨.list_int _ _ t hu,.list_int _ _ t hu⟩
  | str _ _=>exact ⟨.list_str _ _ t hu,.list_str _ _ t hu⟩
  | tup p2 h2 q2 r2 t2=>exact ⟨.list_tuple t t2 hu,.list_tuple t t2 hu⟩
  | lst p2 h2 q2 r2 t2 => 
   rename_i ds _ xs its es _ ys its2
   simp only [D.dep] at hn
   have z:=zfw ih p p2 (Nat.le_of_succ_le_succ hn) q q2 r r2
   have lx:=q.length;have ly:=q2.length;have l1:=r.length;have l2:=r2.length
   simp only [eqD]
   by_cases hl:ds.length=es.length
   . have hsz:its.toArray.size=its2.toArray.size:=by simp;omega
     rw [<-znl q q2 r r2 hl]
     exact ⟨.lists t t2 hsz hu z,.lists t t2 hsz hu z⟩
   . have hsz:(its.toArray.size != its2.toArray.size)=true:=by simp;omega
     rw [z8w hl]
     exact ⟨.lists_lengths t t2 hsz hu,.lists_lengths t t2 hsz hu⟩
theorem zd2 (I:Inv X pins σ H s):∀(n:Nat) {A:Around} {d e:D} {x y:V} {u v:Value},d.pl=true->e.pl=true->d.dep<=n->A.units+n<cLine->RD X.K H d x->RD X.K H e y->RelV x u->RelV y v->SeqAt.EqAt A s u v (eqD d e):=by
 have key:∀(n:Nat) {A:Around} {d e:D} {x y:V} {u v:Value},A.units<cLine->(∀m,m+1=n->zx9 X H s A.in1 m)->d.pl=true->e.pl=true->d.dep<=n->RD X.K H d x->RD X.K H e y->RelV x u->RelV y v->SeqAt.EqAt A s u v (eqD d e):=by
  intro n A d e x y u v hu ih hpd hpe hn hx hy ru rv
  have sx:=shp I hpd hx ru
  have sy:=shp I hpe hy rv
  have back:∀{a b:Addr},u=.ref a->v=.ref b->x=.ref a->y=.ref b->1<=d.dep->SeqAt.EqAt A s u v (eqD d e):=fun {a b} eu ev ex ey h1=>by
   subst eu ev ex ey
   by_cases hab:a=b
   . subst hab
     rw [RD.inj hpd hpe hx hy,zd1 _ hpe]
     exact .same _
   . exact .of_refs hab (y0e (n:=n - 1) hu (ih (n - 1) (by omega)) (by omega) sx sy).1
  cases sx with
  | non=>cases sy with
   | non=>exact .same _
   | bl _=>exact .none_bool _
   | int _ _=>exact .none_int _ _
   | str _ _=>exact .none_str _ _
   | tup p2 h2 q2 r2 t2=>exact .none_tuple t2 hu
   | lst p2 h2 q2 r2 t2=>exact .none_list t2 hu
  | bl _=>cases sy with
   | non=>exact .bool_none _
   | bl _=>exact .bool_bool _ _
   | int _ _=>exact .bool_int _ _ _
   | str _ _=>exact .bool_str _ _ _
   | tup p2 h2 q2 r2 t2=>exact .bool_tuple _ t2 hu
   | lst p2 h2 q2 r2 t2=>exact .bool_list _ t2 hu
  | int _ _=>cases sy with
   | non=>exact .int_none _ _
   | bl _=>exact .int_bool _ _ _
   | int _ _=>exact .int_int _ _ _ _
   | str _ _=>exact .int_str _ _ _ _
   | tup p2 h2 q2 r2 t2=>exact .int_tuple _ _ t2 hu
   | lst p2 h2 q2 r2 t2=>exact .int_list _ _ t2 hu
  | str _ _=>cases sy with
   | non=>exact .str_none _ _
   | bl _=>exact .str_bool _ _ _
   | int _ _=>exact .str_int _ _ _ _
   | str _ _=>exact .str_str _ _ _ _
   | tup p2 h2 q2 r2 t2=>exact .str_tuple _ _ t2 hu
   | lst p2 h2 q2 r2 t2=>exact .str_list _ _ t2 hu
  | tup p h q r t=>cases sy with
   | non=>exact .tuple_none t hu
   | bl _=>exact .tuple_bool _ t hu
   | int _ _=>exact .tuple_int _ _ t hu
   | str _ _=>exact .tuple_str _ _ t hu
   | tup p2 h2 q2 r2 t2=>exact back rfl rfl rfl rfl (by simp only [D.dep];exact Nat.succ_pos _)
   | lst p2 h2 q2 r2 t2=>exact .tuple_list t t2 hu
  | lst p h q r t=>cases sy with
   | non=>exact .list_none t hu
   | bl _=>exact .list_bool _ t hu
   | int _ _=>exact .list_int _ _ t hu
   | str _ _=>exact .list_str _ _ t hu
   | tup p2 h2 q2 r2 t2=>exact .list_tuple t t2 hu
   | lst p2 h2 q2 r2 t2=>exact back rfl rfl rfl rfl (by simp only [D.dep];exact Nat.succ_pos _)
 intro n
 induction n with
 | zero=>exact fun p q hn hu=>key 0 (by omega) (fun m z=>nomatch z) p q hn
 | succ n ih=>exact fun {A d e x y u v} p q hn hu=>key (n+1) (by omega) (fun m z=>by cases z;exact fun p q hn=>ih p q hn (by show A.units+1+n<cLine;omega)) p q hn
theorem zl4 (I:Inv X pins σ H s) {n:Nat} {A:Around} {d e:D} {x y:V} {u v:Value} (hpd:d.pl=true) (hpe:e.pl=true) (hn:d.dep<=n) (hu:A.units+1+n<cLine) (hx:RD X.K H d x) (hy:RD X.K H e y) (ru:RelV x u) (rv:RelV y v):SeqAt.RcAt A s u v (eqD d e)/\SeqAt.RcNeAt A s u v (!eqD d e):=
 y0e (n:=n) (by omega) (fun p q h=>zd2 I n p q h (by show A.units+1+n<cLine;omega)) (by omega) (shp I hpd hx ru) (shp I hpe hy rv)
end
section
variable {X:Cx}
open Classical in
noncomputable def hitD (K:Frag) (H:Hp) (d:D) (u:Value):Bool:=match zzu u with
 | some v=>decide (∃e,e.pl=true/\RD K H e v/\eqD e d=true)
 | none=>false
open Classical in
theorem zfx {K:Frag} {H:Hp} {d e:D} {y:V} {u:Value} (pe:e.pl=true) (r:RelV y u) (h:RD K H e y):hitD K H d u=eqD e d:=by
 unfold hitD
 rw [r.abs]
 dsimp only
 rw [Bool.eq_iff_iff]
 rw [decide_eq_true_iff]
 exact ⟨fun ⟨e',p',h',q⟩=>by rw [RD.inj pe p' h h'];exact q,fun q=>⟨e,pe,h,q⟩⟩
theorem z4d {K:Frag} {H:Hp} {d:D}:∀{es:List D} {xs:List V} {us:List Value},pls es=true->RDs K H es xs->Vals xs us->us.any (hitD K H d)=es.any fun e=>eqD e d
 | [],_,_,_,h,r=>by
  simp only [RDs] at h;subst h;cases r;rfl
 | e::es,_,_,p,h,r=>by
  simp only [RDs] at h
  simp only [pls,Bool.and_eq_true] at p
  obtain ⟨x,xs,rfl,h1,h2⟩:=h
  cases r with
  | cons r1 r2=>rw [List.any_cons,List.any_cons,zfx p.1 r1 h1,z4d p.2 h2 r2]
theorem z6t {A:Around} {pins:List (Addr×Obj)} {σ:St} {H:Hp} {s:Shared} (I:Inv X pins σ H s) (hu:A.units+1+20<cLine) {d:D} {x:V} {v:Value} (pd:d.pl=true) (hx:RD X.K H d x) (rx:RelV x v):∀{es:List D} {xs:List V} {us:List Value},
  pls es=true->RDs X.K H es xs->Vals xs us->z40 es<=20->∀u∈us,SeqAt.EqAt A.in1 s u v (hitD X.K H d u)
 | [],_,_,_,h,r,_=>by
  simp only [RDs] at h;subst h;cases r
  intro u hu;cases hu
 | e::es,_,_,p,h,r,hd=>by
  simp only [RDs] at h
  simp only [pls,Bool.and_eq_true] at p
  obtain ⟨y,xs,rfl,h1,h2⟩:=h
  simp only [z40] at hd
  cases r with
  | cons r1 r2=>
   intro u hm
   rcases List.mem_cons.mp hm with z | hm
   . subst z
     rw [zfx p.1 r1 h1]
     exact zd2 I 20 p.1 pd (by omega) (by show A.units+1+20<cLine;omega) h1 hx r1 rx
   . exact z6t I hu pd hx rx p.2 h2 r2 (by omega) u hm
end
structure Ex where
 cls:String
 fs:List D
inductive R (α:Type) where
 | ok (a:α) | er (x:Ex) | st
noncomputable def R.bind {α β:Type} (r:R α) (f:α->R β):R β:=match r with
 | .ok a=>f a
 | .er x=>.er x
 | .st=>.st
def Rk {α:Type} (EX:Ex->Prop) (r:R α) (k:α->Prop):Prop:=match r with
 | .ok a=>k a
 | .er x=>EX x
 | .st=>False
section
variable {α β:Type} {EX:Ex->Prop}
noncomputable def R.of (o:Option α):R α:=match o with
 | some a=>.ok a
 | none=>.st
theorem R.of_some (a:α):R.of (some a)=R.ok a:=rfl
theorem Rk.of {o:Option α} {k:α->Prop} (h:Rk EX (R.of o) k):∃a,o=some a/\k a:=by
 cases o with
 | none=>exact h.elim
 | some a=>exact ⟨a,rfl,h⟩
theorem R.bind_ok (a:α) (f:α->R β):(R.ok a).bind f=f a:=rfl
theorem Rk.bind {r:R α} {f:α->R β} {k:β->Prop}:Rk EX (r.bind f) k=Rk EX r fun a=>Rk EX (f a) k:=by cases r<;>rfl
theorem Rk.mono {r:R α} {k k':α->Prop} (h:Rk EX r k) (hk:∀a,k a->k' a):Rk EX r k':=by
 cases r with
 | ok a=>exact hk a h
 | er x=>exact h
 | st=>exact h
end
def Ext (H0 H H0' H':Hp):Prop:=Same H0 H0'/\Same H0' H'/\∀a,H a≠none->H0 a=none->H0' a=none
theorem Ext.refl {H0 H:Hp} (h:Same H0 H):Ext H0 H H0 H:=⟨Same.refl _,h,fun _ _ e=>e⟩
theorem z6u {α:Type} {o:Option α} {x:α} (h:o=some x):o≠none:=by rw [h];exact fun z=>nomatch z
theorem Same.ne {H H':Hp} (h:Same H H') {a:Addr} (n:H a≠none):H' a≠none:=by
 cases e:H a with
 | none=>exact absurd e n
 | some o=>exact z6u (h a o e)
theorem Ext.trans {H0 H H0' H' H0'' H'':Hp} (s:Same H H') (a:Ext H0 H H0' H') (b:Ext H0' H' H0'' H''):Ext H0 H H0'' H'':=
 ⟨a.1.trans b.1,b.2.1,fun c h1 h2=>b.2.2 c (s.ne h1) (a.2.2 c h1 h2)⟩
theorem Ext.grow {H0 H H0' H' H'':Hp} (a:Ext H0 H H0' H') (s:Same H' H''):Ext H0 H H0' H'':=⟨a.1,a.2.1.trans s,a.2.2⟩
theorem Ext.new {H0 H:Hp} {p:Addr} {o:HO} (h:Same H0 H) (hp:H p=none):Ext H0 H (upd H0 p o) (upd H p o):=by
 have h0:H0 p=none:=by
  cases e:H0 p with
  | none=>rfl
  | some u=>rw [h p u e] at hp;cases hp
 refine ⟨Same.upd_new h0,fun b u e=>?_,fun a h1 h2=>?_⟩
 . by_cases hb:b=p
   . subst hb;rw [z05] at e ⊢;exact e
   . rw [z02 hb] at e ⊢;exact h b u e
 . have ha:a≠p:=fun z=>h1 (by rw [z];exact hp)
   rw [z02 ha];exact h2
def OB (K:Frag) (H0 H:Hp) (a:Addr):D->Prop
 | .lst ds=>∃xs,H a=some (.lst xs)/\RDs K H0 ds xs
 | .dk ks ds=>∃xs,H a=some (.dK (ks.zip xs))/\ks.length=xs.length/\RDs K H0 ds xs
 | .dt ks ds=>∃xs,H a=some (.dT (ks.zip xs))/\ks.length=xs.length/\RDs K H0 ds xs
 | .dn ks ds=>∃qs xs o,H a=some (.ext (dnP a qs xs o))/\qs.map (·.1)=ks/\DN H0 a qs/\RDs K H0 ds xs
 | _=>False
section
variable {K:Frag} {H0 H H0' H':Hp} {a:Addr} {d:D}
theorem OB.some (h:OB K H0 H a d):∃o,H a=some o/\¬Imm o:=by
 cases d<;>simp only [OB] at h
 . obtain ⟨xs,h,_⟩:=h;exact ⟨_,h,fun z=>z⟩
 . obtain ⟨xs,h,_⟩:=h;exact ⟨_,h,fun z=>z⟩
 . obtain ⟨xs,h,_⟩:=h;exact ⟨_,h,fun z=>z⟩
 . obtain ⟨qs,xs,o,h,_⟩:=h;exact ⟨_,h,fun z=>z _ _ _ _ rfl⟩
theorem OB.mono (h:OB K H0 H a d) (s0:Same H0 H0') (s:Same H H'):OB K H0' H' a d:=by
 cases d<;>simp only [OB] at h ⊢
 . obtain ⟨xs,h,r⟩:=h;exact ⟨_,s _ _ h,r.mono s0⟩
 . obtain ⟨xs,h,l,r⟩:=h;exact ⟨_,s _ _ h,l,r.mono s0⟩
 . obtain ⟨xs,h,l,r⟩:=h;exact ⟨_,s _ _ h,l,r.mono s0⟩
 . obtain ⟨qs,xs,o,h,k,n,r⟩:=h;exact ⟨qs,xs,o,s _ _ h,k,n.tk fun b ys q=>s0 _ _ q,r.mono s0⟩
theorem OB.at (h:OB K H0 H a d) (e:H' a=H a):OB K H0 H' a d:=by
 cases d<;>simp only [OB] at h ⊢
 . obtain ⟨xs,h,r⟩:=h;exact ⟨_,e.trans h,r⟩
 . obtain ⟨xs,h,l,r⟩:=h;exact ⟨_,e.trans h,l,r⟩
 . obtain ⟨xs,h,l,r⟩:=h;exact ⟨_,e.trans h,l,r⟩
 . obtain ⟨qs,xs,o,h,k,n,r⟩:=h;exact ⟨qs,xs,o,e.trans h,k,n,r⟩
theorem OB.tk (h:OB K H0 H a d) (n:d.shal=true) (t:TK H0 H0'):OB K H0' H a d:=by
 cases d<;>simp only [OB,D.shal] at h n ⊢
 . obtain ⟨xs,h,r⟩:=h;exact ⟨_,h,r.tk t n⟩
 . obtain ⟨xs,h,l,r⟩:=h;exact ⟨_,h,l,r.tk t n⟩
 . obtain ⟨xs,h,l,r⟩:=h;exact ⟨_,h,l,r.tk t n⟩
 . obtain ⟨qs,xs,o,h,k,m,r⟩:=h;exact ⟨qs,xs,o,h,k,m.tk fun b ys q=>t _ _ trivial q,r.tk t n⟩
theorem OB.rd (h:OB K H0 H a d) (s0:Same H0 H0') (e:H0' a=H a):RD K H0' d (.ref a):=by
 cases d<;>simp only [OB,RD] at h ⊢
 . obtain ⟨xs,h,r⟩:=h;exact ⟨_,_,rfl,e.trans h,r.mono s0⟩
 . obtain ⟨xs,h,l,r⟩:=h;exact ⟨_,_,rfl,e.trans h,l,r.mono s0⟩
 . obtain ⟨xs,h,l,r⟩:=h;exact ⟨_,_,rfl,e.trans h,l,r.mono s0⟩
 . obtain ⟨qs,xs,o,h,k,n,r⟩:=h;exact ⟨_,qs,xs,o,rfl,e.trans h,k,n.tk fun b ys q=>s0 _ _ q,r.mono s0⟩
end
def Out (K:Frag) (fr:Bool) (H0 H:Hp) (d:D) (v:V) (H':Hp):Prop:=
 Same H H'/\∃H0',Ext H0 H H0' H'/\(if fr=true then ∃p,v=.ref p/\H p=none/\H0' p=none/\OB K H0' H' p d else RD K H0' d v)
section
variable {K:Frag} {fr:Bool} {H0 H H0' H':Hp} {d:D} {v:V}
theorem Out.val (s:Same H H') (e:Ext H0 H H0' H') (r:RD K H0' d v):Out K false H0 H d v H':=⟨s,H0',e,by rw [if_neg Bool.false_ne_true];exact r⟩
theorem Out.pure (s:Same H0 H) (r:RD K H0 d v):Out K false H0 H d v H:=.val (Same.refl _) (.refl s) r
theorem Out.fresh {p:Addr} (s:Same H H') (e:Ext H0 H H0' H') (hp:H p=none) (hp0:H0' p=none) (o:OB K H0' H' p d):Out K true H0 H d (.ref p) H':=⟨s,H0',e,by rw [if_pos rfl];exact ⟨p,rfl,hp,hp0,o⟩⟩
theorem Out.rd (o:Out K false H0 H d v H'):Same H H'/\∃H0',Ext H0 H H0' H'/\RD K H0' d v:=by
 obtain ⟨s,H0',e,r⟩:=o
 rw [if_neg Bool.false_ne_true] at r
 exact ⟨s,H0',e,r⟩
theorem Out.weak (o:Out K fr H0 H d v H'):Out K false H0 H d v H':=by
 cases fr with
 | false=>exact o
 | true=>
  obtain ⟨s,H0',e,r⟩:=o
  rw [if_pos rfl] at r
  obtain ⟨p,rfl,hp,hp0,ob⟩:=r
  obtain ⟨u,hu,_⟩:=ob.some
  have e2:Ext H0 H (upd H0' p u) H':=by
   refine ⟨e.1.trans (Same.upd_new hp0),fun b w q=>?_,fun a h1 h2=>?_⟩
   . by_cases hb:b=p
     . subst hb;rw [z05] at q;cases q;exact hu
     . rw [z02 hb] at q;exact e.2.1 b w q
   . rw [z02 (fun z=>h1 (by rw [z];exact hp))];exact e.2.2 a h1 h2
  exact .val s e2 (ob.rd (Same.upd_new hp0) (by rw [z05,hu]))
theorem Out.after {H1 H1':Hp} (s:Same H H1) (e:Ext H0 H H1' H1) (o:Out K fr H1' H1 d v H'):Out K fr H0 H d v H':=by
 obtain ⟨s',H0',e',r⟩:=o
 refine ⟨s.trans s',H0',e.trans s e',?_⟩
 cases fr with
 | false=>exact r
 | true=>
  rw [if_pos rfl] at r ⊢
  obtain ⟨p,rfl,hp,r⟩:=r
  refine ⟨p,rfl,?_,r⟩
  cases q:H p with
  | none=>rfl
  | some u=>rw [s p u q] at hp;cases hp
end
abbrev DE:=List (Option D)
def RE (K:Frag) (H:Hp) (ρ:DE) (σ:St):Prop:=ρ.length=σ.length/\∀(i:Nat) d,ρ[i]?=some (some d)->∃v,σ[i]?=some (some v)/\RD K H d v
theorem RE.mono {K:Frag} {H H':Hp} {ρ:DE} {σ:St} (h:RE K H ρ σ) (s:Same H H'):RE K H' ρ σ:=⟨h.1,fun i d e=>by
 obtain ⟨v,h1,h2⟩:=h.2 i d e
 exact ⟨v,h1,h2.mono s⟩⟩
structure XW where
 hb:Hp
 p:Ex->Hp->Prop
abbrev F0:XW:=⟨fun _=>none,fun _ _=>False⟩
theorem F0.same (H:Hp):Same F0.hb H:=fun _ _ z=>nomatch z
def XW.at (W:XW) (x:Ex):Prop:=∀H',Same W.hb H'->W.p x H'
noncomputable def TEd (K:Frag) (EX:XW) (fr:Bool) (f:DE->R D):TE:=fun σ H Q=>Same EX.hb H/\∃ρ H0,Same H0 H/\RE K H0 ρ σ/\Rk EX.at (f ρ) fun d=>∀v H',Out K fr H0 H d v H'->Q v H'
noncomputable def TAd (K:Frag) (EX:XW) (f:DE->R (List D)):TA:=fun σ H Q=>Same EX.hb H/\∃ρ H0,Same H0 H/\RE K H0 ρ σ/\Rk EX.at (f ρ) fun ds=>∀vs H' H0',Same H H'->Ext H0 H H0' H'->RDs K H0' ds vs->Q vs H'
noncomputable def TTd (K:Frag) (EX:XW) (f:DE->R Bool):TT:=fun σ H Q=>Same EX.hb H/\∃ρ H0,Same H0 H/\RE K H0 ρ σ/\Rk EX.at (f ρ) fun b=>∀H',Same H H'->Q b H'
noncomputable def z04 (i:Nat):DE->R D:=fun ρ=>match ρ[i]? with | some (some d)=>.ok d | _=>.st
noncomputable def eC (d:D):DE->R D:=fun _=>.ok d
noncomputable def eOp (o:D->D->Option D) (fa fb:DE->R D):DE->R D:=fun ρ=>(fa ρ).bind fun x=>(fb ρ).bind fun y=>R.of (o x y)
noncomputable def eUn (o:D->Option D) (fa:DE->R D):DE->R D:=fun ρ=>(fa ρ).bind fun x=>R.of (o x)
noncomputable def z0e:DE->R (List D):=fun _=>.ok []
noncomputable def z01 (f:DE->R D) (fs:DE->R (List D)):DE->R (List D):=fun ρ=>(f ρ).bind fun d=>(fs ρ).bind fun ds=>.ok (d::ds)
noncomputable def z0k (m:List D->R D) (fs:DE->R (List D)):DE->R D:=fun ρ=>(fs ρ).bind m
noncomputable def eCB (m:List D->Option D) (fs:DE->R (List D)):DE->R D:=fun ρ=>(fs ρ).bind fun ds=>R.of (m ds)
noncomputable def zbz (fs:DE->R (List D)):DE->R D:=fun ρ=>(fs ρ).bind fun ds=>if ds.length<=1000 then .ok (.tup ds) else .st
noncomputable def z64 (fs:DE->R (List D)):DE->R D:=fun ρ=>(fs ρ).bind fun ds=>if ds.length<=1000 then .ok (.lst ds) else .st
noncomputable def eIf (t:DE->R Bool) (fa fb:DE->R D):DE->R D:=fun ρ=>(t ρ).bind fun b=>if b=true then fa ρ else fb ρ
noncomputable def zl5 (t u:DE->R Bool):DE->R Bool:=fun ρ=>(t ρ).bind fun b=>if b=true then u ρ else .ok false
noncomputable def bOr (t u:DE->R Bool):DE->R Bool:=fun ρ=>(t ρ).bind fun b=>if b=true then .ok true else u ρ
noncomputable def zqm (t:DE->R Bool):DE->R Bool:=fun ρ=>(t ρ).bind fun b=>.ok (!b)
noncomputable def asB:D->Option Bool
 | .bl b=>some b
 | _=>none
noncomputable def z2i (tr:D->Option Bool) (f:DE->R D):DE->R Bool:=fun ρ=>(f ρ).bind fun d=>R.of (tr d)
noncomputable def zqn (fa fb:DE->R D):DE->R D:=fun ρ=>(fa ρ).bind fun x=>(R.of (asB x)).bind fun b=>if b=true then fb ρ else .ok (.bl false)
noncomputable def eOr (fa fb:DE->R D):DE->R D:=fun ρ=>(fa ρ).bind fun x=>(R.of (asB x)).bind fun b=>if b=true then .ok (.bl true) else fb ρ
def OpD (K:Frag) (fr:Bool) (o:D->D->Option D) (r:R2):Prop:=∀(H0 H:Hp) (x y:V) (d e z:D) (Q:VK),Same H0 H->RD K H0 d x->RD K H0 e y->o d e=some z->(∀v H',Out K fr H0 H z v H'->Q v H')->r x y H Q
def UnD (K:Frag) (fr:Bool) (o:D->Option D) (r:V->Hp->VK->Prop):Prop:=∀(H0 H:Hp) (x:V) (d z:D) (Q:VK),Same H0 H->RD K H0 d x->o d=some z->(∀v H',Out K fr H0 H z v H'->Q v H')->r x H Q
def z7r (K:Frag) (fr:Bool) (m:List D->Option D) (r:List V->Hp->VK->Prop):Prop:=∀(H0 H:Hp) (xs:List V) (ds:List D) (z:D) (Q:VK),Same H0 H->RDs K H0 ds xs->m ds=some z->(∀v H',Out K fr H0 H z v H'->Q v H')->r xs H Q
def zxa (K:Frag) (tr:D->Option Bool) (r:V->Hp->(Bool->Hp->Prop)->Prop):Prop:=∀(H0 H:Hp) (x:V) (d:D) (b:Bool) (Q:Bool->Hp->Prop),Same H0 H->RD K H0 d x->tr d=some b->Q b H->r x H Q
section
variable {K:Frag} {EX:XW} {fr:Bool} {σ:St} {H:Hp} {Q:VK}
theorem TEd.go {f:DE->R D} {ρ:DE} {H0:Hp} {k:D->Prop} (sx:Same EX.hb H) (s:Same H0 H) (e:RE K H0 ρ σ) (h:Rk EX.at (f ρ) k) (hk:∀d,k d->∀v H' H0',Same H H'->Ext H0 H H0' H'->RD K H0' d v->Q v H'):TEd K EX false f σ H Q:=
 ⟨sx,ρ,H0,s,e,h.mono fun d z v H' o=>by
  obtain ⟨s',H0',e',r⟩:=o.rd
  exact hk d z v H' H0' s' e' r⟩
theorem TAd.go {f:DE->R (List D)} {ρ:DE} {H0:Hp} {k:List D->Prop} {Q:List V->Hp->Prop} (sx:Same EX.hb H) (s:Same H0 H) (e:RE K H0 ρ σ) (h:Rk EX.at (f ρ) k) (hk:∀d,k d->∀v H' H0',Same H H'->Ext H0 H H0' H'->RDs K H0' d v->Q v H'):TAd K EX f σ H Q:=
 ⟨sx,ρ,H0,s,e,h.mono fun d z v H' H0' s' e' r=>hk d z v H' H0' s' e' r⟩
theorem TTd.go {f:DE->R Bool} {ρ:DE} {H0:Hp} {k:Bool->Prop} {Q:Bool->Hp->Prop} (sx:Same EX.hb H) (s:Same H0 H) (e:RE K H0 ρ σ) (h:Rk EX.at (f ρ) k) (hk:∀b,k b->∀H',Same H H'->Q b H'):TTd K EX f σ H Q:=
 ⟨sx,ρ,H0,s,e,h.mono fun b z H' s'=>hk b z H' s'⟩
theorem TEd.weak {f:DE->R D} (h:TEd K EX false f σ H Q):TEd K EX fr f σ H Q:=by
 obtain ⟨sx,ρ,H0,s,e,h⟩:=h
 exact ⟨sx,ρ,H0,s,e,h.mono fun d z v H' o=>z v H' o.weak⟩
theorem zxb {i:Nat} (h:TEd K EX false (z04 i) σ H Q):∃v,σ[i]?=some (some v)/\Q v H:=by
 obtain ⟨sx,ρ,H0,s,e,h⟩:=h
 unfold z04 at h
 split at h
 . rename_i d q
   obtain ⟨v,h1,h2⟩:=e.2 i d q
   exact ⟨v,h1,h v H (.pure s h2)⟩
 . exact h.elim
theorem z8x {d:D} {v:V} (hd:∀H0,RD K H0 d v) (h:TEd K EX false (eC d) σ H Q):tC v σ H Q:=by
 obtain ⟨sx,ρ,H0,s,e,h⟩:=h
 exact h v H (.pure s (hd _))
theorem zwb {o:D->D->Option D} {r:R2} {fa fb:DE->R D} (ho:OpD K fr o r) (h:TEd K EX fr (eOp o fa fb) σ H Q):tOp r (TEd K EX false fa) (TEd K EX false fb) σ H Q:=by
 obtain ⟨sx,ρ,H0,s,e,h⟩:=h
 unfold eOp at h
 rw [Rk.bind] at h
 refine TEd.go sx s e h fun d h v H1 H1' s1 e1 r1=>?_
 rw [Rk.bind] at h
 refine TEd.go (sx.trans s1) e1.2.1 (e.mono e1.1) h fun d2 h v2 H2 H2' s2 e2 r2=>?_
 obtain ⟨z,hz,h⟩:=h.of
 exact ho H2' H2 v v2 d d2 z Q e2.2.1 (r1.mono e2.1) r2 hz fun w H3 o=>h w H3 (o.after (s1.trans s2) (e1.trans s1 e2))
theorem y15 {o:D->Option D} {r:V->Hp->VK->Prop} {fa:DE->R D} (ho:UnD K fr o r) (h:TEd K EX fr (eUn o fa) σ H Q):tUn r (TEd K EX false fa) σ H Q:=by
 obtain ⟨sx,ρ,H0,s,e,h⟩:=h
 unfold eUn at h
 rw [Rk.bind] at h
 refine TEd.go sx s e h fun d h v H1 H1' s1 e1 r1=>?_
 obtain ⟨z,hz,h⟩:=h.of
 exact ho H1' H1 v d z Q e1.2.1 r1 hz fun w H3 o=>h w H3 (o.after s1 e1)
theorem zrz {Q:List V->Hp->Prop} (h:TAd K EX z0e σ H Q):zqj σ H Q:=by
 obtain ⟨sx,ρ,H0,s,e,h⟩:=h
 exact h [] H H0 (Same.refl _) (.refl s) .nil
theorem zfy {Q:List V->Hp->Prop} {f:DE->R D} {fs:DE->R (List D)} (h:TAd K EX (z01 f fs) σ H Q):z8l (TEd K EX false f) (TAd K EX fs) σ H Q:=by
 obtain ⟨sx,ρ,H0,s,e,h⟩:=h
 unfold z01 at h
 rw [Rk.bind] at h
 refine TEd.go sx s e h fun d h v H1 H1' s1 e1 r1=>?_
 rw [Rk.bind] at h
 refine TAd.go (sx.trans s1) e1.2.1 (e.mono e1.1) h fun ds h vs H2 H2' s2 e2 r2=>?_
 exact h (v::vs) H2 H2' (s1.trans s2) (e1.trans s1 e2) (.cons (r1.mono e2.1) r2)
theorem zxc {m:List D->Option D} {r:List V->Hp->VK->Prop} {fs:DE->R (List D)} (hm:z7r K fr m r) (h:TEd K EX fr (eCB m fs) σ H Q):tCB r (TAd K EX fs) σ H Q:=by
 obtain ⟨sx,ρ,H0,s,e,h⟩:=h
 unfold eCB at h
 rw [Rk.bind] at h
 refine TAd.go sx s e h fun ds h vs H1 H1' s1 e1 r1=>?_
 obtain ⟨z,hz,h⟩:=h.of
 exact hm H1' H1 vs ds z Q e1.2.1 r1 hz fun w H3 o=>h w H3 (o.after s1 e1)
theorem zc0 {n:Nat} (h:n<=1000):n<=sizeLine:=Nat.le_trans h (by decide)
theorem zxd {fs:DE->R (List D)} (h:TEd K EX false (zbz fs) σ H Q):zzz (TAd K EX fs) σ H Q:=by
 obtain ⟨sx,ρ,H0,s,e,h⟩:=h
 unfold zbz at h
 rw [Rk.bind] at h
 refine TAd.go sx s e h fun ds h vs H1 H1' s1 e1 r1=>?_
 split at h
 . rename_i hl
   refine ⟨zc0 (by rw [<-r1.length];exact hl),fun p hp=>h _ _ (.val (s1.trans (Same.upd_new hp)) (e1.trans s1 (.new e1.2.1 hp)) ?_)⟩
   have h1p:H1' p=none:=by
    cases q:H1' p with
    | none=>rfl
    | some u=>rw [e1.2.1 p u q] at hp;cases hp
   simp only [RD]
   exact ⟨p,vs,rfl,z05,r1.mono (Same.upd_new h1p)⟩
 . exact h.elim
theorem Same.none {H H':Hp} (s:Same H H') {p:Addr} (h:H' p=none):H p=none:=by
 cases q:H p with
 | none=>rfl
 | some u=>rw [s p u q] at h;cases h
theorem Out.new {H0 H:Hp} {d:D} {p:Addr} {o:HO} (s:Same H0 H) (hp:H p=none) (hob:∀H',H' p=some o->OB K H0 H' p d):Out K true H0 H d (.ref p) (upd H p o):=
 .fresh (Same.upd_new hp) ((Ext.refl s).grow (Same.upd_new hp)) hp (s.none hp) (hob _ z05)
theorem zxe {fs:DE->R (List D)} (h:TEd K EX true (z64 fs) σ H Q):y00 (TAd K EX fs) σ H Q:=by
 obtain ⟨sx,ρ,H0,s,e,h⟩:=h
 unfold z64 at h
 rw [Rk.bind] at h
 refine TAd.go sx s e h fun ds h vs H1 H1' s1 e1 r1=>?_
 split at h
 . rename_i hl
   refine ⟨zc0 (by rw [<-r1.length];exact hl),fun p hp=>h _ _ (Out.after s1 e1 (.new e1.2.1 hp fun H' hH=>?_))⟩
   simp only [OB]
   exact ⟨vs,hH,r1⟩
 . exact h.elim
theorem zs0 {t u:DE->R Bool} {Q:Bool->Hp->Prop} (h:TTd K EX (zl5 t u) σ H Q):zzs (TTd K EX t) (TTd K EX u) σ H Q:=by
 obtain ⟨sx,ρ,H0,s,e,h⟩:=h
 unfold zl5 at h
 rw [Rk.bind] at h
 refine TTd.go sx s e h fun b h H1 s1=>?_
 cases b with
 | true=>exact TTd.go (sx.trans s1) (s.trans s1) e h fun b h H' s'=>h H' (s1.trans s')
 | false=>exact h H1 s1
theorem zxf {t u:DE->R Bool} {Q:Bool->Hp->Prop} (h:TTd K EX (bOr t u) σ H Q):tOr (TTd K EX t) (TTd K EX u) σ H Q:=by
 obtain ⟨sx,ρ,H0,s,e,h⟩:=h
 unfold bOr at h
 rw [Rk.bind] at h
 refine TTd.go sx s e h fun b h H1 s1=>?_
 cases b with
 | true=>exact h H1 s1
 | false=>exact TTd.go (sx.trans s1) (s.trans s1) e h fun b h H' s'=>h H' (s1.trans s')
theorem zs1 {t:DE->R Bool} {Q:Bool->Hp->Prop} (h:TTd K EX (zqm t) σ H Q):zzt (TTd K EX t) σ H Q:=by
 obtain ⟨sx,ρ,H0,s,e,h⟩:=h
 unfold zqm at h
 rw [Rk.bind] at h
 exact TTd.go sx s e h fun b h H1 s1=>h H1 s1
end
noncomputable def y16 (r:V->Hp->(Bool->Hp->Prop)->Prop) (t:TE):TT:=fun σ H Q=>t σ H fun x H'=>r x H' Q
noncomputable def zfz (K:Frag) (EX:XW) (g:D->DE->R Bool):V->TT:=fun x σ H Q=>Same EX.hb H/\∃d ρ H0,Same H0 H/\RE K H0 ρ σ/\RD K H0 d x/\Rk EX.at (g d ρ) fun b=>∀H',Same H H'->Q b H'
noncomputable def zxg (o:D->D->Option D) (fb:DE->R D):D->DE->R D:=fun d ρ=>(fb ρ).bind fun y=>R.of (o d y)
noncomputable def zxh (o:D->D->Option D) (fb:DE->R D) (g:D->DE->R D):D->DE->R D:=fun d ρ=>(fb ρ).bind fun y=>(R.of (o d y)).bind fun z=>(R.of (asB z)).bind fun b=>if b=true then g y ρ else .ok (.bl false)
noncomputable def zaf (o:D->D->Option D) (fb:DE->R D):D->DE->R Bool:=fun d ρ=>(fb ρ).bind fun y=>(R.of (o d y)).bind fun z=>R.of (asB z)
noncomputable def zag (o:D->D->Option D) (fb:DE->R D) (g:D->DE->R Bool):D->DE->R Bool:=fun d ρ=>(fb ρ).bind fun y=>(R.of (o d y)).bind fun z=>(R.of (asB z)).bind fun b=>if b=true then g y ρ else .ok false
noncomputable def y17 (fa:DE->R D) (g:D->DE->R D):DE->R D:=fun ρ=>(fa ρ).bind fun x=>g x ρ
noncomputable def zs2 (fa:DE->R D) (g:D->DE->R Bool):DE->R Bool:=fun ρ=>(fa ρ).bind fun x=>g x ρ
theorem z4e {d:D} {b:Bool} (h:asB d=some b):d=.bl b:=by
 cases d<;>simp [asB] at h
 subst h;rfl
theorem RD.bl {K:Frag} {H:Hp} {b:Bool} {v:V} (h:RD K H (.bl b) v):v=.bl b:=by simpa only [RD] using h
section
variable {K:Frag} {EX:XW} {σ:St} {H:Hp} {Q:VK} {QB:Bool->Hp->Prop}
theorem zxi {fa fb:DE->R D} (h:TEd K EX false (zqn fa fb) σ H Q):zrq (TEd K EX false fa) (TEd K EX false fb) σ H Q:=by
 obtain ⟨sx,ρ,H0,s,e,h⟩:=h
 unfold zqn at h
 rw [Rk.bind] at h
 refine TEd.go sx s e h fun d h v H1 H1' s1 e1 r1=>?_
 rw [Rk.bind] at h
 obtain ⟨b,hb,h⟩:=h.of
 cases z4e hb
 cases r1.bl
 cases b with
 | true=>exact TEd.go (sx.trans s1) e1.2.1 (e.mono e1.1) h fun d h v H2 H2' s2 e2 r2=>h v H2 (.val (s1.trans s2) (e1.trans s1 e2) r2)
 | false=>exact h _ H1 (.val s1 e1 (by simp only [RD]))
theorem y18 {fa fb:DE->R D} (h:TEd K EX false (eOr fa fb) σ H Q):y08 (TEd K EX false fa) (TEd K EX false fb) σ H Q:=by
 obtain ⟨sx,ρ,H0,s,e,h⟩:=h
 unfold eOr at h
 rw [Rk.bind] at h
 refine TEd.go sx s e h fun d h v H1 H1' s1 e1 r1=>?_
 rw [Rk.bind] at h
 obtain ⟨b,hb,h⟩:=h.of
 cases z4e hb
 cases r1.bl
 cases b with
 | true=>exact h _ H1 (.val s1 e1 (by simp only [RD]))
 | false=>exact TEd.go (sx.trans s1) e1.2.1 (e.mono e1.1) h fun d h v H2 H2' s2 e2 r2=>h v H2 (.val (s1.trans s2) (e1.trans s1 e2) r2)
theorem zxj {tr:D->Option Bool} {r:V->Hp->(Bool->Hp->Prop)->Prop} {fa:DE->R D} (ht:zxa K tr r) (h:TTd K EX (z2i tr fa) σ H QB):y16 r (TEd K EX false fa) σ H QB:=by
 obtain ⟨sx,ρ,H0,s,e,h⟩:=h
 unfold z2i at h
 rw [Rk.bind] at h
 refine TEd.go sx s e h fun d h v H1 H1' s1 e1 r1=>?_
 obtain ⟨b,hb,h⟩:=h.of
 exact ht H1' H1 v d b QB e1.2.1 r1 hb (h H1 s1)
theorem zs3 {tr:D->Option Bool} {r:V->Hp->(Bool->Hp->Prop)->Prop} {fa:DE->R D} (ht:zxa K tr r) (h:TEd K EX false (eUn (fun d=>(tr d).map fun b=>.bl (!b)) fa) σ H Q) :
  (fun σ H Q=>(TEd K EX false fa) σ H fun x H1=>r x H1 fun k H2=>Q (.bl (!k)) H2) σ H Q:=by
 obtain ⟨sx,ρ,H0,s,e,h⟩:=h
 unfold eUn at h
 rw [Rk.bind] at h
 refine TEd.go sx s e h fun d h v H1 H1' s1 e1 r1=>?_
 obtain ⟨z,hz,h⟩:=h.of
 have hz:(tr d).map (fun b=>D.bl (!b))=some z:=hz
 cases hb:tr d with
 | none=>rw [hb] at hz;cases hz
 | some b=>
  rw [hb] at hz;cases hz
  exact ht H1' H1 v d b _ e1.2.1 r1 hb (h _ H1 (.val s1 e1 (by simp only [RD])))
theorem zxk {o:D->D->Option D} {r:R2} {fa fb:DE->R D} (ho:OpD K false o r) (h:TTd K EX (z2i asB (eOp o fa fb)) σ H QB):zna (tOp r (TEd K EX false fa) (TEd K EX false fb)) σ H QB:=by
 obtain ⟨sx,ρ,H0,s,e,h⟩:=h
 unfold z2i at h
 rw [Rk.bind] at h
 unfold zna
 refine zwb (EX:=EX) ho ⟨sx,ρ,H0,s,e,h.mono fun d h v H' o=>?_⟩
 obtain ⟨b,hb,h⟩:=h.of
 obtain ⟨s',H0',e',r'⟩:=o.rd
 cases z4e hb
 cases r'.bl
 exact h H' s'
theorem znm {o:D->D->Option D} {r:R2} {fb:DE->R D} (ho:OpD K false o r) {x:V} (h:zfz K EX (zaf o fb) x σ H QB):zl0 r (TEd K EX false fb) x σ H QB:=by
 obtain ⟨sx,d,ρ,H0,s,e,rx,h⟩:=h
 unfold zaf at h
 rw [Rk.bind] at h
 refine TEd.go sx s e h fun d2 h v2 H2 H2' s2 e2 r2=>?_
 rw [Rk.bind] at h
 obtain ⟨z,hz,h⟩:=h.of
 obtain ⟨b,hb,h⟩:=h.of
 cases z4e hb
 refine ho H2' H2 x v2 d d2 _ _ e2.2.1 (rx.mono e2.1) r2 hz fun w H3 o=>?_
 obtain ⟨s3,H3',e3,r3⟩:=o.rd
 cases r3.bl
 exact h H3 (s2.trans s3)
theorem znn {o:D->D->Option D} {r:R2} {fb:DE->R D} {g:D->DE->R Bool} (ho:OpD K false o r) {x:V} (h:zfz K EX (zag o fb g) x σ H QB):zl1 r (TEd K EX false fb) (zfz K EX g) x σ H QB:=by
 obtain ⟨sx,d,ρ,H0,s,e,rx,h⟩:=h
 unfold zag at h
 rw [Rk.bind] at h
 refine TEd.go sx s e h fun d2 h v2 H2 H2' s2 e2 r2=>?_
 rw [Rk.bind] at h
 obtain ⟨z,hz,h⟩:=h.of
 rw [Rk.bind] at h
 obtain ⟨b,hb,h9⟩:=h.of
 cases z4e hb
 refine ho H2' H2 x v2 d d2 _ _ e2.2.1 (rx.mono e2.1) r2 hz fun w H3 o=>?_
 obtain ⟨s3,H3',e3,r3⟩:=o.rd
 cases r3.bl
 clear h
 have h:=h9
 cases b with
 | true=>exact ⟨(sx.trans s2).trans s3,d2,ρ,H3',e3.2.1,e.mono (e2.1.trans e3.1),r2.mono e3.1,h.mono fun z h H' s'=>h H' (s2.trans (s3.trans s'))⟩
 | false=>exact h H3 (s2.trans s3)
theorem zs4 {fa:DE->R D} {g:D->DE->R Bool} (h:TTd K EX (zs2 fa g) σ H QB):zro (TEd K EX false fa) (zfz K EX g) σ H QB:=by
 obtain ⟨sx,ρ,H0,s,e,h⟩:=h
 unfold zs2 at h
 rw [Rk.bind] at h
 exact TEd.go sx s e h fun d h v H1 H1' s1 e1 r1=>⟨sx.trans s1,d,ρ,H1',e1.2.1,e.mono e1.1,r1,h.mono fun z h H' s'=>h H' (s1.trans s')⟩
end
inductive Sl where
 | em | im (d:D) | ow (d:D)
abbrev DS:=List Sl
noncomputable def Sl.see (b:Bool):Sl->Option D
 | .em=>none
 | .im d=>some d
 | .ow d=>if b=true then some d else none
noncomputable def Sl.frz (b:Bool):Sl->Sl
 | .ow d=>if b=true then .im d else .ow d
 | s=>s
noncomputable def vis:List Bool->DS->DE
 | _,[]=>[]
 | [],s::r=>s.see false::vis [] r
 | b::m,s::r=>s.see b::vis m r
noncomputable def frz:List Bool->DS->DS
 | _,[]=>[]
 | [],s::r=>s::r
 | b::m,s::r=>s.frz b::frz m r
theorem zc1:∀(m:List Bool) (ρ:DS) (i:Nat),(vis m ρ)[i]?=(ρ[i]?).map (Sl.see (m.getD i false))
 | [],[],i=>by simp [vis]
 | _::_,[],i=>by simp [vis]
 | [],s::r,0=>by simp [vis]
 | b::m,s::r,0=>by simp [vis]
 | [],s::r,i+1=>by simpa [vis] using zc1 [] r i
 | b::m,s::r,i+1=>by simpa [vis] using zc1 m r i
theorem z5a:∀(m:List Bool) (ρ:DS),(vis m ρ).length=ρ.length
 | [],[]=>rfl
 | _::_,[]=>rfl
 | [],s::r=>by simp [vis,z5a [] r]
 | b::m,s::r=>by simp [vis,z5a m r]
theorem Sl.frz_false (s:Sl):s.frz false=s:=by cases s<;>simp [Sl.frz]
theorem zc2:∀(m:List Bool) (ρ:DS) (i:Nat),(L2.frz m ρ)[i]?=(ρ[i]?).map (Sl.frz (m.getD i false))
 | [],[],i=>by simp [frz]
 | _::_,[],i=>by simp [frz]
 | [],s::r,i=>by
  simp only [frz,List.getD_nil]
  cases h:(s::r)[i]? with
  | none=>rfl
  | some x=>simp [Sl.frz_false]
 | b::m,s::r,0=>by simp [frz]
 | b::m,s::r,i+1=>by simpa [frz] using zc2 m r i
theorem z83:∀(m:List Bool) (ρ:DS),(L2.frz m ρ).length=ρ.length
 | [],[]=>rfl
 | _::_,[]=>rfl
 | [],s::r=>rfl
 | b::m,s::r=>by simp [frz,z83 m r]
structure RS (K:Frag) (Hc Hb H0:Hp) (ρ:DS) (σ:St) (H:Hp):Prop where
 sb:Same Hb H
 ext:Ext Hc Hb H0 H
 len:ρ.length=σ.length
 im:∀(i:Nat) d,ρ[i]?=some (.im d)->∃v,σ[i]?=some (some v)/\RD K H0 d v
 ow:∀(i:Nat) d,ρ[i]?=some (.ow d)->∃a,σ[i]?=some (some (.ref a))/\H0 a=none/\Hb a=none/\OB K H0 H a d
 ap:∀(i j:Nat) d e a,ρ[i]?=some (.ow d)->ρ[j]?=some (.ow e)->σ[i]?=some (some (.ref a))->σ[j]?=some (some (.ref a))->i=j
theorem RS.grow {K:Frag} {Hc Hb H0 H H':Hp} {ρ:DS} {σ:St} (R:RS K Hc Hb H0 ρ σ H) (s:Same H H'):RS K Hc Hb H0 ρ σ H':=
 ⟨R.sb.trans s,R.ext.grow s,R.len,R.im,fun i d e=>by
  obtain ⟨a,h1,h2,h3,h4⟩:=R.ow i d e
  exact ⟨a,h1,h2,h3,h4.mono (Same.refl _) s⟩,R.ap⟩
def Msk (m:List Bool) (ρ:DS) (σ:St) (a:Addr):Prop:=∃i d,m.getD i false=true/\ρ[i]?=some (.ow d)/\σ[i]?=some (some (.ref a))
open Classical in
noncomputable def HeOf (m:List Bool) (ρ:DS) (σ:St) (H0 H:Hp):Hp:=fun a=>if Msk m ρ σ a then H a else H0 a
open Classical in
noncomputable def HdOf (m:List Bool) (ρ:DS) (σ:St) (H0:Hp):Hp:=fun a=>if Msk m ρ σ a then none else H0 a
section
variable {K:Frag} {Hc Hb H0 H H':Hp} {ρ:DS} {σ:St} {m:List Bool}
theorem RS.msk (R:RS K Hc Hb H0 ρ σ H) {a:Addr} (h:Msk m ρ σ a):H0 a=none/\Hb a=none/\∃o,H a=some o/\¬Imm o:=by
 obtain ⟨i,d,_,h1,h2⟩:=h
 obtain ⟨a',q1,q2,q3,q4⟩:=R.ow i d h1
 rw [h2] at q1;cases q1
 exact ⟨q2,q3,q4.some⟩
theorem z8y {a:Addr} (h:Msk m ρ σ a):HeOf m ρ σ H0 H a=H a:=by unfold HeOf;exact if_pos h
theorem z3e {a:Addr} (h:¬Msk m ρ σ a):HeOf m ρ σ H0 H a=H0 a:=by unfold HeOf;exact if_neg h
theorem z8z {a:Addr} (h:Msk m ρ σ a):HdOf m ρ σ H0 a=none:=by unfold HdOf;exact if_pos h
theorem z3f {a:Addr} (h:¬Msk m ρ σ a):HdOf m ρ σ H0 a=H0 a:=by unfold HdOf;exact if_neg h
theorem RS.he0 (R:RS K Hc Hb H0 ρ σ H) (m:List Bool):Same H0 (HeOf m ρ σ H0 H):=fun b o e=>by
 by_cases h:Msk m ρ σ b
 . rw [(R.msk h).1] at e;cases e
 . rw [z3e h];exact e
theorem RS.heH (R:RS K Hc Hb H0 ρ σ H) (m:List Bool):Same (HeOf m ρ σ H0 H) H:=fun b o e=>by
 by_cases h:Msk m ρ σ b
 . rw [z8y h] at e;exact e
 . rw [z3e h] at e;exact R.ext.2.1 b o e
theorem RS.re (R:RS K Hc Hb H0 ρ σ H) (m:List Bool):RE K (HeOf m ρ σ H0 H) (vis m ρ) σ:=by
 refine ⟨by rw [z5a];exact R.len,fun i d e=>?_⟩
 rw [zc1] at e
 cases q:ρ[i]? with
 | none=>rw [q] at e;cases e
 | some s=>
  rw [q] at e
  simp only [Option.map_some,Option.some.injEq] at e
  cases s with
  | em=>cases e
  | im d'=>
   cases e
   obtain ⟨v,h1,h2⟩:=R.im i d q
   exact ⟨v,h1,h2.mono (R.he0 m)⟩
  | ow d'=>
   simp only [Sl.see] at e
   split at e
   . rename_i hm
     cases e
     obtain ⟨a,h1,h2,h3,h4⟩:=R.ow i d q
     exact ⟨_,h1,h4.rd (R.he0 m) (z8y ⟨i,d,hm,q,h1⟩)⟩
   . cases e
noncomputable def z65 (keep:Bool) (m:List Bool) (ρ:DS):DS:=if keep=true then ρ else frz m ρ
noncomputable def keeps (fr:Bool) (d:D):Bool:=if fr=true then d.shal else d.noL
def Apt (K:Frag) (fr:Bool) (Hb H0:Hp) (ρ:DS) (σ:St) (H:Hp) (d:D) (v:V):Prop:=
 if fr=true then ∃p,v=.ref p/\H0 p=none/\Hb p=none/\OB K H0 H p d/\∀(i:Nat) e,ρ[i]?=some (.ow e)->σ[i]?≠some (some (.ref p)) else RD K H0 d v
theorem z90 {keep:Bool} {i:Nat} {d:D} (h:(z65 keep m ρ)[i]?=some (.ow d)):ρ[i]?=some (.ow d)/\(keep=false->m.getD i false=false):=by
 unfold z65 at h
 cases keep with
 | true=>exact ⟨h,fun z=>nomatch z⟩
 | false=>
  rw [if_neg Bool.false_ne_true,zc2] at h
  cases q:ρ[i]? with
  | none=>rw [q] at h;cases h
  | some s=>
   rw [q] at h
   simp only [Option.map_some,Option.some.injEq] at h
   cases s with
   | em=>cases h
   | im d'=>cases h
   | ow d'=>
    simp only [Sl.frz] at h
    split at h
    . cases h
    . rename_i hm
      cases h
      exact ⟨rfl,fun _=>by simpa using hm⟩
theorem RS.frame (R:RS K Hc Hb H0 ρ σ H) {H0':Hp} (s:Same H H') (e:Ext (HeOf m ρ σ H0 H) H H0' H') (keep:Bool) :
  ∃H0n,RS K Hc Hb H0n (z65 keep m ρ) σ H'/\TK H0' H0n/\(keep=false->H0n=H0')/\(∀p,H0' p=none->H0n p=none)/\Same H0 H0n:=by
 have hunm:∀(i:Nat) d' a,ρ[i]?=some (.ow d')->σ[i]?=some (some (.ref a))->¬Msk m ρ σ a->H0' a=none:=fun i d' a h1 h2 h3=>by
  obtain ⟨a',q1,q2,q3,q4⟩:=R.ow i d' h1
  rw [h2] at q1;cases q1
  obtain ⟨u,hu,_⟩:=q4.some
  exact e.2.2 a (z6u hu) (by rw [z3e h3];exact q2)
 have nmsk:∀{i:Nat} {d':D} {a:Addr},ρ[i]?=some (.ow d')->σ[i]?=some (some (.ref a))->m.getD i false=false->¬Msk m ρ σ a:=fun {i d' a} h1 h2 h3 ⟨j,e',q1,q2,q3⟩=>by
  have:=R.ap i j d' e' a h1 q2 h2 q3
  subst this
  rw [h3] at q1;cases q1
 cases keep with
 | true=>
  have hth:z65 true m ρ=ρ:=rfl
  have s0:Same H0 (HdOf m ρ σ H0'):=fun b u q=>by
   have hb:¬Msk m ρ σ b:=fun z=>by rw [(R.msk z).1] at q;cases q
   rw [z3f hb]
   exact e.1 b u (R.he0 m b u q)
  have tk:TK H0' (HdOf m ρ σ H0'):=fun b u hi q=>by
   have hb:¬Msk m ρ σ b:=fun z=>by
    obtain ⟨_,_,w,hw,hn⟩:=R.msk z
    have:=e.1 b w (by rw [z8y z];exact hw)
    rw [q] at this;cases this
    exact hn hi
   rw [z3f hb];exact q
  refine ⟨HdOf m ρ σ H0',⟨R.sb.trans s,⟨R.ext.1.trans s0,fun b u q=>?_,fun a h1 h2=>?_⟩,R.len,fun i d' q=>?_,fun i d' q=>?_,R.ap⟩,tk,(fun z=>nomatch z),fun p hp=>?_,s0⟩
  . by_cases hb:Msk m ρ σ b
    . rw [z8z hb] at q;cases q
    . rw [z3f hb] at q;exact e.2.1 b u q
  . by_cases hb:Msk m ρ σ a
    . exact z8z hb
    . rw [z3f hb]
      exact e.2.2 a (R.sb.ne h1) (by rw [z3e hb];exact R.ext.2.2 a h1 h2)
  . obtain ⟨w,h1,h2⟩:=R.im i d' q
    exact ⟨w,h1,h2.mono s0⟩
  . obtain ⟨a,h1,h2,h3,h4⟩:=R.ow i d' q
    refine ⟨a,h1,?_,h3,h4.mono s0 s⟩
    by_cases hb:Msk m ρ σ a
    . exact z8z hb
    . rw [z3f hb];exact hunm i d' a q h1 hb
  . by_cases hb:Msk m ρ σ p
    . exact z8z hb
    . rw [z3f hb];exact hp
 | false=>
  refine ⟨H0',⟨R.sb.trans s,?_,?_,fun i d' q=>?_,fun i d' q=>?_,fun i j d1 d2 a q1 q2=>?_⟩,fun _ _ _ z=>z,fun _=>rfl,fun _ z=>z,(R.he0 m).trans e.1⟩
  . refine ⟨R.ext.1.trans ((R.he0 m).trans e.1),e.2.1,fun a h1 h2=>e.2.2 a (R.sb.ne h1) ?_⟩
    have hb:¬Msk m ρ σ a:=fun z=>h1 (R.msk z).2.1
    rw [z3e hb];exact R.ext.2.2 a h1 h2
  . show (L2.frz m ρ).length=_
    rw [z83];exact R.len
  . have q':(L2.frz m ρ)[i]?=some (.im d'):=q
    rw [zc2] at q'
    cases hs:ρ[i]? with
    | none=>rw [hs] at q';cases q'
    | some sl=>
     rw [hs] at q'
     simp only [Option.map_some,Option.some.injEq] at q'
     cases sl with
     | em=>cases q'
     | im d2=>
      cases q'
      obtain ⟨w,h1,h2⟩:=R.im i d' hs
      exact ⟨w,h1,h2.mono ((R.he0 m).trans e.1)⟩
     | ow d2=>
      simp only [Sl.frz] at q'
      split at q'
      . rename_i hm
        cases q'
        obtain ⟨a,h1,h2,h3,h4⟩:=R.ow i d' hs
        obtain ⟨u,hu,_⟩:=h4.some
        refine ⟨_,h1,h4.rd ((R.he0 m).trans e.1) ?_⟩
        rw [hu]
        exact e.1 a u (by rw [z8y ⟨i,d',hm,hs,h1⟩];exact hu)
      . cases q'
  . obtain ⟨q1,q2⟩:=z90 q
    obtain ⟨a,h1,h2,h3,h4⟩:=R.ow i d' q1
    exact ⟨a,h1,hunm i d' a q1 h1 (nmsk q1 h1 (q2 rfl)),h3,h4.mono ((R.he0 m).trans e.1) s⟩
  . exact R.ap i j d1 d2 a (z90 q1).1 (z90 q2).1
theorem RS.out (R:RS K Hc Hb H0 ρ σ H) {fr:Bool} {d:D} {v:V} (o:Out K fr (HeOf m ρ σ H0 H) H d v H') :
  ∃H0n,RS K Hc Hb H0n (z65 (keeps fr d) m ρ) σ H'/\Apt K fr Hb H0n (z65 (keeps fr d) m ρ) σ H' d v:=by
 obtain ⟨s,H0',e,r⟩:=o
 obtain ⟨H0n,R',tk,eq,hn,_⟩:=R.frame s e (keeps fr d)
 refine ⟨H0n,R',?_⟩
 unfold Apt
 cases fr with
 | false=>
  rw [if_neg Bool.false_ne_true] at r ⊢
  cases hk:keeps false d with
  | true=>exact r.tk tk (by simpa [keeps] using hk)
  | false=>rw [eq hk];exact r
 | true=>
  rw [if_pos rfl] at r ⊢
  obtain ⟨p,rfl,hp,hp0,ob⟩:=r
  refine ⟨p,rfl,hn p hp0,R.sb.none hp,?_,fun i e' q z=>?_⟩
  . cases hk:keeps true d with
    | true=>exact ob.tk (by simpa [keeps] using hk) tk
    | false=>rw [eq hk];exact ob
  . obtain ⟨a,h1,_,_,h4⟩:=R.ow i e' (z90 q).1
    rw [z] at h1;cases h1
    obtain ⟨u,hu,_⟩:=h4.some
    rw [hp] at hu;cases hu
theorem RS.outs (R:RS K Hc Hb H0 ρ σ H) {ds:List D} {vs:List V} {H0':Hp} (s:Same H H') (e:Ext (HeOf m ρ σ H0 H) H H0' H') (r:RDs K H0' ds vs) :
  ∃H0n,RS K Hc Hb H0n (z65 (z3s ds) m ρ) σ H'/\RDs K H0n ds vs:=by
 obtain ⟨H0n,R',tk,eq,hn,_⟩:=R.frame s e (z3s ds)
 refine ⟨H0n,R',?_⟩
 cases hk:z3s ds with
 | true=>exact r.tk tk hk
 | false=>rw [eq hk];exact r
noncomputable def zj2 (fr:Bool) (i:Nat) (d:D) (ρ:DS):DS:=ρ.set i (if fr=true then .ow d else .im d)
theorem RS.put (R:RS K Hc Hb H0 ρ σ H) {fr:Bool} {d:D} {v:V} (a:Apt K fr Hb H0 ρ σ H d v) (i:Nat):RS K Hc Hb H0 (zj2 fr i d ρ) (σ.set i (some v)) H:=by
 unfold zj2
 have other:∀{j:Nat} {s:Sl},j≠i->(ρ.set i s)[j]?=ρ[j]?:=fun {j s} h=>by rw [List.getElem?_set_ne (Ne.symm h)]
 have otherσ:∀{j:Nat},j≠i->(σ.set i (some v))[j]?=σ[j]?:=fun {j} h=>by rw [List.getElem?_set_ne (Ne.symm h)]
 have here:∀{s s':Sl},(ρ.set i s)[i]?=some s'->s'=s/\(σ.set i (some v))[i]?=some (some v):=fun {s s'} h=>by
  have hi:i<ρ.length:=by
   have:=(List.getElem?_eq_some_iff.mp h).1
   simpa using this
  rw [List.getElem?_set_self hi] at h
  cases h
  exact ⟨rfl,by rw [List.getElem?_set_self (by rw [<-R.len];exact hi)]⟩
 refine ⟨R.sb,R.ext,by rw [List.length_set,List.length_set];exact R.len,fun j d' q=>?_,fun j d' q=>?_,fun j k d1 d2 b q1 q2 z1 z2=>?_⟩
 . by_cases hj:j=i
   . subst hj
     obtain ⟨h1,h2⟩:=here q
     refine ⟨v,h2,?_⟩
     cases fr with
     | false=>
      rw [if_neg Bool.false_ne_true] at h1;cases h1
      unfold Apt at a
      rw [if_neg Bool.false_ne_true] at a;exact a
     | true=>rw [if_pos rfl] at h1;cases h1
   . rw [other hj] at q
     rw [otherσ hj];exact R.im j d' q
 . by_cases hj:j=i
   . subst hj
     obtain ⟨h1,h2⟩:=here q
     cases fr with
     | false=>rw [if_neg Bool.false_ne_true] at h1;cases h1
     | true=>
      rw [if_pos rfl] at h1;cases h1
      unfold Apt at a
      rw [if_pos rfl] at a
      obtain ⟨p,rfl,a1,a2,a3,_⟩:=a
      exact ⟨p,h2,a1,a2,a3⟩
   . rw [other hj] at q
     rw [otherσ hj];exact R.ow j d' q
 . by_cases hj:j=i
   . by_cases hk:k=i
     . rw [hj,hk]
     . subst hj
       obtain ⟨h1,h2⟩:=here q1
       rw [other hk] at q2
       rw [otherσ hk] at z2
       rw [h2] at z1
       cases fr with
       | false=>rw [if_neg Bool.false_ne_true] at h1;cases h1
       | true=>
        unfold Apt at a
        rw [if_pos rfl] at a
        obtain ⟨p,rfl,_,_,_,a4⟩:=a
        cases z1
        exact absurd z2 (a4 k d2 q2)
   . by_cases hk:k=i
     . subst hk
       obtain ⟨h1,h2⟩:=here q2
       rw [other hj] at q1
       rw [otherσ hj] at z1
       rw [h2] at z2
       cases fr with
       | false=>rw [if_neg Bool.false_ne_true] at h1;cases h1
       | true=>
        unfold Apt at a
        rw [if_pos rfl] at a
        obtain ⟨p,rfl,_,_,_,a4⟩:=a
        cases z2
        exact absurd z1 (a4 j d1 q1)
     . rw [other hj] at q1
       rw [other hk] at q2
       rw [otherσ hj] at z1
       rw [otherσ hk] at z2
       exact R.ap j k d1 d2 b q1 q2 z1 z2
end
inductive SR where
 | nx (ρ:DS) | bk (ρ:DS) | ct (ρ:DS) | rt (d:D) | er (x:Ex) | st
def SK (K:Frag) (EX:XW) (fr:Bool) (Hc Hb:Hp) (De:Ends):SR->Prop
 | .nx ρ=>∀σ H H0,RS K Hc Hb H0 ρ σ H->De.nx σ H
 | .bk ρ=>∀σ H H0,RS K Hc Hb H0 ρ σ H->De.bk σ H
 | .ct ρ=>∀σ H H0,RS K Hc Hb H0 ρ σ H->De.ct σ H
 | .rt d=>∀v H,Out K fr Hc Hb d v H->De.rt v H
 | .er x=>EX.at x
 | .st=>False
noncomputable def TSd (K:Frag) (EX:XW) (fr:Bool) (g:DS->SR):TS:=fun De σ H=>∃Hc Hb H0 ρ,Same EX.hb Hb/\RS K Hc Hb H0 ρ σ H/\SK K EX fr Hc Hb De (g ρ)
noncomputable def R.toS {α:Type} (r:R α) (k:α->SR):SR:=match r with
 | .ok a=>k a
 | .er x=>.er x
 | .st=>.st
noncomputable def sNx:DS->SR:=fun ρ=>.nx ρ
noncomputable def z1h (g1 g2:DS->SR):DS->SR:=fun ρ=>match g1 ρ with
 | .nx ρ'=>g2 ρ'
 | r=>r
noncomputable def see (ρ:DS):DE:=ρ.map (Sl.see true)
noncomputable def sIf (t:DE->R Bool) (g1 g2:DS->SR):DS->SR:=fun ρ=>(t (see ρ)).toS fun b=>if b=true then g1 ρ else g2 ρ
noncomputable def z30 (fr:Bool) (i:Nat) (m:List Bool) (f:DE->R D):DS->SR:=fun ρ=>(f (vis m ρ)).toS fun d=>.nx (zj2 fr i d (z65 (keeps fr d) m ρ))
noncomputable def z6e (m:List Bool) (f:DE->R D):DS->SR:=fun ρ=>(f (vis m ρ)).toS fun d=>.rt d
noncomputable def zxl:DS->SR:=fun _=>.rt .non
noncomputable def z7s (i:Nat):DS->SR:=fun ρ=>match ρ[i]? with
 | some (.ow d)=>.rt d
 | _=>.st
noncomputable def z22 (f:DE->R D):DS->SR:=fun ρ=>(f (see ρ)).toS fun _=>.nx ρ
section
variable {K:Frag} {EX:XW} {fr:Bool} {Hc Hb H0 H H':Hp} {ρ:DS} {σ:St} {De:Ends} {m:List Bool}
theorem SK.toS {α:Type} {r:R α} {k:α->SR}:SK K EX fr Hc Hb De (r.toS k)=Rk EX.at r fun a=>SK K EX fr Hc Hb De (k a):=by cases r<;>rfl
theorem z41:∀(ρ:DS),vis (List.replicate ρ.length true) ρ=see ρ
 | []=>rfl
 | s::r=>by
  show s.see true::vis (List.replicate r.length true) r=_
  rw [z41 r];rfl
theorem RS.extE (R:RS K Hc Hb H0 ρ σ H) (m:List Bool):Ext Hc Hb (HeOf m ρ σ H0 H) H:=
 ⟨R.ext.1.trans (R.he0 m),R.heH m,fun a h1 h2=>by
  have hb:¬Msk m ρ σ a:=fun z=>h1 (R.msk z).2.1
  rw [z3e hb];exact R.ext.2.2 a h1 h2⟩
theorem RS.te (I:RS K Hc Hb H0 ρ σ H) (sb:Same EX.hb Hb) {f:DE->R D} {fr':Bool} {k:D->Prop} {Q:VK} (h:Rk EX.at (f (vis m ρ)) k)
  (hk:∀d,k d->∀v H' H0n,RS K Hc Hb H0n (z65 (keeps fr' d) m ρ) σ H'->Apt K fr' Hb H0n (z65 (keeps fr' d) m ρ) σ H' d v->Q v H'):TEd K EX fr' f σ H Q:=
 ⟨sb.trans I.sb,vis m ρ,HeOf m ρ σ H0 H,I.heH m,I.re m,h.mono fun d z v H' o=>by
  obtain ⟨H0n,R',a⟩:=I.out o
  exact hk d z v H' H0n R' a⟩
theorem RS.tt (I:RS K Hc Hb H0 ρ σ H) (sb:Same EX.hb Hb) {f:DE->R Bool} {k:Bool->Prop} {Q:Bool->Hp->Prop} (h:Rk EX.at (f (see ρ)) k) (hk:∀b,k b->∀H',RS K Hc Hb H0 ρ σ H'->Q b H'):TTd K EX f σ H Q:=by
 refine ⟨sb.trans I.sb,see ρ,HeOf (List.replicate ρ.length true) ρ σ H0 H,I.heH _,?_,h.mono fun b z H' s=>hk b z H' (I.grow s)⟩
 rw [<-z41];exact I.re _
theorem y19 (h:TSd K EX fr sNx De σ H):zr4 De σ H:=by
 obtain ⟨Hc,Hb,H0,ρ,sb,R,h⟩:=h
 exact h σ H H0 R
theorem zxm {g1 g2:DS->SR} (h:TSd K EX fr (z1h g1 g2) De σ H):zzv (TSd K EX fr g1) (TSd K EX fr g2) De σ H:=by
 obtain ⟨Hc,Hb,H0,ρ,sb,R,h⟩:=h
 refine ⟨Hc,Hb,H0,ρ,sb,R,?_⟩
 unfold z1h at h
 cases q:g1 ρ with
 | nx ρ'=>rw [q] at h;exact fun σ' H' H0' R'=>⟨Hc,Hb,H0',ρ',sb,R',h⟩
 | bk ρ'=>rw [q] at h;exact h
 | ct ρ'=>rw [q] at h;exact h
 | rt d=>rw [q] at h;exact h
 | er x=>rw [q] at h;exact h
 | st=>rw [q] at h;exact h
theorem zxn {t:DE->R Bool} {g1 g2:DS->SR} (h:TSd K EX fr (sIf t g1 g2) De σ H):zzw (TTd K EX t) (TSd K EX fr g1) (TSd K EX fr g2) De σ H:=by
 obtain ⟨Hc,Hb,H0,ρ,sb,R,h⟩:=h
 unfold sIf at h
 rw [SK.toS] at h
 refine R.tt sb h fun b h H' R'=>?_
 cases b with
 | true=>exact ⟨Hc,Hb,H0,ρ,sb,R',h⟩
 | false=>exact ⟨Hc,Hb,H0,ρ,sb,R',h⟩
theorem zno {i:Nat} {f:DE->R D} {fr':Bool} (h:TSd K EX fr (z30 fr' i m f) De σ H):zkv (TEd K EX fr' f) (z8k i) De σ H:=by
 obtain ⟨Hc,Hb,H0,ρ,sb,R,h⟩:=h
 unfold z30 at h
 rw [SK.toS] at h
 exact R.te sb h fun d h v H' H0n R' a=>h _ H' H0n (R'.put a i)
theorem zxo {f:DE->R D} (h:TSd K EX fr (z6e m f) De σ H):zwm (TEd K EX fr f) De σ H:=by
 obtain ⟨Hc,Hb,H0,ρ,sb,R,h⟩:=h
 unfold z6e at h
 rw [SK.toS] at h
 exact ⟨sb.trans R.sb,vis m ρ,HeOf m ρ σ H0 H,R.heH m,R.re m,h.mono fun d z v H' o=>z v H' (o.after R.sb (R.extE m))⟩
theorem zs5 {i:Nat} (h:TSd K EX true (z7s i) De σ H):zwm (zbw i) De σ H:=by
 obtain ⟨Hc,Hb,H0,ρ,sb,R,h⟩:=h
 unfold z7s at h
 split at h
 . rename_i d q
   obtain ⟨a,h1,h2,h3,h4⟩:=R.ow i d q
   show zbw i σ H De.rt
   unfold zbw
   rw [h1]
   exact h _ H (.fresh R.sb R.ext h3 h2 h4)
 . exact h.elim
theorem zs6 {f:DE->R D} (h:TSd K EX fr (z22 f) De σ H):ze4 (TEd K EX false f) De σ H:=by
 obtain ⟨Hc,Hb,H0,ρ,sb,R,h⟩:=h
 unfold z22 at h
 rw [SK.toS] at h
 refine ⟨sb.trans R.sb,see ρ,HeOf (List.replicate ρ.length true) ρ σ H0 H,R.heH _,by rw [<-z41];exact R.re _,h.mono fun d z v H' o=>?_⟩
 exact z σ H' H0 (R.grow o.1)
theorem RS.mutate (R:RS K Hc Hb H0 ρ σ H) {i:Nat} {d d':D} {a:Addr} {o:HO} (h:ρ[i]?=some (.ow d)) (ha:σ[i]?=some (some (.ref a))) (ob:OB K H0 (upd H a o) a d'):RS K Hc Hb H0 (ρ.set i (.ow d')) σ (upd H a o):=by
 obtain ⟨a',q1,q2,q3,q4⟩:=R.ow i d h
 rw [ha] at q1;cases q1
 have hi:i<ρ.length:=(List.getElem?_eq_some_iff.mp h).1
 have other:∀{j:Nat} {s:Sl},j≠i->(ρ.set i s)[j]?=ρ[j]?:=fun {j s} h=>by rw [List.getElem?_set_ne (Ne.symm h)]
 have here:(ρ.set i (.ow d'))[i]?=some (.ow d'):=by rw [List.getElem?_set_self hi]
 have sm:∀{H1:Hp},Same H1 H->H1 a=none->Same H1 (upd H a o):=fun s n=>s.upd_at n
 refine ⟨sm R.sb q3,⟨R.ext.1,sm R.ext.2.1 q2,R.ext.2.2⟩,by rw [List.length_set];exact R.len,fun j d2 q=>?_,fun j d2 q=>?_,fun j k d1 d2 b z1 z2=>?_⟩
 . have hj:j≠i:=fun z=>by subst z;rw [here] at q;cases q
   rw [other hj] at q
   exact R.im j d2 q
 . by_cases hj:j=i
   . subst hj
     rw [here] at q;cases q
     exact ⟨a,ha,q2,q3,ob⟩
   . rw [other hj] at q
     obtain ⟨b,h1,h2,h3,h4⟩:=R.ow j d2 q
     have hb:b≠a:=fun z=>hj (R.ap j i d2 d b q h h1 (by rw [z];exact ha))
     exact ⟨b,h1,h2,h3,h4.at (z02 hb)⟩
 . have back:∀{j:Nat} {d1:D},(ρ.set i (.ow d'))[j]?=some (.ow d1)->∃d0,ρ[j]?=some (.ow d0):=fun {j d1} z=>by
    by_cases hj:j=i
    . subst hj;exact ⟨d,h⟩
    . rw [other hj] at z;exact ⟨_,z⟩
   obtain ⟨e1,z1⟩:=back z1
   obtain ⟨e2,z2⟩:=back z2
   exact R.ap j k e1 e2 b z1 z2
def znp (K:Frag) (mt:D->List D->Option D) (r:V->List V->Hp->VK->Prop):Prop:=∀(H0 H:Hp) (a:Addr) (d d':D) (ds:List D) (vs:List V) (Q:VK),Same H0 H->H0 a=none->OB K H0 H a d->RDs K H0 ds vs->mt d ds=some d' ->
 (∀v o,OB K H0 (upd H a o) a d'->Q v (upd H a o))->r (.ref a) vs H Q
noncomputable def isT (T:String):D->Bool
 | .lst _=>T=="list"
 | .dk _ _=>T=="dict"
 | .dt _ _=>T=="dict"
 | _=>false
def TyD (K:Frag) (T:String):Prop:=∀(H0 H:Hp) (a:Addr) (d:D),OB K H0 H a d->isT T d=true->tyV K T (.ref a) H
noncomputable def znq (T:String) (mt:D->List D->Option D) (i:Nat) (m:List Bool) (fs:DE->R (List D)):DS->SR:=fun ρ=>match ρ[i]? with
 | some (.ow d0)=>if isT T d0=true then (fs (vis m ρ)).toS fun ds=>match (z65 (z3s ds) m ρ)[i]? with
  | some (.ow d)=>(R.of (mt d ds)).toS fun d'=>.nx ((z65 (z3s ds) m ρ).set i (.ow d'))
  | _=>.st
  else .st
 | _=>.st
theorem zxp {T:String} {mt:D->List D->Option D} {r:V->List V->Hp->VK->Prop} {i:Nat} {fs:DE->R (List D)} (hm:znp K mt r) (hT:TyD K T) (h:TSd K EX fr (znq T mt i m fs) De σ H) :
  ze4 (tBM K T r (zbw i) (TAd K EX fs)) De σ H:=by
 obtain ⟨Hc,Hb,H0,ρ,sb,R,h⟩:=h
 unfold znq at h
 split at h
 . rename_i d0 q0
   split at h
   . rename_i hty
     rw [SK.toS] at h
     obtain ⟨a,h1,h2,h3,h4⟩:=R.ow i d0 q0
     unfold ze4 tBM zbw
     rw [h1]
     refine ⟨hT H0 H a d0 h4 hty,sb.trans R.sb,vis m ρ,HeOf m ρ σ H0 H,R.heH m,R.re m,h.mono fun ds h vs H' H0' s e rds=>?_⟩
     obtain ⟨H0n,R',rd'⟩:=R.outs s e rds
     split at h
     . rename_i d q
       rw [SK.toS] at h
       obtain ⟨d',hd',h⟩:=h.of
       obtain ⟨a',z1,z2,z3,z4⟩:=R'.ow i d q
       rw [h1] at z1;cases z1
       exact hm H0n H' a d d' ds vs _ R'.ext.2.1 z2 z4 rd' hd' fun v o ob=>h σ _ H0n (R'.mutate q h1 ob)
     . exact h.elim
   . exact h.elim
 . exact h.elim
noncomputable def zxq (T:String) (mt:D->List D->Option D) (i:Nat):DS->SR:=fun ρ=>match ρ[i]? with
 | some (.ow d)=>if isT T d=true then (R.of (mt d [])).toS fun d'=>.nx (ρ.set i (.ow d')) else .st
 | _=>.st
def zxr (K:Frag) (st:D->D->D->Option D) (r:zmw):Prop:=∀(H0 H:Hp) (a:Addr) (d d' dk dv:D) (y v:V) (Q:Hp->Prop),Same H0 H->H0 a=none->OB K H0 H a d->RD K H0 dk y->RD K H0 dv v->st d dk dv=some d' ->
 (∀o,OB K H0 (upd H a o) a d'->Q (upd H a o))->r (.ref a) y v H Q
noncomputable def zij (st:D->D->D->Option D) (i:Nat) (m:List Bool) (fk fv:DE->R D):DS->SR:=fun ρ=>(fv (vis m ρ)).toS fun dv=>match (z65 (keeps false dv) m ρ)[i]? with
 | some (.ow _)=>(fk (vis m (z65 (keeps false dv) m ρ))).toS fun dk=>(match (z65 (keeps false dk) m (z65 (keeps false dv) m ρ))[i]? with
  | some (.ow d)=>(R.of (st d dk dv)).toS fun d'=>.nx ((z65 (keeps false dk) m (z65 (keeps false dv) m ρ)).set i (.ow d'))
  | _=>.st)
 | _=>.st
theorem Apt.rd {ρ:DS} {d:D} {v:V} (a:Apt K false Hb H0 ρ σ H d v):RD K H0 d v:=by
 unfold Apt at a
 rw [if_neg Bool.false_ne_true] at a;exact a
end
section
variable {K:Frag} {EX:XW} {fr:Bool} {Hc Hb H0 H H':Hp} {ρ:DS} {σ:St} {De:Ends} {m:List Bool}
theorem zs7 {st:D->D->D->Option D} {r:zmw} {i:Nat} {fk fv:DE->R D} (hs:zxr K st r) (h:TSd K EX fr (zij st i m fk fv) De σ H) :
  zkv (TEd K EX false fv) (zwp (zbw i) (TEd K EX false fk) r) De σ H:=by
 obtain ⟨Hc,Hb,H0,ρ,sb,I,h⟩:=h
 unfold zij at h
 rw [SK.toS] at h
 refine I.te sb h fun dv h v H1 H1n I1 a1=>?_
 split at h
 . rename_i d0 q0
   rw [SK.toS] at h
   obtain ⟨a,h1,h2,h3,h4⟩:=I1.ow i d0 q0
   unfold zwp zbw
   rw [h1]
   refine ⟨sb.trans I1.sb,vis m _,HeOf m _ σ H1n H1,I1.heH m,I1.re m,h.mono fun dk h y H2 o2=>?_⟩
   obtain ⟨s2,H2',e2,r2⟩:=o2.rd
   obtain ⟨H2n,I2,tk,eq,hn,sub⟩:=I1.frame s2 e2 (keeps false dk)
   have r2':RD K H2n dk y:=by
    cases hk:keeps false dk with
    | true=>exact r2.tk tk (by simpa [keeps] using hk)
    | false=>rw [eq hk];exact r2
   split at h
   . rename_i d q
     rw [SK.toS] at h
     obtain ⟨d',hd',h⟩:=h.of
     obtain ⟨a',z1,z2,z3,z4⟩:=I2.ow i d q
     rw [h1] at z1;cases z1
     exact hs H2n H2 a d d' dk dv y v _ I2.ext.2.1 z2 z4 r2' (a1.rd.mono sub) hd' fun o ob=>h σ _ H2n (I2.mutate q h1 ob)
   . exact h.elim
 . exact h.elim
inductive Tg where
 | n (i:Nat) | t (is:List Nat)
noncomputable def zd3:List Nat->List D->DS->DS
 | i::is,d::ds,ρ=>zd3 is ds (zj2 false i d ρ)
 | _,_,ρ=>ρ
noncomputable def items:D->Option (List D)
 | .tup ds=>some ds
 | .lst ds=>some ds
 | _=>none
noncomputable def zl6:Tg->D->DS->Option DS
 | .n i,d,ρ=>some (zj2 false i d ρ)
 | .t is,d,ρ=>(items d).bind fun ds=>if ds.length=is.length then some (zd3 is ds ρ) else none
noncomputable def TGd (K:Frag) (tg:Tg):TG:=fun v σ H Q=>∃Hc Hb H0 ρ d ρ',RS K Hc Hb H0 ρ σ H/\RD K H0 d v/\zl6 tg d ρ=some ρ'/\∀σ',RS K Hc Hb H0 ρ' σ' H->Q σ' H
theorem RS.putI (I:RS K Hc Hb H0 ρ σ H) {d:D} {v:V} (r:RD K H0 d v) (i:Nat):RS K Hc Hb H0 (zj2 false i d ρ) (σ.set i (some v)) H:=
 I.put (fr:=false) (by unfold Apt;rw [if_neg Bool.false_ne_true];exact r) i
theorem y1a {i:Nat} {v:V} {Q:St->Hp->Prop} (h:TGd K (.n i) v σ H Q):z8k i v σ H Q:=by
 obtain ⟨Hc,Hb,H0,ρ,d,ρ',I,r,e,q⟩:=h
 simp only [zl6,Option.some.injEq] at e
 subst e
 exact q _ (I.putI r i)
noncomputable def zd4:List Nat->TGs
 | []=>zrv
 | i::is=>zl2 (z8k i) (zd4 is)
theorem z6v:∀(is:List Nat) {ds:List D} {xs:List V} {ρ:DS} {σ:St} {Q:St->Hp->Prop},RS K Hc Hb H0 ρ σ H->RDs K H0 ds xs->ds.length=is.length->(∀σ',RS K Hc Hb H0 (zd3 is ds ρ) σ' H->Q σ' H)->zd4 is xs σ H Q
 | [],[],_,ρ,σ,Q,I,r,_,q=>by
  simp only [RDs] at r;subst r
  exact q σ I
 | [],_::_,_,_,_,_,_,_,hl,_=>by simp at hl
 | _::_,[],_,_,_,_,_,_,hl,_=>by simp at hl
 | i::is,d::ds,_,ρ,σ,Q,I,r,hl,q=>by
  simp only [RDs] at r
  obtain ⟨x,xs,rfl,r1,r2⟩:=r
  exact z6v is (I.putI r1 i) r2 (by simpa using hl) q
theorem y1b {is:List Nat} {v:V} {Q:St->Hp->Prop} (h:TGd K (.t is) v σ H Q):zft is.length (zd4 is) v σ H Q:=by
 obtain ⟨Hc,Hb,H0,ρ,d,ρ',I,r,e,q⟩:=h
 simp only [zl6] at e
 cases d<;>simp only [items,Option.bind_none,Option.bind_some] at e<;>first | cases e | skip
 . rename_i ds
   split at e
   . rename_i hl
     cases e
     simp only [RD] at r
     obtain ⟨a,xs,rfl,ha,rs⟩:=r
     unfold zft
     simp only [I.ext.2.1 a _ ha]
     exact ⟨by rw [<-rs.length];exact hl,z6v is I rs hl q⟩
   . cases e
 . rename_i ds
   split at e
   . rename_i hl
     cases e
     simp only [RD] at r
     obtain ⟨a,xs,rfl,ha,rs⟩:=r
     unfold zft
     simp only [I.ext.2.1 a _ ha]
     exact ⟨by rw [<-rs.length];exact hl,z6v is I rs hl q⟩
   . cases e
noncomputable def y1c (tg:Tg) (m:List Bool) (f:DE->R D):DS->SR:=fun ρ=>(f (vis m ρ)).toS fun d=>match zl6 tg d (z65 (keeps false d) m ρ) with
 | some ρ'=>.nx ρ'
 | none=>.st
noncomputable def Hno:Hp:=fun _=>none
def zqo (K:Frag) (J:It) (H0:Hp) (ds:List D):Prop:=
 (∀(i:Nat) d,ds[i]?=some d->∀H H1,Same H0 H1->Same H1 H->J.go i H/\∀x H',J.yld i H x H'->Same H H'/\∃H1',Ext H1 H H1' H'/\RD K H1' d x)/\∀H,Same H0 H->J.stop ds.length H
noncomputable def TId (K:Frag) (EX:XW) (kp:Bool) (f:DE->R (List D)):TI:=fun σ H Q=>Same EX.hb H/\∃ρ H0,Same H0 H/\RE K H0 ρ σ/\Rk EX.at (f ρ) fun ds=>∀J H' H0',Same H H'->Ext H0 H H0' H'->zqo K J (if kp=true then Hno else H0') ds->Q J H'
noncomputable def zd5 (tg:Tg) (g:DS->SR):List D->DS->SR
 | [],ρ=>.nx ρ
 | d::ds,ρ=>match zl6 tg d ρ with
  | none=>.st
  | some ρ1=>match g ρ1 with
   | .nx ρ2=>zd5 tg g ds ρ2
   | .ct ρ2=>zd5 tg g ds ρ2
   | .bk ρ2=>.nx ρ2
   | .rt d=>.rt d
   | .er x=>.er x
   | .st=>.st
noncomputable def zee (kp:Bool) (m:List Bool) (f:DE->R (List D)) (tg:Tg) (g:DS->SR):DS->SR:=fun ρ=>(f (vis m ρ)).toS fun ds=>zd5 tg g ds (z65 kp m ρ)
theorem Ext.base {Hc':Hp} (a:Ext Hc Hb Hc' H) (b:Ext Hc' Hb H0 H'):Ext Hc Hb H0 H':=⟨a.1.trans b.1,b.2.1,fun c h1 h2=>b.2.2 c h1 (a.2.2 c h1 h2)⟩
theorem RS.base {Hc' H1:Hp} (a:Ext Hc Hb Hc' H1) (I:RS K Hc' Hb H0 ρ σ H):RS K Hc Hb H0 ρ σ H:=⟨I.sb,a.base I.ext,I.len,I.im,I.ow,I.ap⟩
theorem RS.self (I:RS K Hc Hb H0 ρ σ H):RS K H0 Hb H0 ρ σ H:=⟨I.sb,⟨Same.refl _,I.ext.2.1,fun _ _ z=>z⟩,I.len,I.im,I.ow,I.ap⟩
theorem Out.base {Hc':Hp} {d:D} {v:V} (a:Ext Hc Hb Hc' H) (o:Out K fr Hc' Hb d v H'):Out K fr Hc Hb d v H':=by
 obtain ⟨s,H0',e,r⟩:=o
 exact ⟨s,H0',a.base e,r⟩
theorem RS.sees {H1':Hp} (I:RS K Hc Hb H0 ρ σ H) (s:Same H H') (e:Ext H0 H H1' H'):RS K Hc Hb H1' ρ σ H':=
 ⟨I.sb.trans s,⟨I.ext.1.trans e.1,e.2.1,fun a h1 h2=>e.2.2 a (I.sb.ne h1) (I.ext.2.2 a h1 h2)⟩,I.len,fun i d q=>by
  obtain ⟨v,h1,h2⟩:=I.im i d q
  exact ⟨v,h1,h2.mono e.1⟩,fun i d q=>by
  obtain ⟨a,h1,h2,h3,h4⟩:=I.ow i d q
  obtain ⟨u,hu,_⟩:=h4.some
  exact ⟨a,h1,e.2.2 a (z6u hu) h2,h3,h4.mono e.1 s⟩,I.ap⟩
theorem y1d {J:It} {Hn H1:Hp} {ρ:DS} {ds:List D} {tg:Tg} {g:DS->SR} (sb:Same EX.hb Hb) (I1:RS K Hc Hb Hn ρ σ H1) (it':zqo K J Hn ds) (h:SK K EX fr Hc Hb De (zd5 tg g ds ρ)):y09 J (TGd K tg) (TSd K EX fr g) De σ H1:=by
 have ex1:Ext Hc Hb Hn H1:=I1.ext
 refine ⟨fun i mm σ H=>mm=ds.length - i/\i<=ds.length/\∃ρ H0,RS K Hn Hb H0 ρ σ H/\SK K EX fr Hc Hb De (zd5 tg g (ds.drop i) ρ),⟨ds.length,by simp,Nat.zero_le _,_,Hn,I1.self,h⟩,?_⟩
 rintro i mm σ H ⟨rfl,hi,ρ,H0,I2,h⟩
 have sn:Same Hn H0:=I2.ext.1
 by_cases hlt:i<ds.length
 . have hd:ds[i]?=some ds[i]:=by simp [hlt]
   obtain ⟨hgo,hy⟩:=it'.1 i _ hd H H0 sn I2.ext.2.1
   have hdr:ds.drop i=ds[i]::ds.drop (i+1):=List.drop_eq_getElem_cons hlt
   rw [hdr] at h
   refine .inr ⟨hgo,fun σ' H'=>∃ρ' H0',RS K Hn Hb H0' ρ' σ' H'/\SK K EX fr Hc Hb De (zd5 tg g (ds.drop (i+1)) ρ'),fun σ' H' ⟨ρ',H0',q⟩=>⟨ds.length - (i+1),by omega,rfl,hlt,ρ',H0',q⟩,fun x H' y=>?_⟩
   obtain ⟨s3,H3,e3,r3⟩:=hy x H' y
   have I3:=I2.sees s3 e3
   unfold zd5 at h
   split at h
   . exact h.elim
   . rename_i ρ1 q1
     refine ⟨Hn,Hb,H3,ρ,ds[i],ρ1,I3,r3,q1,fun σ' I4=>⟨Hn,Hb,H3,ρ1,sb,I4,?_⟩⟩
     cases qg:g ρ1 with
     | nx ρ2=>rw [qg] at h;exact fun σ5 H5 H05 I5=>⟨ρ2,H05,I5,h⟩
     | ct ρ2=>rw [qg] at h;exact fun σ5 H5 H05 I5=>⟨ρ2,H05,I5,h⟩
     | bk ρ2=>rw [qg] at h;exact fun σ5 H5 H05 I5=>h σ5 H5 H05 (I5.base ex1)
     | rt d=>rw [qg] at h;exact fun v H5 o=>h v H5 (o.base ex1)
     | er x=>rw [qg] at h;exact h
     | st=>rw [qg] at h;exact h
 . have e:i=ds.length:=by omega
   subst e
   rw [List.drop_length] at h
   refine .inl ⟨it'.2 H (sn.trans I2.ext.2.1),?_⟩
   exact h σ H H0 (I2.base ex1)
theorem zxs {kp:Bool} {f:DE->R (List D)} {tg:Tg} {g:DS->SR} (h:TSd K EX fr (zee kp m f tg g) De σ H):zrt (TId K EX kp f) (TGd K tg) (TSd K EX fr g) De σ H:=by
 obtain ⟨Hc,Hb,H0,ρ,sb,I,h⟩:=h
 unfold zee at h
 rw [SK.toS] at h
 refine ⟨sb.trans I.sb,vis m ρ,HeOf m ρ σ H0 H,I.heH m,I.re m,h.mono fun ds h J H1 H1' s1 e1 it=>?_⟩
 obtain ⟨Hn,I1,tk,eq,hn,sub⟩:=I.frame s1 e1 kp
 have it':zqo K J Hn ds:=by
  cases kp with
  | true=>
   rw [if_pos rfl] at it
   exact ⟨fun i d q H H1 a b=>it.1 i d q H H1 (fun _ _ z=>nomatch z) b,fun H a=>it.2 H fun _ _ z=>nomatch z⟩
  | false=>rw [if_neg Bool.false_ne_true,<-eq rfl] at it;exact it
 exact y1d sb I1 it' h
noncomputable def z4f (t:DE->R Bool) (g:DS->SR):Nat->DS->SR
 | 0,_=>.st
 | n+1,ρ=>(t (see ρ)).toS fun b=>if b=true then (match g ρ with
  | .nx ρ2=>z4f t g n ρ2
  | .ct ρ2=>z4f t g n ρ2
  | .bk ρ2=>.nx ρ2
  | .rt d=>.rt d
  | .er x=>.er x
  | .st=>.st) else .nx ρ
noncomputable def zah (n:Nat) (t:DE->R Bool) (g:DS->SR):DS->SR:=z4f t g n
theorem znr {n:Nat} {t:DE->R Bool} {g:DS->SR} (h:TSd K EX fr (zah n t g) De σ H):zkx (TTd K EX t) (TSd K EX fr g) De σ H:=by
 obtain ⟨Hc,Hb,H0,ρ,sb,I,h⟩:=h
 refine ⟨fun mm σ H=>∃ρ H0,RS K Hc Hb H0 ρ σ H/\SK K EX fr Hc Hb De (z4f t g mm ρ),⟨n,ρ,H0,I,h⟩,?_⟩
 rintro mm σ H ⟨ρ,H0,I,h⟩
 cases mm with
 | zero=>exact h.elim
 | succ mm=>
  unfold z4f at h
  rw [SK.toS] at h
  refine I.tt sb h fun b h H' I'=>?_
  cases b with
  | false=>exact h σ H' H0 I'
  | true=>
   rw [if_pos rfl] at h ⊢
   refine ⟨fun σ' H'=>∃ρ' H0',RS K Hc Hb H0' ρ' σ' H'/\SK K EX fr Hc Hb De (z4f t g mm ρ'),fun σ' H' q=>⟨mm,Nat.lt_succ_self _,q⟩,Hc,Hb,H0,ρ,sb,I',?_⟩
   cases qg:g ρ with
   | nx ρ2=>rw [qg] at h;exact fun σ5 H5 H05 I5=>⟨ρ2,H05,I5,h⟩
   | ct ρ2=>rw [qg] at h;exact fun σ5 H5 H05 I5=>⟨ρ2,H05,I5,h⟩
   | bk ρ2=>rw [qg] at h;exact fun σ5 H5 H05 I5=>h σ5 H5 H05 I5
   | rt d=>rw [qg] at h;exact fun v H5 o=>h v H5 o
   | er x=>rw [qg] at h;exact h
   | st=>rw [qg] at h;exact h
noncomputable def R.noE {α:Type} (r:R α):R α:=match r with
 | .er _=>.st
 | r=>r
theorem Rk.noE {α:Type} {EX EX':Ex->Prop} {r:R α} {k:α->Prop} (h:Rk EX r.noE k):Rk EX' r k:=by
 cases r with
 | ok a=>exact h
 | er x=>exact h.elim
 | st=>exact h
def BD (K:Frag) (bn:D->Option (List D)) (B:V->Hp->(List V->Hp->Prop)->Prop):Prop:=∀(H0 H:Hp) (x:V) (d:D) (ds:List D) (Q:List V->Hp->Prop),Same H0 H->RD K H0 d x->bn d=some ds->(∀vs,RDs K H0 ds vs->Q vs H)->B x H Q
noncomputable def b1:D->Option (List D):=fun d=>some [d]
theorem zxt:BD K b1 cB1:=fun H0 H x d ds Q s r e q=>by
 simp only [b1,Option.some.injEq] at e
 subst e
 exact q [x] (.one r)
noncomputable def sel (ix:List Nat) (ρ:DE):DE:=ix.map fun j=>(ρ[j]?).getD none
noncomputable def z66 (bn:D->Option (List D)) (t:DE->R Bool) (f:DE->R D) (cs:DE):List D->R (List D)
 | []=>.ok []
 | d::ds=>(R.of (bn d)).bind fun bs=>(t (bs.map some++cs)).noE.bind fun b=>if b=true then (f (bs.map some++cs)).noE.bind fun y=>(z66 bn t f cs ds).bind fun ys=>.ok (y::ys) else z66 bn t f cs ds
noncomputable def z4g (fi:DE->R (List D)) (bn:D->Option (List D)) (ix:List Nat) (t:DE->R Bool) (f:DE->R D):DE->R D:=fun ρ=>(fi ρ).bind fun ds=>if ds.length<=100000 then (z66 bn t f (sel ix ρ) ds).bind fun ys=>.ok (.lst ys) else .st
theorem RE.sel {ρ:DE} {vs:List V} {ds:List D} (h:RE K H0 ρ σ) (r:RDs K H0 ds vs) (ix:List Nat):RE K H0 (ds.map some++sel ix ρ) (vs.map some++z6r ix σ):=by
 have hl:=r.length
 refine ⟨by simp [L2.sel,z6r,hl],fun i d e=>?_⟩
 by_cases hi:i<ds.length
 . rw [List.getElem?_append_left (by simpa using hi),List.getElem?_map] at e
   rw [List.getElem?_append_left (by simpa [<-hl] using hi),List.getElem?_map]
   cases q:ds[i]? with
   | none=>rw [q] at e;cases e
   | some d'=>
    rw [q] at e;cases e
    obtain ⟨x,h1,h2⟩:=r.get' q
    exact ⟨x,by rw [h1];rfl,h2⟩
 . rw [List.getElem?_append_right (by simpa using hi)] at e
   rw [List.getElem?_append_right (by simpa [<-hl] using hi)]
   simp only [List.length_map] at e ⊢
   rw [<-hl]
   unfold L2.sel at e
   unfold z6r
   rw [List.getElem?_map] at e ⊢
   cases q:ix[i - ds.length]? with
   | none=>rw [q] at e;cases e
   | some j=>
    rw [q] at e
    simp only [Option.map_some,Option.some.injEq] at e ⊢
    cases qj:ρ[j]? with
    | none=>rw [qj] at e;cases e
    | some o=>
     rw [qj] at e
     simp only [Option.getD_some] at e
     subst e
     obtain ⟨v,h1,h2⟩:=h.2 j d qj
     exact ⟨v,by rw [h1];rfl,h2⟩
theorem z1p {n:Nat} (h:n<100000):n<sizeLine:=Nat.lt_of_lt_of_le h (by decide)
theorem zg0 {W:XW} {kp:Bool} {fi:DE->R (List D)} {bn:D->Option (List D)} {B:V->Hp->(List V->Hp->Prop)->Prop} {ix:List Nat} {t:DE->R Bool} {f:DE->R D} {Q:VK} {tt:TT} (hW:Same W.hb EX.hb) (hB:BD K bn B) (htt:∀σ H Q,TTd K F0 t σ H Q->tt σ H Q)
  (h:TEd K EX true (z4g fi bn ix t f) σ H Q):zeb (TId K EX kp fi) B ix tt (TEd K W false f) σ H Q:=by
 obtain ⟨sx,ρ,H0,s,e,h⟩:=h
 unfold z4g at h
 rw [Rk.bind] at h
 refine ⟨sx,ρ,H0,s,e,h.mono fun ds h J H1 H1' s1 e1 it D hD=>?_⟩
 split at h
 . rename_i hsz
   rw [Rk.bind] at h
   have it':zqo K J H1' ds:=by
    cases kp with
    | true=>rw [if_pos rfl] at it;exact ⟨fun i d q H H1 a b=>it.1 i d q H H1 (fun _ _ z=>nomatch z) b,fun H a=>it.2 H fun _ _ z=>nomatch z⟩
    | false=>rw [if_neg Bool.false_ne_true] at it;exact it
   have e':=e.mono e1.1
   have hDn:H1' D=none:=e1.2.1.none hD
   refine ⟨fun i mm ys H2=>mm=ds.length - i/\i<=ds.length/\ys.length<=i/\∃acc H2',Same H1 H2/\H2 D=some (.lst ys)/\Ext H1' H1 H2' H2/\H2' D=none/\RDs K H2' acc ys /\
    Rk EX.at (z66 bn t f (L2.sel ix ρ) (ds.drop i)) fun rest=>∀v H',Out K true H0 H (.lst (acc++rest)) v H'->Q v H',⟨ds.length,by simp,Nat.zero_le _,Nat.le_refl _,[],H1',Same.upd_new hD,z05,(Ext.refl e1.2.1).grow (Same.upd_new hD),hDn,.nil,h⟩,?_⟩
   rintro i mm ys H2 ⟨rfl,hi,hys,acc,H2',s2,hd2,e2,hdn2,r2,h⟩
   refine ⟨hd2,?_⟩
   by_cases hlt:i<ds.length
   . have hd:ds[i]?=some ds[i]:=by simp [hlt]
     obtain ⟨hgo,hy⟩:=it'.1 i _ hd H2 H2' e2.1 e2.2.1
     have hdr:ds.drop i=ds[i]::ds.drop (i+1):=List.drop_eq_getElem_cons hlt
     rw [hdr] at h
     unfold z66 at h
     rw [Rk.bind] at h
     obtain ⟨bs,hbs,h⟩:=h.of
     rw [Rk.bind] at h
     refine .inr ⟨hgo,fun x H3 y=>?_⟩
     obtain ⟨s3,H3',e3,r3⟩:=hy x H3 y
     refine hB H3' H3 x _ bs _ e3.2.1 r3 hbs fun vs rvs=>?_
     have en:=(e'.mono (e2.1.trans e3.1)).sel rvs ix
     have e23:=e2.trans s2 e3
     refine htt _ _ _ ⟨F0.same _,_,H3',e3.2.1,en,(Rk.noE h).mono fun b h H4 s4=>?_⟩
     have s14:=s2.trans (s3.trans s4)
     have hd4:H4 D=some (.lst ys):=s4 _ _ (s3 _ _ hd2)
     have hdn3:H3' D=none:=e3.2.2 D (z6u hd2) hdn2
     have e14:Ext H1' H1 H3' H4:=e23.grow s4
     cases b with
     | false=>
      rw [if_neg Bool.false_ne_true] at h
      dsimp only
      rw [if_neg Bool.false_ne_true]
      exact ⟨ds.length - (i+1),by omega,rfl,hlt,by omega,acc,H3',s14,hd4,e14,hdn3,r2.mono e3.1,h⟩
     | true=>
      rw [if_pos rfl] at h
      dsimp only
      rw [if_pos rfl]
      rw [Rk.bind] at h
      refine ⟨hW.trans (sx.trans (s1.trans s14)),_,H3',e14.2.1,en,(Rk.noE h).mono fun y h w H5 o5=>?_⟩
      obtain ⟨s5,H5',e5,r5⟩:=o5.rd
      have hd5:H5 D=some (.lst ys):=s5 _ _ hd4
      have hdn5:H5' D=none:=e5.2.2 D (z6u hd4) hdn3
      have e15:=e14.trans s14 e5
      rw [Rk.bind] at h
      refine ⟨hd5,z1p (by omega),ds.length - (i+1),by omega,rfl,hlt,by rw [List.length_append];show ys.length+1<=i+1;omega,acc++[y],H5',(s14.trans s5).upd_at hD,z05,⟨e15.1,e15.2.1.upd_at hdn5,e15.2.2⟩,hdn5,((r2.mono (e3.1.trans e5.1))).append (.one r5),?_⟩
      exact h.mono fun rest h v H' o=>h v H' (by simpa using o)
   . have ei:i=ds.length:=by omega
     subst ei
     rw [List.drop_length] at h
     refine .inl ⟨it'.2 H2 (e2.1.trans e2.2.1),h _ H2 ?_⟩
     rw [List.append_nil]
     refine Out.after s1 e1 (.fresh s2 e2 hD hdn2 ?_)
     simp only [OB]
     exact ⟨ys,hd2,r2⟩
 . exact h.elim
theorem zl7 {kp:Bool} {fi:DE->R (List D)} {bn:D->Option (List D)} {B:V->Hp->(List V->Hp->Prop)->Prop} {ix:List Nat} {t:DE->R Bool} {f:DE->R D} {Q:VK} {tt:TT} (hB:BD K bn B) (htt:∀σ H Q,TTd K F0 t σ H Q->tt σ H Q)
 (h:TEd K EX true (z4g fi bn ix t f) σ H Q):zeb (TId K EX kp fi) B ix tt (TEd K F0 false f) σ H Q:=zg0 (F0.same _) hB htt h
noncomputable def mOf (fr:Bool) (n k:Nat) (g:DS->SR):List D->R D:=fun ds=>if ds.length=n then (match g (ds.map .im++List.replicate k .em) with
 | .rt d=>.ok d
 | .nx _=>if fr=true then .st else .ok .non
 | .er x=>.er x
 | _=>.st) else .st
def XFs (K:Frag) (x:Ex) (od:Option Addr) (H:Hp):Prop:=x.fs=[]\/∃(dx:Addr) (ns:List Int) (ob:Obj),od=some dx/\H dx=some (.frz ob (.xd ((zx8 x.cls).zip (ns.map V.int))))/\x.fs=ns.map D.int
def xNm (K:Frag) (mg:Str->Option Value) (E:XK) (x:Ex) (H:Hp):Prop:=∃C,mg (x.cls:Str)=some (.ref C)/\∀od,XFs K x od H->E (.ref C) od H
noncomputable def spD (K:Frag) (mg:Str->Option Value) (fr:Bool) (m:List D->R D) (n:Nat):Sp:=fun vs H Q E=>∃ds H0,Same H0 H/\RDs K H0 ds vs/\ds.length=n/\Rk (XW.at ⟨H,xNm K mg E⟩) (m ds) fun d=>∀v H',Out K fr H0 H d v H'->Q v H'
noncomputable def zai (sp:Sp) (E:XK) (t:TA):TE:=fun σ H Q=>t σ H fun vs H1=>sp vs H1 Q E
theorem zl8 {mg:Str->Option Value} {E:XK} {m:List D->R D} {n:Nat} {fs:DE->R (List D)} {Q:VK} (hl:∀ds,ds.length≠n->m ds=.st) (hE:∀x H,EX.p x H->xNm K mg E x H) (h:TEd K EX fr (z0k m fs) σ H Q):zai (spD K mg fr m n) E (TAd K EX fs) σ H Q:=by
 obtain ⟨sx,ρ,H0,s,e,h⟩:=h
 unfold z0k at h
 rw [Rk.bind] at h
 refine TAd.go sx s e h fun ds h vs H1 H1' s1 e1 r1=>?_
 refine ⟨ds,H1',e1.2.1,r1,?_,?_⟩
 . apply Classical.byContradiction
   intro hn
   rw [hl ds hn] at h
   exact h
 . cases q:m ds with
   | ok d=>rw [q] at h;exact fun v H' o=>h v H' (o.after s1 e1)
   | er x=>rw [q] at h;exact fun H' s'=>hE x H' (h H' ((sx.trans s1).trans s'))
   | st=>rw [q] at h;exact h
theorem z6w {n k:Nat} {g:DS->SR} (ds:List D) (h:ds.length≠n):mOf fr n k g ds=.st:=by unfold mOf;rw [if_neg h]
theorem zd6 {vs:List V} {ds:List D} (s:Same H0 H) (r:RDs K H0 ds vs) (k:Nat):RS K H0 H H0 (ds.map .im++List.replicate k .em) (vs.map some++List.replicate k none) H:=by
 have hl:=r.length
 have noow:∀(i:Nat) d,(ds.map Sl.im++List.replicate k Sl.em)[i]?≠some (.ow d):=fun i d q=>by
  rcases List.mem_append.mp (List.mem_of_getElem? q) with z | z
  . obtain ⟨_,_,z⟩:=List.mem_map.mp z;cases z
  . have:=(List.mem_replicate.mp z).2;cases this
 refine ⟨Same.refl _,.refl s,by simp [hl],fun i d q=>?_,fun i d q=>absurd q (noow i d),fun i j d e a q=>absurd q (noow i d)⟩
 by_cases hi:i<ds.length
 . rw [List.getElem?_append_left (by simpa using hi),List.getElem?_map] at q
   rw [List.getElem?_append_left (by simpa [<-hl] using hi),List.getElem?_map]
   cases qd:ds[i]? with
   | none=>rw [qd] at q;cases q
   | some d'=>
    rw [qd] at q
    simp only [Option.map_some,Option.some.injEq,Sl.im.injEq] at q
    subst q
    obtain ⟨x,h1,h2⟩:=r.get' qd
    exact ⟨x,by rw [h1];rfl,h2⟩
 . rw [List.getElem?_append_right (by simpa using hi)] at q
   have:=(List.mem_replicate.mp (List.mem_of_getElem? q)).2
   cases this
theorem zg1 {n k:Nat} {g:DS->SR} {vs:List V} {Q:VK} {E:XK} {mg:Str->Option Value} (h:spD K mg fr (mOf fr n k g) n vs H Q E) :
  TSd K ⟨H,xNm K mg E⟩ fr g { nx:=fun _ H'=>Q .non H',rt:=Q } (vs.map some++List.replicate k none) H:=by
 obtain ⟨ds,H0,s,r,hn,h⟩:=h
 refine ⟨H0,H,H0,_,Same.refl _,zd6 s r k,?_⟩
 unfold mOf at h
 rw [if_pos hn] at h
 cases q:g (ds.map .im++List.replicate k .em) with
 | nx ρ=>
  rw [q] at h
  cases fr with
  | true=>exact h.elim
  | false=>exact fun σ H' H0' I=>h _ H' (.val I.sb I.ext (by simp only [RD]))
 | rt d=>rw [q] at h;exact h
 | er x=>rw [q] at h;exact h
 | bk ρ=>rw [q] at h;exact h.elim
 | ct ρ=>rw [q] at h;exact h.elim
 | st=>rw [q] at h;exact h.elim
end
structure Flt {α:Type} (t:Sem α):Prop where
 go:∀{M:Model} {Γ:PySem.Ctx} {Q Q':α->Pos->Shared->Prop} {E E':Value->Pos->Shared->Prop} {p:Pos} {s:Shared},
 t.wp M Γ Q E p s->t.wp M Γ Q' E' p s->t.wp M Γ (fun a p s=>Q a p s/\Q' a p s) (fun a p s=>E a p s/\E' a p s) p s
theorem Flt.bind {α β:Type} {t:Sem α} {f:α->Sem β} (h:Flt t) (k:∀a,Flt (f a)):Flt (t >>= f):=by
 refine ⟨fun x y=>?_⟩
 rw [Sem.wp_bind'] at x y ⊢
 exact Sem.wp_mono _ _ _ (fun a _ _ z=>(k a).go z.1 z.2) (fun _ _ _ z=>z) _ _ (h.go x y)
theorem Flt.pure {α:Type} (a:α):Flt (Pure.pure a:Sem α):=⟨fun x y=>⟨x,y⟩⟩
theorem Flt.uns {α:Type} (w:String):Flt (unsupported w:Sem α):=⟨fun x _=>x.elim⟩
theorem Flt.stack:Flt PySem.stack:=⟨fun x y=>⟨x,y⟩⟩
theorem Flt.alloc (o:Obj):Flt (PySem.alloc o):=⟨fun x y=>⟨x,y⟩⟩
theorem Flt.update (a:Addr) (f:Obj->Obj):Flt (PySem.update a f):=⟨fun x y=>⟨x.1,x.2,y.2⟩⟩
theorem Flt.load (a:Addr):Flt (PySem.load a):=⟨fun ⟨o,e,x⟩ ⟨o',e',y⟩=>by rw [e] at e';cases e';exact ⟨o,e,x,y⟩⟩
theorem Flt.cells (v:Value):Flt (fieldsOf v):=by
 cases v<;>first | exact .uns _ | exact .bind (.load _) fun o=>by split<;>first | exact .pure _ | exact .uns _
theorem Flt.field (v:Value) (i:Nat):Flt (PySem.field v i):=.bind (.cells v) fun vs=>by split<;>first | exact .pure _ | exact .uns _
theorem Flt.put (v:Value) (i:Nat) (x:Value):Flt (setField v i x):=by
 cases v<;>first | exact .uns _ | exact .bind (.load _) fun o=>by split<;>first | exact .uns _ | (split<;>first | exact .update _ _ | exact .uns _)
theorem Flt.flight (e:Value) (f:Option Addr):Flt (setFlight e f):=.bind (.field e 1) fun tb=>by split<;>first | exact .put _ _ _ | exact .pure _
theorem Flt.ready:∀l:List Env,Flt (readyFrames l)
 | []=>.pure _
 | env::outer=>by
  unfold readyFrames
  split<;>first | exact .uns _ | skip
  refine .bind (.load _) fun o=>?_
  split<;>first | exact .pure _ | skip
  refine .bind ?_ fun b=>.bind ?_ fun v=>.bind (.update _ _) fun _=>Flt.ready outer
  . unfold behindIsImport
    split<;>first | exact .pure _ | skip
    split<;>first | exact .pure _ | exact .bind (.field _ _) fun _=>.pure _
  . unfold keptBack
    split<;>first | exact .pure _ | skip
    split<;>first | exact .pure _ | exact .bind (.bind .stack fun _=>.pure _) fun _=>.pure _
theorem Flt.frame (env:Env):Flt (frameOf env):=.bind (.bind .stack fun _=>.pure _) fun es=>.bind (by
 unfold frameObject
 split
 . exact .pure _
 . exact .bind (.ready _) fun _=>.pure _) fun f=>by split<;>first | exact .pure _ | exact .uns _
theorem Flt.fields (vs:List Value):Flt (newFields "traceback" vs):=by
 have h:Flt (newObjAsIs (.type "traceback") (.fields vs.toArray)):=.bind (.alloc _) fun a=>.pure _
 unfold newFields newObj
 dsimp only
 split
 . exact .bind (.uns _) fun _=>h
 . exact h
theorem Flt.entry (env:Env) (e head:Value) (L:Addr) (b:Bool):Flt (do let a <-frameOf env;let pl <-entryPlaceOf L b;let b <-EntryCells.newEntry head a .none (rawInt L) .none pl;setField e 1 b):=
 .bind (.frame env) fun _=>.bind (.bind .stack fun acts=>by split<;>exact .pure _) fun _=>.bind (.fields _) fun _=>.put _ _ _
theorem Flt.note (e:Value) (env:Env):Flt (noteFrame e env):=by
 unfold noteFrame
 split<;>first | exact .uns _ | skip
 refine .bind (.field _ _) fun head=>?_
 split
 . refine .bind (.field _ _) fun x=>?_
   split
   . exact .pure _
   . exact .bind (.put _ _ _) fun _=>.entry _ _ _ _ _
 . exact .entry _ _ _ _ _
theorem z3g {M:Model} {A:Around} {α:Type} {t:Sem α} {Q Q':α->Shared->Prop} {E E':Value->Shared->Prop} {s:Shared} (f:Flt t) (h:wpAny M A t Q E s) (k:wpAny M A t Q' E' s):wpAny M A t (fun a s=>Q a s/\Q' a s) (fun a s=>E a s/\E' a s) s:=
 fun Γ p hΓ=>f.go (h Γ p hΓ) (k Γ p hΓ)
section
variable {M:Model} {A:Around} {E:Value->Shared->Prop} {s:Shared} {base:Heap} {env:Env} {outer:List Env} {L e:Addr} {cls a0 fl:Value} {od:Option Addr}
def z2n (e:Addr) (od:Option Addr) (h:Heap):Prop:=∀o,h.get? e=some o->o.dict=od
theorem zj3 (o:Obj) (f:Array Value->Array Value):(Obj.mapFields f o).dict=o.dict:=by
 unfold Obj.mapFields
 split<;>rfl
theorem z91 {h:Heap} {b:Addr} {f:Array Value->Array Value} (d:z2n e od h) (hb:∃o,h.get? b=some o/\∃vs,o.data=.fields vs):z2n e od (h.update b (Obj.mapFields f)):=by
 intro o ho
 by_cases q:b=e
 . subst q
   obtain ⟨ob,h1,vs,h2⟩:=hb
   rw [Heap.get?_update_self _ h1 (Obj.isFreed_of_fields (Obj.data_mapFields h2 f))] at ho
   cases ho
   rw [zj3]
   exact d _ h1
 . rw [Heap.get?_update_other _ _ q] at ho
   exact d o ho
theorem zg2 (T:Addr):(Value.ref T != Value.none)=true:=by simp
theorem zs8 (L:Addr):(Value.none==rawInt L)=false:=by simp [rawInt]
theorem z6x (ht:s.heap.TracedAtW base e cls a0 fl) (d:z2n e od s.heap):wpAny M A (setFlight (.ref e) none) (fun _ s'=>z2n e od s'.heap) E s:=by
 obtain ⟨oe,vs,T,oT,ts,he,-,hd,h1,-,-,hT,hdT,h3⟩:=ht
 have in3:=(Array.getElem?_eq_some_iff.mp h3).1
 unfold setFlight
 exact wpAny_bind (wpAny_field he hd h1 (by rw [if_pos (zg2 T)];exact wpAny_setField hT hdT in3 (z91 d ⟨_,hT,_,hdT⟩)))
theorem z84 {oe:Obj} {vs:Array Value} {head:Value} {hadNext:Bool} (hfr:A.frames=some (env::outer)) (hl:s.heap.FunFrames base (env::outer)) (hf:env.frame=some L) (he:s.heap.get? e=some oe) (hd:oe.data=.fields vs) (hsz:1<vs.size) (d:z2n e od s.heap) :
  wpAny M A (do let a <-frameOf env;let pl <-entryPlaceOf L hadNext;let b <-EntryCells.newEntry head a .none (rawInt L) .none pl;setField (.ref e) 1 b) (fun _ s'=>z2n e od s'.heap) E s:=by
 have nf:e∉(env::outer).filterMap (·.frame):=fun hm=>by
  obtain ⟨_,o,ho,hnf⟩:=hl.mem hm
  rw [he] at ho;cases ho;exact hnf vs hd
 refine wpAny_bind (wpAny_frameOf_fun hfr hl hf fun h1 hs=>wpAny_bind (wpAny_entryPlaceOf fun pl hpl=>?_))
 unfold EntryCells.newEntry newFields
 refine wpAny_bind (wpAny_newObj_type ?_ (hpl.sizeOk5 _ _ _ _ _))
 have he1:h1.get? e=some oe:=(hs.2.1 e nf).trans he
 have he2:=Heap.get?_push_of_some (h:=h1) { cls:=.type "traceback",dict:=none,data:=.fields ([head,.ref L,.none,rawInt L,.none]++(if pl.isEmpty then List.replicate 6 Value.none else pl)).toArray } he1
 refine wpAny_setField he2 hd hsz (z91 (fun o ho=>?_) ⟨_,he2,_,hd⟩)
 rw [he2] at ho;cases ho
 exact d _ he
theorem zg3 (hfr:A.frames=some (env::outer)) (hl:s.heap.FunFrames base (env::outer)) (hf:env.frame=some L) (ht:s.heap.TracedW base e cls a0) (d:z2n e od s.heap) :
  wpAny M A (noteFrame (.ref e) env) (fun _ s'=>z2n e od s'.heap) E s:=by
 obtain ⟨oe,vs,T,oT,ts,he,-,hd,h1,-,hTe,hT,hdT,h3⟩:=ht
 have in1:=(Array.getElem?_eq_some_iff.mp h1).1
 have in3:=(Array.getElem?_eq_some_iff.mp h3).1
 have off:∀b,T≠b->(s.heap.update T (Obj.mapFields (·.setIfInBounds 3 Value.none))).get? b=s.heap.get? b:=fun b hb=>Heap.get?_update_other _ _ hb
 have fr:(s.heap.update T (Obj.mapFields (·.setIfInBounds 3 Value.none))).FunFrames base (env::outer):=hl.of_keeps fun b o hb nf=>⟨o,(off b fun z=>by rw [<-z,hT] at hb;cases hb;exact nf ts hdT).trans hb,rfl⟩
 unfold noteFrame
 simp only [hf]
 exact wpAny_bind (wpAny_field he hd h1 (by
  rw [if_pos (zg2 T)]
  exact wpAny_bind (wpAny_field hT hdT h3 (by
   rw [if_neg (by rw [zs8];exact Bool.false_ne_true)]
   exact wpAny_bind (wpAny_setField hT hdT in3 (z84 hfr fr hf ((off e hTe).trans he) hd in1 (z91 d ⟨_,hT,_,hdT⟩)))))))
end
section
variable {M:Model} {A:Around} {E:Value->Shared->Prop} {s:Shared} {base:Heap} {env:Env} {outer:List Env} {L e:Addr} {cls a0:Value} {od:Option Addr} {Q:Unit->Shared->Prop}
theorem zc3 (hh:Heap.HeldW base (env::outer) e cls a0 L s.heap) (d:z2n e od s.heap) (hQ:∀h',Heap.FlyingW base (env::outer) e cls a0 h'->s.heap.UpToSlots h'->z2n e od h'->Q () { s with heap:=h' }):wpAny M A (setFlight (.ref e) none) Q E s:=
 wpAny_mono (z3g (E:=E) (E':=E) (.flight _ _) (wpAny_landsW hh (Q:=fun _ s'=>∃h',s'={ s with heap:=h' }/\Heap.FlyingW base (env::outer) e cls a0 h'/\s.heap.UpToSlots h') fun h' f u=>⟨h',rfl,f,u⟩) (z6x hh.2.2.2 d))
  (fun _ s' ⟨⟨h',e1,f,u⟩,d'⟩=>by subst e1;exact hQ h' f u d') fun _ _ z=>z.1
theorem zg4 (hfr:A.frames=some (env::outer)) (hf:env.frame=some L) (hfl:Heap.FlyingW base (env::outer) e cls a0 s.heap) (d:z2n e od s.heap)
  (hQ:∀h',Heap.HeldW base (env::outer) e cls a0 L h'->s.heap.UpToSlots h'->z2n e od h'->Q () { s with heap:=h' }):wpAny M A (noteFrame (.ref e) env) Q E s:=
 wpAny_mono (z3g (E:=E) (E':=E) (.note _ _) (wpAny_looks_onW hfr hf hfl (Q:=fun _ s'=>∃h',s'={ s with heap:=h' }/\Heap.HeldW base (env::outer) e cls a0 L h'/\s.heap.UpToSlots h') fun h' f u=>⟨h',rfl,f,u⟩) (zg3 hfr hfl.2.2.1 hf hfl.2.2.2 d))
  (fun _ s' ⟨⟨h',e1,f,u⟩,d'⟩=>by subst e1;exact hQ h' f u d') fun _ _ z=>z.1
theorem zj4 (hfr:A.frames=some (env::outer)) (hf:env.frame=some L) (hfl:Heap.FlyingW base (env::outer) e cls a0 s.heap) (d:z2n e od s.heap)
  (hQ:∀h',Heap.FlyingW base outer e cls a0 h'->s.heap.UpToSlots h'->z2n e od h'->Q () { s with heap:=h' }):wpAny M A (leaving env (.ref e)) Q E s:=by
 unfold leaving
 refine wpAny_bind (zg4 hfr hf hfl d fun h1 hh u1 d1=>zc3 (s:={ s with heap:=h1 }) hh d1 fun h2 f u2 d2=>hQ h2 ?_ (u1.trans u2) d2)
 obtain ⟨k1,k2,⟨_,_,k3⟩,k4⟩:=f
 exact ⟨k1,k2,k3,k4⟩
theorem zns {oe:Obj} {vs:Array Value} (hfr:A.frames=some (env::outer)) (hl:s.heap.FunFrames base (env::outer)) (hf:env.frame=some L) (he:s.heap.get? e=some oe) (hkb:base.StaysIn s.heap) (hen:base.get? e=none) (hd:oe.data=.fields vs) (h1:vs[1]?=some .none) (h0:vs[0]?=some a0) (d:z2n e od s.heap)
  (hQ:∀h',Heap.FlyingW base outer e oe.cls a0 h'->s.heap.UpToSlots h'->z2n e od h'->Q () { s with heap:=h' }):wpAny M A (leaving env (.ref e)) Q E s:=by
 have hsz:=(Array.getElem?_eq_some_iff.mp h1).1
 unfold leaving noteFrame
 simp only [hf]
 refine wpAny_bind (wpAny_bind (wpAny_field he hd h1 ?_))
 rw [if_neg (by decide)]
 refine wpAny_mono (z3g (E:=E) (E':=E) (.entry _ _ _ _ _) (wpAny_entryW hfr hl hf he hkb hen hd hsz h0 (Q:=fun _ s'=>∃h',s'={ s with heap:=h' }/\Heap.NotedW base (env::outer) e oe.cls a0 (rawInt L) s.heap h') fun h' n=>⟨h',rfl,n⟩) (z84 hfr hl hf he hd hsz d)) (fun _ s' z=>?_) fun _ _ z=>z.1
 obtain ⟨⟨h',e1,n1,n2,n3,n4⟩,d1⟩:=z
 subst e1
 refine zc3 (s:={ s with heap:=h' }) ⟨n1,hen,n2,n3⟩ d1 fun h2 f u2 d2=>hQ h2 ?_ (Heap.UpToSlots.trans n4 u2) d2
 obtain ⟨k1,k2,⟨_,_,k3⟩,k4⟩:=f
 exact ⟨k1,k2,k3,k4⟩
end
theorem ObjOk.there {P:Program} {w:World} {H:Hp} {h:Heap} {a:Addr} {o:HO} (x:ObjOk P w H h a o):∃ob,h.get? a=some ob:=by
 induction o with
 | lst xs=>obtain ⟨_,_,_,_,e⟩:=x;exact ⟨_,e⟩
 | tup xs=>obtain ⟨_,_,_,ob,e,_⟩:=x;exact ⟨_,e⟩
 | dK kvs=>obtain ⟨_,_,_,_,o,_,_,e,_⟩:=x;exact ⟨_,e⟩
 | dT kvs=>obtain ⟨_,_,_,_,o,_,_,e,_⟩:=x;exact ⟨_,e⟩
 | set S n=>obtain ⟨o,_,_,_,e,_⟩:=x;exact ⟨_,e⟩
 | ins C dx fs=>obtain ⟨_,_,_,e,_⟩:=x;exact ⟨_,e⟩
 | own y=>exact x
 | xd fs=>obtain ⟨_,⟨_,_,_,e,_⟩,_⟩:=x;exact ⟨_,e⟩
 | rng lo hi=>obtain ⟨_,_,_,e⟩:=x;exact ⟨_,e⟩
 | frz ob u ih=>exact ⟨_,x.1⟩
 | tbl ps=>exact ⟨_,x⟩
 | ctb q=>obtain ⟨_,e,_⟩:=x;exact ⟨_,e⟩
 | met f y=>exact ⟨_,x⟩
 | ext φ=>exact x.2.1
theorem HOk.none {P:Program} {w:World} {H:Hp} {h:Heap} {a:Addr} (x:HOk P w H h) (e:h.get? a=Option.none):H a=Option.none:=by
 cases q:H a with
 | none=>rfl
 | some o=>
  obtain ⟨ob,z⟩:=(x a o q).there
  rw [e] at z;cases z
def Fly (h0:Heap) (H':Hp) (C a:Addr) (od:Option Addr) (h:Heap):Prop:=∃oe vs T oT ts a0,h.get? a=some oe/\oe.cls=.ref C/\vs[0]?=some a0/\oe.data=.fields vs/\vs[1]?=some (.ref T)/\T≠a/\h.get? T=some oT/\oT.data=.fields ts/\ts[3]?=some Value.none /\
 h0.get? a=none/\h0.get? T=none/\H' a=none/\H' T=none/\oe.dict=od/\∀dx,od=some dx->h0.get? dx=none
structure XOut (P:Program) (w:World) (outer:List Env) (H:Hp) (s:Shared) (C a:Addr) (od:Option Addr) (H':Hp) (s':Shared):Prop where
 os:s'.os=s.os
 bare:AllBare s'.gens
 un:Un (frs outer) [] H H' s.heap s'.heap
 hok:HOk P w H' s'.heap
 fly:Fly s.heap H' C a od s'.heap
noncomputable def CX1 (P:Program) (w:World):CXT:=fun outer H s E e s'=>∃C a od H',e=.ref a/\XOut P w outer H s C a od H' s'/\E (.ref C) od H'
theorem zaj {l:List Addr} {h:Heap} {b:Addr} (e:(hideAll h l).get? b=none):b∈l\/h.get? b=none:=by
 by_cases hb:b∈l
 . exact .inl hb
 . cases q:h.get? b with
   | none=>exact .inr rfl
   | some o=>rw [hideAll_get l q hb] at e;cases e
section
variable {X:Cx} {pins:List (Addr×Obj)} {σ:List (Option V)} {H1 H2:Hp} {s1 s2:Shared} {h' B:Heap} {Z:List Addr} {C a:Addr} {a0:Value} {od:Option Addr}
theorem Inv.stack2 (I:Inv X pins σ H1 s1) (un:Un (frs X.stack) [] H1 H2 s1.heap s2.heap):s2.heap.FunFrames X.base X.stack:=by
 have all:∀(l:List Env),(∀b∈frs l,b∈frs X.stack)->s1.heap.FunFrames X.base l->s2.heap.FunFrames X.base l:=by
  intro l
  induction l with
  | nil=>intro _ _;trivial
  | cons env r ih=>
   intro hs hl
   obtain ⟨hk,⟨L,o,hf,hn,ho,hd⟩,hr⟩:=hl
   have hL:L∈frs X.stack:=hs L (by unfold frs;rw [List.filterMap_cons,hf];exact List.mem_cons_self)
   obtain ⟨sl,e⟩:=un.slot L o ho (I.stkFree L hL) hL (by simp)
   exact ⟨hk,⟨L,_,hf,hn,e,hd⟩,ih (fun b hb=>hs b (by unfold frs;rw [List.filterMap_cons,hf];exact List.mem_cons_of_mem _ hb)) hr⟩
 exact all X.stack (fun _ hb=>hb) I.stack
theorem z85 (I:Inv X pins σ H1 s1) (hst:X.stack=X.env::X.outer) (hex:X.ex=[]) (hos:s2.os=s1.os) (hbare:AllBare s2.gens) (un:Un (frs X.stack) [] H1 H2 s1.heap s2.heap) (hok:HOk X.prog X.w H2 s2.heap)
  (hZ:∀b∈Z,s1.heap.get? b=none/\H2 b=none) (ha:s1.heap.get? a=none) (hHa:H2 a=none) (keep:∀b o,s2.heap.get? b=some o->b∉Z->b∉frs X.stack->h'.get? b=some o)
  (up:s2.heap.UpToSlots h') (hB:∀b,B.get? b=none->b∈frs X.stack\/(s1.heap.get? b=none/\H2 b=none)) (hfl:Heap.FlyingW B X.outer a (.ref C) a0 h') (hdc:z2n a od h') (hnd:∀dx,od=some dx->s1.heap.get? dx=none) :
  XOut X.prog X.w X.outer X.H₀ X.s₀ C a od H2 { s2 with heap:=h' }:=by
 have base:Un X.fs [] X.H₀ H1 X.s₀.heap s1.heap:=hex ▸ I.base
 have F2:=I.stack2 un
 have sub:∀b∈frs X.outer,b∈frs X.stack:=fun b hb=>by
  rw [hst];unfold frs
  cases q:X.env.frame with
  | none=>rw [List.filterMap_cons,q];exact hb
  | some L=>rw [List.filterMap_cons,q];exact List.mem_cons_of_mem _ hb
 have neL:∀b o,X.s₀.heap.get? b=some o->b≠X.env.locals:=fun b o e=>Nat.ne_of_lt (Nat.lt_of_lt_of_le (Heap.lt_size e) I.ok.above)
 have nost:∀b o,X.s₀.heap.get? b=some o->b∉frs X.outer->b∉frs X.stack:=fun b o e hb z=>(List.mem_cons.mp (I.stkSub b z)).elim (neL b o e) hb
 have fresh0:∀b,s1.heap.get? b=none->X.s₀.heap.get? b=none:=fun b e=>by
  cases q:X.s₀.heap.get? b with
  | none=>rfl
  | some o=>
   obtain ⟨o',z⟩:=base.there b o q (by simp)
   rw [e] at z;cases z
 have noZ:∀b o,X.s₀.heap.get? b=some o->b∉Z:=fun b o e hb=>by
  rw [fresh0 b (hZ b hb).1] at e;cases e
 have frFree:∀b∈frs X.stack,H2 b=none:=fun b hb=>by
  obtain ⟨_,o,ho,_⟩:=I.stack.mem hb
  exact un.free b o ho (I.stkFree b hb) (by simp)
 have slotF:∀b∈frs X.stack,∀o,s2.heap.get? b=some o->∃sl,h'.get? b=some { o with slots:=sl }:=fun b hb o e=>by
  obtain ⟨_,o',ho',hd⟩:=F2.mem hb
  rw [e] at ho';cases ho'
  exact up b o e hd
 refine ⟨by show s2.os=_;rw [hos,I.os],hbare,⟨fun b o e n hb _=>?_,fun b o e n hb _=>?_,fun b o e n _=>?_,fun b o e _=>?_,fun b xs e=>un.tups b xs (base.tups b xs e),fun b o u e=>un.frzs b o u (base.frzs b o u e),fun b ps e=>?_⟩,fun b o e=>?_,?_⟩
 . exact keep b o (un.keep b o (base.keep b o e n hb (by simp)) (base.free b o e n (by simp)) (nost b o e hb) (by simp)) (noZ b o e) (nost b o e hb)
 . obtain ⟨sl,e1⟩:=base.slot b o e n hb (by simp)
   obtain ⟨sl2,e2⟩:=un.slot b _ e1 (base.free b o e n (by simp)) (sub b hb) (by simp)
   obtain ⟨sl3,e3⟩:=slotF b (sub b hb) _ e2
   exact ⟨sl3,e3⟩
 . obtain ⟨o1,e1⟩:=base.there b o e (by simp)
   exact un.free b o1 e1 (base.free b o e n (by simp)) (by simp)
 . obtain ⟨o1,e1⟩:=base.there b o e (by simp)
   obtain ⟨o2,e2⟩:=un.there b o1 e1 (by simp)
   by_cases hb:b∈frs X.stack
   . obtain ⟨sl,e3⟩:=slotF b hb _ e2
     exact ⟨_,e3⟩
   . exact ⟨o2,keep b o2 e2 (noZ b o e) hb⟩
 . obtain ⟨m1,e1⟩:=base.tbls b ps e
   obtain ⟨m2,e2⟩:=un.tbls b _ e1
   exact ⟨m1++m2,by rw [e2,Array.append_assoc]⟩
 . refine (hok b o e).stay (fun c v hc q=>keep c v q (fun hz=>?_) fun hf=>?_) (fun _ q=>q) fun _ _ q=>q
   . have:=(hZ c hz).2
     rcases hc with rfl | hc
     . rw [e] at this;cases this
     . rw [hc] at this;cases this
   . have:=frFree c hf
     rcases hc with rfl | hc
     . rw [e] at this;cases this
     . rw [hc] at this;cases this
 . obtain ⟨_,_,_,oe,vs,T,oT,ts,he,⟨hc,h0⟩,hd,h1,hnT,hTe,hT,hdT,h3⟩:=hfl
   have hTn:s1.heap.get? T=none/\H2 T=none:=by
    rcases hB T hnT with z | z
    . obtain ⟨_,o',ho',hd'⟩:=F2.mem z
      obtain ⟨sl,e3⟩:=slotF T z o' ho'
      rw [hT] at e3;cases e3
      exact absurd hdT (hd' ts)
    . exact z
   exact ⟨oe,vs,T,oT,ts,a0,he,hc,h0,hd,h1,hTe,hT,hdT,h3,fresh0 a ha,fresh0 T hTn.1,hHa,hTn.2,hdc _ he,fun dx e=>fresh0 dx (hnd dx e)⟩
theorem zj5 (I:Inv X pins σ H1 s1) (hst:X.stack=X.env::X.outer) (hex:X.ex=[]) (hf:X.env.frame=some X.env.locals) (x:XOut X.prog X.w X.stack H1 s1 C a od H2 s2) {E:Value->Shared->Prop} {Q:Unit->Shared->Prop}
  (h:∀s',XOut X.prog X.w X.outer X.H₀ X.s₀ C a od H2 s'->Q () s'):wpAny (model X.prog X.w) X.A (leaving X.env (.ref a)) Q E s2:=by
 obtain ⟨oe,vs,T,oT,ts,a0,he,hc,h0,hd,h1,hTe,hT,hdT,h3,na,nT,ha,hHT,hod,hnd⟩:=id x.fly
 have F2:=I.stack2 x.un
 have hin:∀env∈X.stack,∀b,env.frame=some b->b∈a::T::frs X.stack:=fun env he b hb=>List.mem_cons_of_mem _ (List.mem_cons_of_mem _ (List.mem_filterMap.mpr ⟨env,he,hb⟩))
 have hfr:X.A.frames=some (X.env::X.outer):=by rw [<-hst];exact I.ok.frames
 refine zj4 (od:=od) (base:=hideAll s2.heap (a::T::frs X.stack)) (cls:=.ref C) (a0:=a0) hfr hf ⟨fun b o q=>of_hideAll _ q,hideAll_none _ (.head _),hst ▸ PySem.W.funFrames_hide F2 hin,?_⟩ (fun o ho=>by rw [he] at ho;cases ho;exact hod) fun h' hfl up hdc=>h _ (z85 (Z:=[a,T]) I hst hex x.os x.bare x.un x.hok (fun b hb=>?_) na ha (fun b o q hz hfs=>hfl.1 b o (hideAll_get _ q ?_)) up (fun b q=>?_) hfl hdc hnd)
 . exact ⟨oe,vs,T,oT,ts,he,⟨hc,h0⟩,hd,h1,hideAll_none _ (.tail _ (.head _)),hTe,hT,hdT,h3⟩
 . rcases List.mem_cons.mp hb with rfl | hb
   . exact ⟨na,ha⟩
   . have:b=T:=by simpa using hb
     subst this;exact ⟨nT,hHT⟩
 . intro z
   rcases List.mem_cons.mp z with rfl | z
   . exact hz (.head _)
   . rcases List.mem_cons.mp z with rfl | z
     . exact hz (.tail _ (.head _))
     . exact hfs z
 . rcases zaj q with z | z
   . rcases List.mem_cons.mp z with rfl | z
     . exact .inr ⟨na,ha⟩
     . rcases List.mem_cons.mp z with rfl | z
       . exact .inr ⟨nT,hHT⟩
       . exact .inl z
   . refine .inr ⟨?_,x.hok.none z⟩
     cases q1:s1.heap.get? b with
     | none=>rfl
     | some o=>
      obtain ⟨o',e'⟩:=x.un.there b o q1 (by simp)
      rw [z] at e';cases e'
structure MadeX (h h':Heap) (e C:Addr) (od:Option Addr):Prop where
 new:h.get? e=none
 newd:∀dx,od=some dx->h.get? dx=none
 there:∃oe vs a0,h'.get? e=some oe/\oe.cls=.ref C/\oe.dict=od/\oe.data=.fields vs/\vs[0]?=some a0/\vs[1]?=some .none
theorem MadeX.of {h h':Heap} {e C:Addr} {args:List Value} (x:Heap.MadeExcOf h h' e (.ref C) args):MadeX h h' e C none:=by
 obtain ⟨t,he,_,_⟩:=x.there
 exact ⟨x.new,(fun _ z=>nomatch z),_,_,_,he,rfl,rfl,rfl,rfl,rfl⟩
theorem zef (I:Inv X pins σ H1 s1) (hst:X.stack=X.env::X.outer) (hex:X.ex=[]) (hf:X.env.frame=some X.env.locals) (hx:MadeX s1.heap s2.heap a C od) (hok:HOk X.prog X.w H2 s2.heap) (un:Un (frs X.stack) [] H1 H2 s1.heap s2.heap) (hHa:H2 a=none) (hos:s2.os=s1.os) (hbare:AllBare s2.gens) {E:Value->Shared->Prop} {Q:Unit->Shared->Prop}
  (h:∀s',XOut X.prog X.w X.outer X.H₀ X.s₀ C a od H2 s'->Q () s'):wpAny (model X.prog X.w) X.A (leaving X.env (.ref a)) Q E s2:=by
 have hin:∀env∈X.stack,∀b,env.frame=some b->b∈a::frs X.stack:=fun env he b hb=>List.mem_cons_of_mem _ (List.mem_filterMap.mpr ⟨env,he,hb⟩)
 have hfr:X.A.frames=some (X.env::X.outer):=by rw [<-hst];exact I.ok.frames
 have F2:=I.stack2 un
 obtain ⟨oe,vs,a0,he,hc,hod,hd,h0,h1⟩:=hx.there
 refine zns (od:=od) (base:=hideAll s2.heap (a::frs X.stack)) hfr (hst ▸ PySem.W.funFrames_hide F2 hin) hf he (fun b o q=>of_hideAll _ q) (hideAll_none _ (.head _)) hd h1 h0 (fun o ho=>by rw [he] at ho;cases ho;exact hod) fun h' hfl up hdc=>h _ ?_
 rw [hc] at hfl
 refine z85 (B:=hideAll s2.heap (a::frs X.stack)) (Z:=[a]) I hst hex hos hbare un hok (fun b hb=>?_) hx.new hHa (fun b o q hz hfs=>hfl.1 b o (hideAll_get _ q ?_)) up (fun b q=>?_) hfl hdc hx.newd
 . obtain rfl:b=a:=by simpa using hb
   exact ⟨hx.new,hHa⟩
 . intro z
   rcases List.mem_cons.mp z with rfl | z
   . exact hz (.head _)
   . exact hfs z
 . rcases zaj q with z | z
   . rcases List.mem_cons.mp z with rfl | z
     . exact .inr ⟨hx.new,hHa⟩
     . exact .inl z
   . refine .inr ⟨?_,hok.none z⟩
     cases q1:s1.heap.get? b with
     | none=>rfl
     | some o=>
      obtain ⟨o',e'⟩:=un.there b o q1 (by simp)
      rw [z] at e';cases e'
end
noncomputable def eOf (K:Frag) (EX:XW) (mg:Str->Option Value):XK:=fun cv od H=>∃x:Ex,EX.p x H/\mg (x.cls:Str)=some cv/\XFs K x od H
structure Lnd (X:Cx) (EX:XW):Prop where
 nm:∀x H,EX.p x H->∃C,X.mg (x.cls:Str)=some (.ref C)
 on:za0 (CX1 X.prog X.w) X (eOf X.K EX X.mg)
 md:∀(pins:List (Addr×Obj)) (σ:St) (H H2:Hp) (s:Shared) (a C:Addr) (od:Option Addr) (s':Shared) (x:Ex),Inv X pins σ H s->MadeX s.heap s'.heap a C od->HOk X.prog X.w H2 s'.heap->Un (frs X.stack) [] H H2 s.heap s'.heap->H2 a=none->s'.os=s.os->AllBare s'.gens->X.mg (x.cls:Str)=some (.ref C)->EX.p x H2->XFs X.K x od H2->X.xe (.ref a) s'
theorem y1e {X:Cx}:Lnd X F0:=⟨fun _ _ z=>z.elim,fun _ _ _ _ _ _ _ ⟨_,_,_,_,_,_,_,z,_⟩=>z.elim,fun _ _ _ _ _ _ _ _ _ _ _ _ _ _ _ _ _ _ z _=>z.elim⟩
theorem z67 {P:Program} {w:World} {K:Frag} {mg:Str->Option Value} {base:Heap} {N:List Str} {qual:Str} {sc:Scope} {f:Addr} {cdv:Value} {A:Around} {outer:List Env} {s:Shared} {H:Hp} {E:XK} :
  Lnd (zcs (CX1 P w) P w K mg base N qual sc f cdv A outer s H E) ⟨H,xNm K mg E⟩:=by
 refine ⟨fun x H ⟨C,hC,_⟩=>⟨C,hC⟩,?_,?_⟩
 . rintro pins σ H1 s1 e s' I ⟨C,a,od,H',rfl,xo,x,⟨C',hC',hE⟩,hmg,hx⟩
   have hmg:mg (x.cls:Str)=some (.ref C):=hmg
   rw [hC'] at hmg
   cases hmg
   exact zj5 I rfl rfl rfl xo fun s'' y=>⟨_,a,od,H',rfl,y,hE od hx⟩
 . rintro pins σ H1 H2 s1 a C od s' x I hx hok un hHa ho hb hmg ⟨C',hC',hE⟩ hf
   have hmg:mg (x.cls:Str)=some (.ref C):=hmg
   rw [hC'] at hmg
   cases hmg
   exact zef I rfl rfl rfl hx hok un hHa ho hb fun s'' y=>⟨_,a,od,H2,rfl,y,hE od hf⟩
def z68 (P:Program) (w:World) (K:Frag) (mg:Str->Option Value) (base:Heap) (x:Str) (ps:List Str) (k:Nat) (sp:Sp):Prop:=
 ∃f fd,FnOk P w K mg base (CX1 P w) k f fd ps sp/\Binds K fd ps []/\mg x=some (.ref f)/\keepIn K (.ref f)=true
section
variable {X:Cx} {x:Str} {p pos:Pos} {e:Expr} {es:List Expr} {t:TA} {ps:List Str} {k j:Nat} {sp:Sp} {E:XK}
theorem zg5 (G:z68 X.prog X.w X.K X.mg X.base x ps k sp) (hx:za0 (CX1 X.prog X.w) X E) (hr:Room j X.A) (hg:Gl X x) (ha:PA X (e::es) t) (hkj:k<=j:=by omega) (hdb:(x==("__debug__":Str))=false:=by decide)
  (he:starEach (e::es) X.env=(false,eval e X.env)::starEach es X.env:=by rfl) (hpl:(backTo pos (starEach es X.env)).any (·.1)=false:=by rfl):PE X (.Call (.Name x p) (e::es) [] pos) (zai sp E t):=by
 obtain ⟨f,fd,F,b,m,kp⟩:=G
 refine (zn2 F (hr.mono hkj) hg m kp b .nil hx ha hdb he hpl).imp fun σ H Q q=>?_
 unfold zra
 unfold zai at q
 simpa only [List.append_nil] using q
end
theorem Fun.okX {P:Program} {w:World} {K:Frag} {mg:Str->Option Value} {base:Heap} {x qual:Str} {st:Stmt} {f:Addr} {fd:FuncData} {N ps:List Str} {k:Nat} {sp:Sp} {CX:CXT} (F:Fun K x qual st f fd) (S:FnScope N ps (z03 st)) (len:∀vs H Q E,sp vs H Q E->vs.length=ps.length)
  (hbody:∀(cdv:Value) (A:Around) (outer:List Env) (s:Shared) (H:Hp) (vs:List V) (Q:VK) (E:XK),Room k (A.deeper (envOfC qual (z03 st) s.heap.objs.size f cdv))->sp vs H Q E ->
   ∃t,PSs (zcs CX P w K mg base N qual (z03 st) f cdv A outer s H E) (z0u st) t/\t { nx:=fun _ H'=>Q .non H',rt:=Q } (z2k N vs) H):FnOk P w K mg base CX (k+1) f fd ps sp:=by
 obtain ⟨oc,od,kV,doc,pm,an,cdv,ct,osl,rfl,lk,hcd⟩:=F.ex
 refine zrc lk hcd S len fun A outer s H vs Q E hr hsp=>?_
 exact hbody cdv A outer s H vs Q E hr hsp
section
variable {K:Frag} {H:Hp} {v:V}
theorem RD.int {i:Int} (h:RD K H (.int i) v):v=.int i:=by simpa only [RD] using h
theorem RD.str {i:Str} (h:RD K H (.str i) v):v=.str i:=by simpa only [RD] using h
theorem RD.non (h:RD K H .non v):v=.non:=by simpa only [RD] using h
theorem RD.tup {ds:List D} (h:RD K H (.tup ds) v):∃a xs,v=.ref a/\H a=some (.tup xs)/\RDs K H ds xs:=by simpa only [RD] using h
theorem RD.lst {ds:List D} (h:RD K H (.lst ds) v):∃a xs,v=.ref a/\H a=some (.lst xs)/\RDs K H ds xs:=by simpa only [RD] using h
theorem RD.dk {ks:List Key} {ds:List D} (h:RD K H (.dk ks ds) v):∃a xs,v=.ref a/\H a=some (.dK (ks.zip xs))/\ks.length=xs.length/\RDs K H ds xs:=by simpa only [RD] using h
theorem RD.dt {ks:List (List Key)} {ds:List D} (h:RD K H (.dt ks ds) v):∃a xs,v=.ref a/\H a=some (.dT (ks.zip xs))/\ks.length=xs.length/\RDs K H ds xs:=by simpa only [RD] using h
theorem RD.scr {ns:List Int} (h:RD K H (.scr ns) v):∃a,v=.ref a/\SqL K H a (ns.map V.int):=by
 simp only [RD] at h
 obtain ⟨a,e,h | h⟩:=h
 . exact ⟨a,e,.inl (.inr h)⟩
 . exact ⟨a,e,.inr h⟩
theorem RD.mkInt (i:Int):RD K H (.int i) (.int i):=by simp only [RD]
theorem RD.mkBl (i:Bool):RD K H (.bl i) (.bl i):=by simp only [RD]
theorem RD.mkNon:RD K H .non .non:=by simp only [RD]
theorem RD.mkStr (i:Str):RD K H (.str i) (.str i):=by simp only [RD]
theorem RD.mkTup {a:Addr} {xs:List V} {ds:List D} (h:H a=some (.tup xs)) (r:RDs K H ds xs):RD K H (.tup ds) (.ref a):=by simp only [RD];exact ⟨a,xs,rfl,h,r⟩
end
noncomputable def dI (g:Int->Int->D):D->D->Option D
 | .int i,.int j=>some (g i j)
 | _,_=>none
noncomputable def dIC (C:Int->Int->Prop) [∀i j,Decidable (C i j)] (g:Int->Int->D):D->D->Option D
 | .int i,.int j=>if C i j then some (g i j) else none
 | _,_=>none
noncomputable def dOr (o p:D->D->Option D):D->D->Option D:=fun d e=>match o d e with
 | some z=>some z
 | none=>p d e
section
variable {K:Frag}
theorem OpD.weak {fr:Bool} {o:D->D->Option D} {r:R2} (h:OpD K fr o r):OpD K false o r:=fun H0 H x y d e z Q s rx ry ho k=>h H0 H x y d e z Q s rx ry ho fun v H' q=>k v H' q.weak
theorem OpD.or {f1 f2:Bool} {o p:D->D->Option D} {r q:R2} (h1:OpD K f1 o r) (h2:OpD K f2 p q):OpD K false (dOr o p) (fun x y H Q=>r x y H Q\/q x y H Q):=by
 intro H0 H x y d e z Q s rx ry ho k
 unfold dOr at ho
 split at ho
 . rename_i z' hz
   cases ho
   exact .inl (h1.weak H0 H x y d e z Q s rx ry hz k)
 . exact .inr (h2.weak H0 H x y d e z Q s rx ry ho k)
theorem zs9 {gv:Int->Int->V} {gd:Int->Int->D} (h:∀i j H,RD K H (gd i j) (gv i j)):OpD K false (dI gd) (cI gv):=by
 intro H0 H x y d e z Q s rx ry ho k
 cases d<;>simp only [dI] at ho<;>first | cases ho | skip
 cases e<;>simp only [dI] at ho<;>first | cases ho | skip
 cases rx.int;cases ry.int
 exact k _ H (.pure s (h _ _ _))
theorem zj6 {C:Int->Int->Prop} [∀i j,Decidable (C i j)] {gv:Int->Int->V} {gd:Int->Int->D} (h:∀i j H,RD K H (gd i j) (gv i j)):OpD K false (dIC C gd) (cIC C gv):=by
 intro H0 H x y d e z Q s rx ry ho k
 cases d<;>simp only [dIC] at ho<;>first | cases ho | skip
 cases e<;>simp only [dIC] at ho<;>first | cases ho | skip
 cases rx.int;cases ry.int
 split at ho
 . rename_i hcc
   cases ho
   exact ⟨hcc,k _ H (.pure s (h _ _ _))⟩
 . cases ho
instance (i j:Int):Decidable (CMul i j):=by unfold CMul;infer_instance
instance (i j:Int):Decidable (zmy i j):=by unfold zmy;infer_instance
instance (i j:Int):Decidable (zmz i j):=by unfold zmz;infer_instance
noncomputable def z6y:D->D->Option D:=dI fun i j=>.int (i+j)
noncomputable def zl9:D->D->Option D:=dI fun i j=>.int (i - j)
noncomputable def zwc:D->D->Option D:=dIC CMul fun i j=>.int (i * j)
noncomputable def zqp:D->D->Option D:=dIC zmy fun i j=>.int (i / j)
noncomputable def zak:D->D->Option D:=dIC (fun _ j=>0<j) fun i j=>.int (i % j)
noncomputable def zwd:D->D->Option D:=dIC zmz fun i j=>.int (i ^ j.toNat)
noncomputable def zsa:D->D->Option D:=dI fun i j=>.bl (decide (i<j))
noncomputable def dLe:D->D->Option D:=dI fun i j=>.bl (decide (i<=j))
noncomputable def zqq:D->D->Option D:=dI fun i j=>.bl (decide (j<i))
noncomputable def dGe:D->D->Option D:=dI fun i j=>.bl (decide (j<=i))
theorem z2o:OpD K false z6y (cI fun i j=>.int (i+j)):=zs9 fun _ _ _=>.mkInt _
theorem z86:OpD K false zl9 (cI fun i j=>.int (i - j)):=zs9 fun _ _ _=>.mkInt _
theorem zsb:OpD K false zwc (cIC CMul fun i j=>.int (i * j)):=zj6 fun _ _ _=>.mkInt _
theorem zg6:OpD K false zqp (cIC zmy fun i j=>.int (i / j)):=zj6 fun _ _ _=>.mkInt _
theorem z1x:OpD K false zak (cIC (fun _ j=>0<j) fun i j=>.int (i % j)):=zj6 fun _ _ _=>.mkInt _
theorem zsc:OpD K false zwd (cIC zmz fun i j=>.int (i ^ j.toNat)):=zj6 fun _ _ _=>.mkInt _
theorem zg7:OpD K false zsa (cI fun i j=>.bl (decide (i<j))):=zs9 fun _ _ _=>.mkBl _
theorem zsd:OpD K false dLe (cI fun i j=>.bl (decide (i<=j))):=zs9 fun _ _ _=>.mkBl _
theorem zd7:OpD K false zqq (cI fun i j=>.bl (decide (j<i))):=zs9 fun _ _ _=>.mkBl _
noncomputable def znt:D->Option D
 | .int i=>some (.int (-i))
 | _=>none
theorem zd8:UnD K false znt (cU fun i=>.int (-i)):=by
 intro H0 H x d z Q s rx ho k
 cases d<;>simp only [znt] at ho<;>first | cases ho | skip
 cases rx.int
 exact k _ H (.pure s (.mkInt _))
noncomputable def zj7:D->D->Option D
 | .lst ds,.lst es=>if ds.length+es.length<=100000 then some (.lst (ds++es)) else none
 | _,_=>none
theorem zla {n:Nat} (h:n<=100000):n<=sizeLine:=Nat.le_trans h (by decide)
theorem zlb:OpD K true zj7 y05:=by
 intro H0 H x y d e z Q s rx ry ho k
 cases d<;>simp only [zj7] at ho<;>first | cases ho | skip
 cases e<;>simp only [zj7] at ho<;>first | cases ho | skip
 split at ho<;>cases ho
 rename_i hl
 obtain ⟨a,xs,rfl,ha,ra⟩:=rx.lst
 obtain ⟨b,ys,rfl,hb,rb⟩:=ry.lst
 refine ⟨a,b,xs,ys,rfl,rfl,s _ _ ha,s _ _ hb,by rw [<-ra.length,<-rb.length];exact zla hl,fun p hp=>k _ _ (.new s hp fun H' hH=>?_)⟩
 simp only [OB]
 exact ⟨_,hH,ra.append rb⟩
noncomputable def zqr:D->D->Option D
 | .lst ds,.int k=>if -(2 ^ 63)<=k/\k<2 ^ 63/\ds.length * k.toNat<=100000 then some (.lst (List.replicate k.toNat ds).flatten) else none
 | _,_=>none
theorem RDs.flat {K:Frag} {H:Hp} {ds:List D} {xs:List V} (h:RDs K H ds xs):∀k:Nat,RDs K H (List.replicate k ds).flatten (List.replicate k xs).flatten
 | 0=>by simp [RDs]
 | k+1=>by
  rw [List.replicate_succ,List.replicate_succ,List.flatten_cons,List.flatten_cons]
  exact h.append (h.flat k)
theorem zse:OpD K true zqr y06:=by
 intro H0 H x y d e z Q s rx ry ho k
 cases d<;>simp only [zqr] at ho<;>first | cases ho | skip
 cases e<;>simp only [zqr] at ho<;>first | cases ho | skip
 split at ho<;>cases ho
 rename_i hl
 obtain ⟨a,xs,rfl,ha,ra⟩:=rx.lst
 cases ry.int
 refine ⟨a,_,xs,rfl,rfl,s _ _ ha,hl.1,hl.2.1,by rw [<-ra.length];exact zla hl.2.2,fun p hp=>k _ _ (.new s hp fun H' hH=>?_)⟩
 simp only [OB]
 exact ⟨_,hH,ra.flat _⟩
end
noncomputable def dEq:D->D->Option D:=fun d e=>if d.pl=true/\e.pl=true/\d.dep<=20 then some (.bl (eqD d e)) else none
noncomputable def dNe:D->D->Option D:=fun d e=>if d.pl=true/\e.pl=true/\d.dep<=20 then some (.bl (!eqD d e)) else none
noncomputable def y0f (K:Frag):R2:=fun x y H Q=>∃d e,RD K H d x/\RD K H e y/\d.pl=true/\e.pl=true/\d.dep<=20/\Q (.bl (eqD d e)) H
noncomputable def y0g (K:Frag):R2:=fun x y H Q=>∃d e,RD K H d x/\RD K H e y/\d.pl=true/\e.pl=true/\d.dep<=20/\Q (.bl (!eqD d e)) H
noncomputable def zwe (neg:Bool):D->D->Option D:=fun d c=>match c with
 | .lst es=>if d.pl=true/\pls es=true/\z40 es<=20 then some (.bl (if neg then !(es.any fun e=>eqD e d) else es.any fun e=>eqD e d)) else none
 | .tup es=>if d.pl=true/\pls es=true/\z40 es<=20 then some (.bl (if neg then !(es.any fun e=>eqD e d) else es.any fun e=>eqD e d)) else none
 | _=>none
noncomputable def zwf (K:Frag) (neg:Bool):R2:=fun x y H Q=>∃p xs d es,y=.ref p/\(H p=some (.lst xs)\/H p=some (.tup xs))/\RD K H d x/\RDs K H es xs/\d.pl=true/\pls es=true/\z40 es<=20/\Q (.bl (if neg then !(es.any fun e=>eqD e d) else es.any fun e=>eqD e d)) H
section
variable {X:Cx} {K:Frag}
theorem znu (hu:X.A.units+64<cLine):OpR X (compareOp .Eq) (y0f X.K):=by
 intro pins s σ H x y v u Q I rx ry h
 obtain ⟨d,e,h1,h2,p1,p2,h3,q⟩:=h
 exact (zl4 (n:=20) I p1 p2 h3 (by omega) h1 h2 rx ry).1 X.prog X.w X.xe _ ⟨.bl _,H,I,rfl,q⟩
theorem zxu (hu:X.A.units+64<cLine):OpR X (compareOp .NotEq) (y0g X.K):=by
 intro pins s σ H x y v u Q I rx ry h
 obtain ⟨d,e,h1,h2,p1,p2,h3,q⟩:=h
 exact (zl4 (n:=20) I p1 p2 h3 (by omega) h1 h2 rx ry).2 X.prog X.w X.xe _ ⟨.bl _,H,I,rfl,q⟩
theorem znv:OpD K false dEq (y0f K):=by
 intro H0 H x y d e z Q s rx ry ho k
 unfold dEq at ho
 split at ho<;>cases ho
 rename_i h
 exact ⟨d,e,rx.mono s,ry.mono s,h.1,h.2.1,h.2.2,k _ H (.pure s (.mkBl _))⟩
theorem zxv:OpD K false dNe (y0g K):=by
 intro H0 H x y d e z Q s rx ry ho k
 unfold dNe at ho
 split at ho<;>cases ho
 rename_i h
 exact ⟨d,e,rx.mono s,ry.mono s,h.1,h.2.1,h.2.2,k _ H (.pure s (.mkBl _))⟩
theorem y1f (hu:X.A.units+64<cLine):OpR X (compareOp .In) (zwf X.K false):=by
 intro pins s σ H x y v u Q I rx ry h
 obtain ⟨p,xs,d,es,rfl,hp,hx,hes,pd,pe,hd,q⟩:=h
 cases ry
 rcases hp with hq | hq
 . obtain ⟨its,rv,pl,_⟩:=I.list (.of hq)
   refine SeqAt.in_listAt (hitD X.K H d) pl.isList (fun y hy=>z6t (A:=X.A) I (by omega) pd hx rx pe hes rv hd y (by simpa using hy)) ⟨.bl _,H,I,rfl,?_⟩
   rw [show its.toArray.any (hitD X.K H d)=its.any (hitD X.K H d) by simp,z4d pe hes rv]
   simpa using q
 . obtain ⟨its,rv,pl,_⟩:=I.tuple (.of hq)
   refine SeqAt.in_tupleAt (hitD X.K H d) pl (fun y hy=>z6t (A:=X.A) I (by omega) pd hx rx pe hes rv hd y (by simpa using hy)) ⟨.bl _,H,I,rfl,?_⟩
   rw [show its.toArray.any (hitD X.K H d)=its.any (hitD X.K H d) by simp,z4d pe hes rv]
   simpa using q
theorem zj8 (hu:X.A.units+64<cLine):OpR X (compareOp .NotIn) (zwf X.K true):=by
 intro pins s σ H x y v u Q I rx ry h
 obtain ⟨p,xs,d,es,rfl,hp,hx,hes,pd,pe,hd,q⟩:=h
 cases ry
 rcases hp with hq | hq
 . obtain ⟨its,rv,pl,_⟩:=I.list (.of hq)
   refine SeqAt.notIn_listAt (hitD X.K H d) pl.isList (fun y hy=>z6t (A:=X.A) I (by omega) pd hx rx pe hes rv hd y (by simpa using hy)) ⟨.bl _,H,I,rfl,?_⟩
   rw [show its.toArray.any (hitD X.K H d)=its.any (hitD X.K H d) by simp,z4d pe hes rv]
   simpa using q
 . obtain ⟨its,rv,pl,_⟩:=I.tuple (.of hq)
   refine SeqAt.notIn_tupleAt (hitD X.K H d) pl (fun y hy=>z6t (A:=X.A) I (by omega) pd hx rx pe hes rv hd y (by simpa using hy)) ⟨.bl _,H,I,rfl,?_⟩
   rw [show its.toArray.any (hitD X.K H d)=its.any (hitD X.K H d) by simp,z4d pe hes rv]
   simpa using q
theorem od_inS {neg:Bool}:OpD K false (zwe neg) (zwf K neg):=by
 intro H0 H x y d e z Q s rx ry ho k
 unfold zwe at ho
 cases e<;>dsimp only at ho<;>first | cases ho | skip
 . split at ho<;>cases ho
   rename_i es h
   obtain ⟨a,xs,rfl,ha,ra⟩:=ry.tup
   exact ⟨a,xs,d,es,rfl,.inr (s _ _ ha),rx.mono s,ra.mono s,h.1,h.2.1,h.2.2,k _ H (.pure s (.mkBl _))⟩
 . split at ho<;>cases ho
   rename_i es h
   obtain ⟨a,xs,rfl,ha,ra⟩:=ry.lst
   exact ⟨a,xs,d,es,rfl,.inl (s _ _ ha),rx.mono s,ra.mono s,h.1,h.2.1,h.2.2,k _ H (.pure s (.mkBl _))⟩
end
noncomputable def zg8:D->Option Key
 | .int i=>some (.inl i)
 | .str x=>some (.inr x)
 | _=>none
noncomputable def zal:List D->Option (List Key)
 | []=>some []
 | d::ds=>match zg8 d,zal ds with
  | some k,some ks=>some (k::ks)
  | _,_=>none
theorem zc4 {K:Frag} {H:Hp} {d:D} {k:Key} {v:V} (h:zg8 d=some k) (r:RD K H d v):v=kV k:=by
 cases d<;>simp only [zg8] at h<;>first | cases h | skip
 . cases r.int;rfl
 . cases r.str;rfl
theorem z92 {K:Frag} {H:Hp}:∀{ds:List D} {ks:List Key} {xs:List V},zal ds=some ks->RDs K H ds xs->xs=ks.map kV
 | [],ks,xs,h,r=>by
  simp only [zal] at h;cases h
  simp only [RDs] at r;subst r;rfl
 | d::ds,ks,xs,h,r=>by
  simp only [RDs] at r
  obtain ⟨x,xs,rfl,r1,r2⟩:=r
  simp only [zal] at h
  split at h<;>cases h
  rename_i k ks h1 h2
  rw [zc4 h1 r1,z92 h2 r2];rfl
def ROp (K:Frag) (H:Hp):Option D->Option V->Prop
 | some z,w=>∃v,w=some v/\RD K H z v
 | none,w=>w=none
section
variable {κ:Type} [DecidableEq κ]
noncomputable def lookD (ks:List κ) (ds:List D) (k:κ):Option D:=((ks.zip ds).find? fun kv=>decide (kv.1=k)).map (·.2)
theorem zc5 {K:Frag} {H:Hp} (k:κ):∀{ks:List κ} {ds:List D} {xs:List V},ks.length=xs.length->RDs K H ds xs->ROp K H (lookD ks ds k) (zbt (ks.zip xs) k)
 | [],ds,xs,_,_=>by simp [lookD,zbt,ROp]
 | k'::ks,[],xs,h,r=>by
  simp only [RDs] at r;subst r;simp at h
 | k'::ks,d::ds,xs,h,r=>by
  simp only [RDs] at r
  obtain ⟨x,xs,rfl,r1,r2⟩:=r
  have ih:=zc5 k (by simpa using h) r2 (ks:=ks)
  simp only [lookD,zbt,List.zip_cons_cons,List.find?_cons] at ih ⊢
  by_cases e:k'=k
  . simp only [e,decide_true]
    exact ⟨x,rfl,r1⟩
  . simp only [e,decide_false]
    exact ih
noncomputable def z4h (ks:List κ) (k:κ):List κ:=if k∈ks then ks else ks++[k]
noncomputable def z7o {β:Type} (ks:List κ) (ds:List β) (k:κ) (d:β):List β:=if k∈ks then List.zipWith (fun k' d'=>if k'=k then d else d') ks ds else ds++[d]
theorem zd9 (k:κ) (v:V) {ks:List κ} {xs:List V} (hl:ks.length=xs.length):zcv (ks.zip xs) k v=(z4h ks k).zip (z7o ks xs k v)/\(z4h ks k).length=(z7o ks xs k v).length:=by
 have any:∀(ks:List κ) (xs:List V),ks.length=xs.length->((ks.zip xs).any fun kv=>decide (kv.1=k))=decide (k∈ks):=by
  intro ks
  induction ks with
  | nil=>intro xs _;simp
  | cons k' ks ih=>
   intro xs h
   cases xs with
   | nil=>simp at h
   | cons x xs=>
    simp only [List.zip_cons_cons,List.any_cons]
    rw [ih xs (by simpa using h)]
    by_cases e:k'=k
    . simp [e]
    . by_cases m:k∈ks<;>simp [e,m,Ne.symm e]
 have mp:∀(ks:List κ) (xs:List V),ks.length=xs.length->(ks.zip xs).map (fun kv=>if kv.1=k then (kv.1,v) else kv)=ks.zip (List.zipWith (fun k' d'=>if k'=k then v else d') ks xs):=by
  intro ks
  induction ks with
  | nil=>intro xs _;simp
  | cons k' ks ih=>
   intro xs h
   cases xs with
   | nil=>simp at h
   | cons x xs=>
    simp only [List.zip_cons_cons,List.map_cons,List.zipWith_cons_cons]
    rw [ih xs (by simpa using h)]
    by_cases e:k'=k<;>simp [e]
 unfold zcv z4h z7o
 rw [any ks xs hl]
 by_cases m:k∈ks
 . rw [if_pos (by simpa using m),if_pos m,if_pos m]
   exact ⟨mp ks xs hl,by simp [hl]⟩
 . rw [if_neg (by simpa using m),if_neg m,if_neg m]
   exact ⟨by rw [List.zip_append hl];rfl,by simp [hl]⟩
theorem zc6 {K:Frag} {H:Hp} (k:κ) {d:D} {v:V} (rv:RD K H d v) {ks:List κ} {ds:List D} {xs:List V} (r:RDs K H ds xs):RDs K H (z7o ks ds k d) (z7o ks xs k v):=by
 have zw:∀(ks:List κ) (ds:List D) (xs:List V),RDs K H ds xs->RDs K H (List.zipWith (fun k' d'=>if k'=k then d else d') ks ds) (List.zipWith (fun k' d'=>if k'=k then v else d') ks xs):=by
  intro ks
  induction ks with
  | nil=>intro ds xs _;simp [RDs]
  | cons k' ks ih=>
   intro ds xs r
   cases ds with
   | nil=>simp only [RDs] at r;subst r;simp [RDs]
   | cons d' ds=>
    simp only [RDs] at r
    obtain ⟨x,xs,rfl,r1,r2⟩:=r
    simp only [List.zipWith_cons_cons]
    refine .cons ?_ (ih ds xs r2)
    by_cases e:k'=k
    . rw [if_pos e,if_pos e];exact rv
    . rw [if_neg e,if_neg e];exact r1
 unfold z7o
 by_cases m:k∈ks
 . rw [if_pos m,if_pos m];exact zw ks ds xs r
 . rw [if_neg m,if_neg m];exact r.append (.one rv)
end
noncomputable def zam:D->D->Option (Option D)
 | .dk ks ds,k=>(zg8 k).map fun k=>lookD ks ds k
 | .dt ks ds,.tup es=>(zal es).map fun k=>lookD ks ds k
 | _,_=>none
theorem zg9 {K:Frag} {H:Hp} {d k:D} {x y:V} {o:Option D} (h:zam d k=some o) (rx:RD K H d x) (ry:RD K H k y) :
  ∃a w,x=.ref a/\DGet H a y w/\ROp K H o w:=by
 cases d<;>simp only [zam] at h<;>first | cases h | skip
 . rename_i ks ds
   obtain ⟨a,xs,rfl,ha,hl,rs⟩:=rx.dk
   cases hk:zg8 k with
   | none=>rw [hk] at h;cases h
   | some k'=>
    rw [hk] at h
    have h:lookD ks ds k'=o:=by simpa using h
    subst h
    cases zc4 hk ry
    exact ⟨a,_,rfl,DGet.k ha,zc5 k' hl rs⟩
 . rename_i ks ds
   cases k<;>simp only [zam] at h<;>first | cases h | skip
   rename_i es
   obtain ⟨a,xs,rfl,ha,hl,rs⟩:=rx.dt
   obtain ⟨b,ys,rfl,hb,rb⟩:=ry.tup
   cases hk:zal es with
   | none=>rw [hk] at h;cases h
   | some k'=>
    rw [hk] at h
    have h:lookD ks ds k'=o:=by simpa using h
    subst h
    have e:=z92 hk rb
    subst e
    exact ⟨a,_,rfl,DGet.t ha hb,zc5 k' hl rs⟩
noncomputable def zxw (neg:Bool):D->D->Option D:=fun k d=>(zam d k).map fun o=>.bl (if neg then !o.isSome else o.isSome)
noncomputable def zwg (neg:Bool):R2:=fun y x H Q=>∃a w,x=.ref a/\DGet H a y w/\Q (.bl (if neg then !w.isSome else w.isSome)) H
noncomputable def zwh:D->D->Option D:=fun d k=>(zam d k).bind id
noncomputable def zxx:R2:=fun x y H Q=>∃a w,x=.ref a/\DGet H a y (some w)/\Q w H
noncomputable def z93:D->D->Option D
 | .lst ds,.int i=>atI ds i
 | .tup ds,.int i=>atI ds i
 | .scr ns,.int i=>(atI ns i).map D.int
 | .str z,.int i=>if z.length<=100000 then (atI z.cps.toList i).map fun c=>D.str ⟨#[c]⟩ else none
 | _,_=>none
theorem RDs.atI {K:Frag} {H:Hp} {ds:List D} {xs:List V} {i:Int} {d:D} (r:RDs K H ds xs) (h:L2.atI ds i=some d):∃v,L2.atI xs i=some v/\RD K H d v:=by
 unfold L2.atI at h ⊢
 rw [<-r.length]
 cases q:ixN ds.length i with
 | none=>rw [q] at h;cases h
 | some j=>
  rw [q] at h
  exact r.get' h
theorem znw {α β:Type} (f:α->β) (xs:List α) (i:Int):atI (xs.map f) i=(atI xs i).map f:=by
 unfold atI
 rw [List.length_map]
 cases ixN xs.length i with
 | none=>rfl
 | some j=>simp
section
variable {X:Cx} {K:Frag}
theorem y1g (hu:X.A.units+64<cLine):OpR X (compareOp .In) (zwg false):=by
 intro pins s σ H x y v u Q I rx ry h
 obtain ⟨a,w,rfl,g,q⟩:=h
 cases ry
 exact y11 (by omega) I g rx fun s' I'=>⟨.bl w.isSome,H,I',rfl,by simpa using q⟩
theorem zj9 (hu:X.A.units+64<cLine):OpR X (compareOp .NotIn) (zwg true):=by
 intro pins s σ H x y v u Q I rx ry h
 obtain ⟨a,w,rfl,g,q⟩:=h
 cases ry
 exact zn7 (by omega) I g rx fun s' I'=>⟨.bl (!w.isSome),H,I',rfl,by simpa using q⟩
theorem zsf {neg:Bool}:OpD K false (zxw neg) (zwg neg):=by
 intro H0 H x y d e z Q s rx ry ho k
 unfold zxw at ho
 cases ho':zam e d with
 | none=>rw [ho'] at ho;cases ho
 | some o=>
  rw [ho'] at ho;cases ho
  obtain ⟨a,w,rfl,g,m⟩:=zg9 ho' (ry.mono s) (rx.mono s)
  refine ⟨a,w,rfl,g,k _ H ?_⟩
  have e:w.isSome=o.isSome:=by
   cases o with
   | none=>rw [show w=none from m];rfl
   | some z=>obtain ⟨v,e,_⟩:=m;rw [e];rfl
  rw [e]
  exact .pure s (.mkBl _)
noncomputable def dIn (neg:Bool):D->D->Option D:=dOr (zwe neg) (zxw neg)
noncomputable def y0h (K:Frag) (neg:Bool):R2:=fun x y H Q=>zwf K neg x y H Q\/zwg neg x y H Q
theorem zda (hu:X.A.units+64<cLine):OpR X (compareOp .NotIn) (y0h X.K true):=(zj8 hu).or (zj9 hu)
theorem zsg {neg:Bool}:OpD K false (dIn neg) (y0h K neg):=od_inS.or zsf
theorem znx (hu:X.A.units+64<cLine):IxR X zxx:=by
 intro value slice pins s σ H x y v u Q I rx ry h hs
 obtain ⟨a,w,rfl,g,q⟩:=h
 cases rx
 exact tail_any (ops:=[.ref a,u]) (zbv I g) PySem.F.slot_dict_getitem.lookup (zfg (by omega) I g ry fun w' s3 I3 rw'=>⟨w,H,I3,rw',q⟩) hs
theorem zsh:OpD K false zwh zxx:=by
 intro H0 H x y d e z Q s rx ry ho k
 unfold zwh at ho
 cases ho':zam d e with
 | none=>rw [ho'] at ho;cases ho
 | some o=>
  rw [ho'] at ho
  have ho:o=some z:=ho
  subst ho
  obtain ⟨a,w,e0,g,m⟩:=zg9 ho' rx ry
  obtain ⟨v,rfl,rv⟩:=m
  subst e0
  refine ⟨a,v,rfl,?_,k _ H (.pure s rv)⟩
  rcases g with ⟨kvs,kk,e1,e2,e3⟩ | ⟨kvs,kk,b,e1,e2,e3,e4⟩
  . refine .inl ⟨kvs,kk,?_,e2,e3⟩
    rcases e1 with e1 | ⟨o,e1⟩
    . exact .inl (s _ _ e1)
    . exact .inr ⟨o,s _ _ e1⟩
  . refine .inr ⟨kvs,kk,b,?_,e2,s _ _ e3,e4⟩
    rcases e1 with e1 | ⟨o,e1⟩
    . exact .inl (s _ _ e1)
    . exact .inr ⟨o,s _ _ e1⟩
theorem od_ixS:OpD K false z93 (rIx K):=by
 intro H0 H x y d e z Q s rx ry ho k
 cases d<;>simp only [z93] at ho<;>first | cases ho | skip
 . -- a text
   cases e<;>simp only [z93] at ho<;>first | cases ho | skip
   cases rx.str;cases ry.int
   split at ho
   . rename_i z' i hl
     cases hc:atI z'.cps.toList i with
     | none=>rw [hc] at ho;cases ho
     | some c=>
      rw [hc] at ho;cases ho
      exact .inr (.inr ⟨z',i,c,rfl,rfl,zla hl,hc,k _ H (.pure s (.mkStr _))⟩)
   . cases ho
 . cases e<;>simp only [z93] at ho<;>first | cases ho | skip
   obtain ⟨a,xs,rfl,ha,ra⟩:=rx.tup
   cases ry.int
   obtain ⟨v,hv,rv⟩:=ra.atI ho
   exact .inr (.inl ⟨a,xs,_,v,rfl,rfl,.of (s _ _ ha),hv,k _ H (.pure s rv)⟩)
 . cases e<;>simp only [z93] at ho<;>first | cases ho | skip
   obtain ⟨a,xs,rfl,ha,ra⟩:=rx.lst
   cases ry.int
   obtain ⟨v,hv,rv⟩:=ra.atI ho
   exact .inl ⟨a,xs,_,v,rfl,rfl,.of (s _ _ ha),hv,k _ H (.pure s rv)⟩
 . cases e<;>simp only [z93] at ho<;>first | cases ho | skip
   rename_i ns i
   cases ry.int
   obtain ⟨a,rfl,ha⟩:=(rx.mono s).scr
   cases hc:atI ns i with
   | none=>rw [hc] at ho;cases ho
   | some c=>
    rw [hc] at ho;cases ho
    exact .inl ⟨a,_,i,.int c,rfl,rfl,ha,by rw [znw,hc];rfl,k _ H (.pure s (.mkInt _))⟩
noncomputable def dIx:D->D->Option D:=dOr z93 zwh
noncomputable def y0i (K:Frag):R2:=fun x y H Q=>rIx K x y H Q\/zxx x y H Q
theorem y1h (hu:X.A.units+64<cLine):IxR X (y0i X.K):=ix_seq.or (znx hu)
theorem zxy:OpD K false dIx (y0i K):=od_ixS.or zsh
end
structure QE (X:Cx) (EX:XW) (fr:Bool) (e:Expr) (f:DE->R D):Prop where
 h:PE X e (TEd X.K EX fr f)
structure QT (X:Cx) (EX:XW) (e:Expr) (t:DE->R Bool):Prop where
 h:PT X e (TTd X.K EX t)
structure QW (X:Cx) (EX:XW) (e:Expr) (t:DE->R Bool):Prop where
 h:PW X e (TTd X.K EX t)
structure QA (X:Cx) (EX:XW) (es:List Expr) (f:DE->R (List D)):Prop where
 h:PA X es (TAd X.K EX f)
structure QI (X:Cx) (EX:XW) (kp:Bool) (tg e:Expr) (f:DE->R (List D)):Prop where
 h:PI X tg e (TId X.K EX kp f)
structure QG (X:Cx) (tg:Expr) (t:Tg):Prop where
 h:PG X tg (TGd X.K t)
structure QGs (X:Cx) (ts:List Expr) (is:List Nat):Prop where
 h:PGs X ts (zd4 is)
structure QS (X:Cx) (EX:XW) (fr:Bool) (st:Stmt) (g:DS->SR):Prop where
 h:PS X st (TSd X.K EX fr g)
structure QB (X:Cx) (EX:XW) (fr:Bool) (sts:List Stmt) (g:DS->SR):Prop where
 h:PSs X sts (TSd X.K EX fr g)
structure QCT (X:Cx) (EX:XW) (ops:List CmpOp) (rs:List Expr) (g:D->DE->R Bool):Prop where
 h:PChT X ops rs (zfz X.K EX g)
section
variable {X:Cx} {EX:XW} {fr:Bool} {a b e:Expr} {es rest:List Expr} {fa fb:DE->R D} {fs:DE->R (List D)} {t u:DE->R Bool} {pos p:Pos} {x:Str}
theorem PA.imp {es:List Expr} {t t':TA} (h:PA X es t) (hi:∀σ H Q,t' σ H Q->t σ H Q):PA X es t':=fun pos pins s σ H Q I q=>h pos pins s σ H Q I (hi σ H Q q)
theorem PW.imp {e:Expr} {t t':TT} (h:PW X e t) (hi:∀σ H Q,t' σ H Q->t σ H Q):PW X e t':=fun wh pins s σ H Q I q=>h wh pins s σ H Q I (hi σ H Q q)
theorem PI.imp {tg e:Expr} {t t':TI} (h:PI X tg e t) (hi:∀σ H Q,t' σ H Q->t σ H Q):PI X tg e t':=fun pins s σ H Q I q=>h pins s σ H Q I (hi σ H Q q)
theorem PS.imp {st:Stmt} {t t':TS} (h:PS X st t) (hi:∀D σ H,t' D σ H->t D σ H):PS X st t':=fun pins s σ H D I q=>h pins s σ H D I (hi D σ H q)
theorem PSs.imp {st:List Stmt} {t t':TS} (h:PSs X st t) (hi:∀D σ H,t' D σ H->t D σ H):PSs X st t':=fun pins s σ H D I q=>h pins s σ H D I (hi D σ H q)
theorem QE.wk {f:DE->R D} (h:QE X EX true e f):QE X EX false e f:=⟨h.h.imp fun _ _ _ q=>q.weak⟩
theorem qv (i:Nat) {x:Str} {pos:Pos} (hN:X.N[i]?=some x:=by rfl) (hv:Vis X.env.scope x:=by first | exact Or.inl rfl | exact Or.inr (Or.inl rfl) | exact Or.inr (Or.inr rfl)) (hd:(x==("__debug__":Str))=false:=by decide)
 (hcd:(x==("__classdict__":Str))=false:=by decide):QE X EX false (.Name x pos) (z04 i):=⟨(zks hN hv hd hcd).imp fun σ H Q q=>zxb q⟩
theorem z08 {i j pos}:QE X EX false (.Constant (.int i) j pos) (eC (.int i)):=⟨pe_int.imp fun σ H Q q=>z8x (fun _=>.mkInt i) q⟩
theorem zc7 {i j pos}:QE X EX false (.Constant (.bool i) j pos) (eC (.bl i)):=⟨pe_bl.imp fun σ H Q q=>z8x (fun _=>.mkBl i) q⟩
theorem zxz {j pos}:QE X EX false (.Constant .none j pos) (eC .non):=⟨pe_non.imp fun σ H Q q=>z8x (fun _=>.mkNon) q⟩
theorem zny {i j pos}:QE X EX false (.Constant (.str i) j pos) (eC (.str i)):=⟨pe_str.imp fun σ H Q q=>z8x (fun _=>.mkStr i) q⟩
theorem z0i {op:Operator} {r:R2} {o:D->D->Option D} (ho:OpR X (binaryOp op) r) (od:OpD X.K fr o r) (ha:QE X EX false a fa) (hb:QE X EX false b fb):QE X EX fr (.BinOp a op b pos) (eOp o fa fb):=⟨(zwr ho ha.h hb.h).imp fun _ _ _ q=>zwb od q⟩
theorem zwi {op:UnaryOp} {r:V->Hp->VK->Prop} {o:D->Option D} (ho:UnR X (unaryOp op) r) (od:UnD X.K fr o r) (ha:QE X EX false a fa):QE X EX fr (.UnaryOp op a pos) (eUn o fa):=⟨(zws ho ha.h).imp fun _ _ _ q=>y15 od q⟩
theorem zsi {op:CmpOp} {r:R2} {o:D->D->Option D} (ho:OpR X (compareOp op) r) (od:OpD X.K false o r) (ha:QE X EX false a fa) (hb:QE X EX false b fb) (hm:behindInMarks op b=false) :
 QE X EX false (.Compare a [op] [b] pos) (eOp o fa fb):=⟨(zn0 ho ha.h hb.h hm).imp fun _ _ _ q=>zwb od q⟩
theorem zy0 {r:R2} {o:D->D->Option D} (ho:IxR X r) (od:OpD X.K false o r) (ha:QE X EX false a fa) (hb:QE X EX false b fb) (hs:zbs b:=by exact fun _ _=>rfl):QE X EX false (.Subscript a b pos) (eOp o fa fb):=⟨(zwx ho ha.h hb.h hs).imp fun _ _ _ q=>zwb od q⟩
theorem z06:QA X EX [] z0e:=⟨pa_nil.imp fun _ _ _ q=>zrz q⟩
theorem z00 (ha:QE X EX false e fa) (hr:QA X EX es fs) (hs:starEach (e::es) X.env=(false,eval e X.env)::starEach es X.env:=by rfl):QA X EX (e::es) (z01 fa fs):=⟨(z2z ha.h hr.h hs).imp fun _ _ _ q=>zfy q⟩
theorem z6z {x1} (h:QA X EX es fs):QE X EX false (.Tuple es x1 pos) (zbz fs):=⟨(zr8 h.h).imp fun _ _ _ q=>zxd q⟩
theorem z28 (h:QA X EX es fs):QE X EX true (.List es pos) (z64 fs):=⟨(zr9 h.h).imp fun _ _ _ q=>zxe q⟩
theorem zsj (ha:QE X EX false a fa) (hb:QE X EX false (.BoolOp .And (b::rest) pos) fb):QE X EX false (.BoolOp .And (a::b::rest) pos) (zqn fa fb):=⟨(znc ha.h hb.h).imp fun _ _ _ q=>zxi q⟩
theorem y0j (ha:QE X EX false a fa) (hb:QE X EX false (.BoolOp .Or (b::rest) pos) fb):QE X EX false (.BoolOp .Or (a::b::rest) pos) (eOr fa fb):=⟨(zrr ha.h hb.h).imp fun _ _ _ q=>y18 q⟩
theorem znz {op} (h:QE X EX false a fa):QE X EX false (.BoolOp op [a] pos) fa:=⟨zr3 h.h⟩
noncomputable def zbg:D->Option Bool
 | .bl b=>some b
 | .int i=>some (i != 0)
 | .non=>some false
 | .str z=>if z.length<=100000 then some ((z.length:Int) != 0) else none
 | .lst ds=>some (!ds.isEmpty)
 | .tup ds=>some (!ds.isEmpty)
 | .dk ks _=>some (!ks.isEmpty)
 | _=>none
theorem z42 {α β:Type} {xs:List α} {ys:List β} (h:xs.length=ys.length):xs.isEmpty=ys.isEmpty:=by
 cases xs<;>cases ys<;>first | rfl | simp at h
theorem zlc {K:Frag}:zxa K zbg zae:=by
 intro H0 H x d b Q s rx ht q
 cases d<;>simp only [zbg] at ht<;>first | cases ht | skip
 . cases rx.non;exact q
 . cases rx.bl;exact q
 . cases rx.int;exact q
 . split at ht<;>cases ht
   rename_i h
   cases rx.str
   exact ⟨zla h,q⟩
 . obtain ⟨p,xs,rfl,hp,r⟩:=rx.tup
   unfold zae
   dsimp only
   rw [zfm (s _ _ hp)]
   rw [z42 r.length] at q;exact q
 . obtain ⟨p,xs,rfl,hp,r⟩:=rx.lst
   unfold zae
   dsimp only
   rw [zfl (s _ _ hp)]
   rw [z42 r.length] at q;exact q
 . rename_i ks es
   obtain ⟨p,xs,rfl,hp,hl,r⟩:=rx.dk
   unfold zae
   dsimp only
   have e:z7q H p=none:=by unfold z7q;rw [s _ _ hp]
   rw [e]
   dsimp only
   rw [s _ _ hp]
   dsimp only
   rw [z42 (show ks.length=(List.zip ks xs).length by rw [List.length_zip,<-hl,Nat.min_self])] at q
   exact q
theorem zsk (ha:QE X EX false a fa):QE X EX false (.UnaryOp .Not a pos) (eUn (fun d=>(zbg d).map fun b=>.bl (!b)) fa):=⟨(znd ha.h).imp fun _ _ _ q=>zs3 zlc q⟩
theorem zan (ha:QE X EX false a fa) (he:∀whole,isTrue a X.env whole=(do let v <-whole;standAt a.pos;holding [v] (truthy v)):=by intro _;rfl):QT X EX a (z2i zbg fa):=⟨(zrn ha.h he).imp fun _ _ _ q=>zxj zlc q⟩
theorem z70 {op:CmpOp} {r:R2} {o:D->D->Option D} (ho:OpR X (compareOp op) r) (od:OpD X.K false o r) (ha:QE X EX false a fa) (hb:QE X EX false b fb) (hm:behindInMarks op b=false) :
 QT X EX (.Compare a [op] [b] pos) (z2i asB (eOp o fa fb)):=⟨(znb ho ha.h hb.h hm).imp fun _ _ _ q=>zxk od q⟩
theorem QW.pt (h:QW X EX a t):QT X EX a t:=⟨h.h.pt⟩
theorem zsl (ha:QT X EX a t):QT X EX (.UnaryOp .Not a pos) (zqm t):=⟨(zr2 ha.h).imp fun _ _ _ q=>zs1 q⟩
theorem zga (ha:QT X EX a t):QW X EX (.BoolOp .And [a] pos) t:=⟨zmu ha.h⟩
theorem zo0 (ha:QT X EX a t):QW X EX (.BoolOp .Or [a] pos) t:=⟨zr0 ha.h⟩
theorem zja (ha:QT X EX a t) (hb:QW X EX (.BoolOp .And (b::rest) pos) u):QW X EX (.BoolOp .And (a::b::rest) pos) (zl5 t u):=⟨(zr1 ha.h hb.h).imp fun _ _ _ q=>zs0 q⟩
theorem zqs (ha:QT X EX a t) (hb:QW X EX (.BoolOp .Or (b::rest) pos) u):QW X EX (.BoolOp .Or (a::b::rest) pos) (bOr t u):=⟨(zwl ha.h hb.h).imp fun _ _ _ q=>zxf q⟩
theorem PChT.imp {ops:List CmpOp} {rs:List Expr} {t t':V->TT} (h:PChT X ops rs t) (hi:∀x σ H Q,t' x σ H Q->t x σ H Q):PChT X ops rs t':=fun pos pins s σ H x v Q I r q=>h pos pins s σ H x v Q I r (hi x σ H Q q)
variable {gt:D->DE->R Bool} {op op':CmpOp} {ops:List CmpOp} {r:R2} {o:D->D->Option D} {r':Expr} {rs:List Expr}
theorem zo1 (ho:OpR X (compareOp op) r) (od:OpD X.K false o r) (hb:QE X EX false b fb):QCT X EX [op] [b] (zaf o fb):=⟨(zfn ho hb.h).imp fun _ _ _ _ q=>znm od q⟩
theorem zo2 (ho:OpR X (compareOp op) r) (od:OpD X.K false o r) (hb:QE X EX false b fb) (hr:QCT X EX (op'::ops) (r'::rs) gt):QCT X EX (op::op'::ops) (b::r'::rs) (zag o fb gt):=⟨(zfo ho hb.h hr.h).imp fun _ _ _ _ q=>znn od q⟩
theorem zy1 {op₁ op₂:CmpOp} {r₁ r₂:Expr} (ha:QE X EX false a fa) (hr:QCT X EX (op₁::op₂::ops) (r₁::r₂::rs) gt) (hm:lastMarks (op₁::op₂::ops) (r₁::r₂::rs)=false:=by with_unfolding_all rfl) :
 QT X EX (.Compare a (op₁::op₂::ops) (r₁::r₂::rs) pos) (zs2 fa gt):=⟨(zrp ha.h hr.h hm).imp fun _ _ _ q=>zs4 q⟩
theorem zsm {id:String} {rr:List V->Hp->VK->Prop} {m:List D->Option D} (hc:CallR X (.builtin id) rr) (od:z7r X.K fr m rr) (hg:Gl X x) (hm:X.mg x=none) (hv:bootBuiltins x=some (.builtin id)) (ha:QA X EX (e::es) fs) (hn:x≠"__name__":=by decide) (hdb:(x==("__debug__":Str))=false:=by decide)
 (he:starEach (e::es) X.env=(false,eval e X.env)::starEach es X.env:=by rfl) (hpl:(backTo pos (starEach es X.env)).any (·.1)=false:=by rfl):QE X EX fr (.Call (.Name x p) (e::es) [] pos) (eCB m fs):=⟨(z8m hc hg hm hv ha.h hn hdb he hpl).imp fun _ _ _ q=>zxc od q⟩
theorem zjb {T:String} {rr:List V->Hp->VK->Prop} {m:List D->Option D} (hc:CallR X (.type T) rr) (od:z7r X.K fr m rr) (hg:Gl X x) (hm:X.mg x=none) (hv:bootBuiltins x=some (.type T)) (ha:QA X EX (e::es) fs) (hn:x≠"__name__":=by decide) (hdb:(x==("__debug__":Str))=false:=by decide)
 (he:starEach (e::es) X.env=(false,eval e X.env)::starEach es X.env:=by rfl) (hpl:(backTo pos (starEach es X.env)).any (·.1)=false:=by rfl):QE X EX fr (.Call (.Name x p) (e::es) [] pos) (eCB m fs):=⟨(zf8 hc hg hm hv ha.h hn hdb he hpl).imp fun _ _ _ q=>zxc od q⟩
theorem z2p {ps:List Str} {k j n kk:Nat} {gg:DS->SR} (L:Lnd X EX) (G:z68 X.prog X.w X.K X.mg X.base x ps k (spD X.K X.mg fr (mOf fr n kk gg) n)) (hr:Room j X.A) (hg:Gl X x) (ha:QA X EX (e::es) fs) (hkj:k<=j:=by omega) (hdb:(x==("__debug__":Str))=false:=by decide)
 (he:starEach (e::es) X.env=(false,eval e X.env)::starEach es X.env:=by rfl) (hpl:(backTo pos (starEach es X.env)).any (·.1)=false:=by rfl):QE X EX fr (.Call (.Name x p) (e::es) [] pos) (z0k (mOf fr n kk gg) fs):=⟨(zg5 G L.on hr hg ha.h hkj hdb he hpl).imp fun _ _ _ q=>zl8 z6w (fun x H z=>by obtain ⟨C,hC⟩:=L.nm x H z;exact ⟨C,hC,fun od xf=>⟨x,z,hC,xf⟩⟩) q⟩
end
noncomputable def z2v:D->String
 | .non=>"NoneType"
 | .bl _=>"bool"
 | .int _=>"int"
 | .str _=>"str"
 | .tup _=>"tuple"
 | .lst _=>"list"
 | .dk _ _=>"dict"
 | .dt _ _=>"dict"
 | .dn _ _=>"?"
 | .scr _=>"?"
 | .exc _ _=>"?"
noncomputable def z57 (c:String):D->Option D:=fun d=>if z3o c=true/\z2v d≠"?" then some (.bl (zbf (z2v d) c)) else none
theorem zo3 {K:Frag} {H:Hp} {d:D} {v:V} (h:z2v d≠"?") (r:RD K H d v):z8t H v=some (z2v d):=by
 cases d
 . cases r.non;rfl
 . cases r.bl;rfl
 . cases r.int;rfl
 . cases r.str;rfl
 . obtain ⟨a,xs,rfl,ha,_⟩:=r.tup;simp only [z8t,ha,z2v]
 . obtain ⟨a,xs,rfl,ha,_⟩:=r.lst;simp only [z8t,ha,z2v]
 . obtain ⟨a,xs,rfl,ha,_⟩:=r.dk;simp only [z8t,ha,z2v]
 . obtain ⟨a,xs,rfl,ha,_⟩:=r.dt;simp only [z8t,ha,z2v]
 . exact absurd rfl h
 . exact absurd rfl h
 . exact absurd rfl h
theorem zy2 {K:Frag} {EX:XW} {σ:St} {H:Hp} {Q:VK} {c:String} {f:DE->R D} (h:TEd K EX false (eUn (z57 c) f) σ H Q):tCB zw9 (z8l (TEd K EX false f) (z8l (tC (.ty c)) zqj)) σ H Q:=by
 obtain ⟨sx,ρ,H0,s,e,h⟩:=h
 unfold eUn at h
 rw [Rk.bind] at h
 refine TEd.go sx s e h fun d h v H1 H1' s1 e1 r1=>?_
 obtain ⟨z,hz,h⟩:=h.of
 unfold z57 at hz
 split at hz<;>cases hz
 rename_i hc
 show zw9 [v,.ty c] H1 Q
 rw [zrw]
 refine ⟨hc.1,?_⟩
 rw [zo3 hc.2 (r1.mono e1.2.1)]
 exact h _ H1 (.val s1 e1 (.mkBl _))
theorem zsn {X:Cx} {EX:XW} {a b:Expr} {pos p:Pos} {x c:_} {f:DE->R D} (hg:Gl X x) (hm:X.mg x=none) (hv:bootBuiltins x=some (.builtin "isinstance")) (ha:QE X EX false a f) (hb:PE X b (tC (.ty c))) (hn:x≠"__name__":=by decide) (hdb:(x==("__debug__":Str))=false:=by decide)
 (he:starEach [a,b] X.env=(false,eval a X.env)::starEach [b] X.env:=by rfl) (hpl:(backTo pos (starEach [b] X.env)).any (·.1)=false:=by rfl) (hs:starEach [b] X.env=(false,eval b X.env)::starEach [] X.env:=by rfl) :
 QE X EX false (.Call (.Name x p) [a,b] [] pos) (eUn (z57 c) f):=⟨(z8m zx7 hg hm hv (z2z ha.h (z2z hb pa_nil hs) he) hn hdb he hpl).imp fun _ _ _ q=>zy2 q⟩
noncomputable def z1y:List D->Option (List Int)
 | []=>some []
 | .int i::ds=>(z1y ds).map (i::·)
 | _::_=>none
noncomputable def zgb:List D->Option (List Bool)
 | []=>some []
 | .bl i::ds=>(zgb ds).map (i::·)
 | _::_=>none
theorem z29:∀(ns:List Int),z1y (ns.map D.int)=some ns
 | []=>rfl
 | n::ns=>by simp [z1y,z29 ns]
theorem z4i {K:Frag} {H:Hp}:∀{ds:List D} {ns:List Int} {xs:List V},z1y ds=some ns->RDs K H ds xs->xs=ns.map V.int
 | [],ns,xs,h,r=>by
  simp only [z1y] at h;cases h
  simp only [RDs] at r;subst r;rfl
 | d::ds,ns,xs,h,r=>by
  simp only [RDs] at r
  obtain ⟨x,xs,rfl,r1,r2⟩:=r
  cases d<;>simp only [z1y] at h<;>first | cases h | skip
  cases q:z1y ds with
  | none=>rw [q] at h;cases h
  | some ms=>
   rw [q] at h;cases h
   cases r1.int
   rw [z4i q r2];rfl
noncomputable def zeg:List D->Option D
 | [.lst ds]=>some (.int ds.length)
 | [.tup ds]=>some (.int ds.length)
 | [.dk ks _]=>some (.int ks.length)
 | [.scr ns]=>some (.int ns.length)
 | [.str z]=>if z.length<=100000 then some (.int z.length) else none
 | _=>none
noncomputable def zqt:List D->Option D
 | [.lst ds]=>(z1y ds).map fun ns=>.int ns.sum
 | [.tup ds]=>(z1y ds).map fun ns=>.int ns.sum
 | _=>none
noncomputable def y23:List D->Option D
 | [.lst ds]=>(zgb ds).map fun bs=>.bl (bs.all id)
 | _=>none
noncomputable def zy3:List D->Option D
 | [.int i,.int j]=>some (.int (if j > i then j else i))
 | _=>none
noncomputable def zy4:List D->Option D
 | [.int i,.int j]=>some (.int (if j<i then j else i))
 | _=>none
noncomputable def y0k:List D->Option D
 | [.int i]=>some (.int i)
 | [.bl b]=>some (.int (if b then 1 else 0))
 | _=>none
noncomputable def zeh:List D->Option D
 | [.lst ds]=>some (.lst ds)
 | [.tup ds]=>some (.lst ds)
 | [.scr ns]=>some (.lst (ns.map .int))
 | _=>none
noncomputable def z87:List D->Option D
 | [.lst ds]=>some (.tup ds)
 | [.tup ds]=>some (.tup ds)
 | _=>none
section
variable {X:Cx} {K:Frag}
theorem RDs.uno {H:Hp} {d:D} {xs:List V} (h:RDs K H [d] xs):∃x,xs=[x]/\RD K H d x:=by
 simp only [RDs] at h
 obtain ⟨x,r,rfl,h1,rfl⟩:=h
 exact ⟨x,rfl,h1⟩
theorem RDs.duo {H:Hp} {d e:D} {xs:List V} (h:RDs K H [d,e] xs):∃x y,xs=[x,y]/\RD K H d x/\RD K H e y:=by
 simp only [RDs] at h
 obtain ⟨x,r,rfl,h1,y,r',rfl,h2,rfl⟩:=h
 exact ⟨x,y,rfl,h1,h2⟩
def zso (K:Frag):List V->Hp->VK->Prop:=fun xs H Q=>(∃p ys,xs=[.ref p]/\(SqL K H p ys\/SqT K H p ys)/\Q (.int ys.length) H)\/(∃a kvs,xs=[V.ref a]/\H a=some (.dK kvs)/\Q (.int kvs.length) H)\/∃z,xs=[.str z]/\z.length<=sizeLine/\Q (.int z.length) H
theorem zsp:CallR X (.builtin "len") (zso X.K):=call_len_seq.or (call_lenD.or za7)
theorem zsq:z7r K false zeg (zso K):=by
 intro H0 H xs ds z Q s r ho k
 unfold zeg at ho
 split at ho<;>first | cases ho | skip
 . obtain ⟨x,rfl,q1⟩:=r.uno
   obtain ⟨a,ys,rfl,ha,ra⟩:=q1.lst
   exact .inl ⟨a,ys,rfl,.inl (.of (s _ _ ha)),by rw [<-ra.length];exact k _ H (.pure s (.mkInt _))⟩
 . obtain ⟨x,rfl,q1⟩:=r.uno
   obtain ⟨a,ys,rfl,ha,ra⟩:=q1.tup
   exact .inl ⟨a,ys,rfl,.inr (.of (s _ _ ha)),by rw [<-ra.length];exact k _ H (.pure s (.mkInt _))⟩
 . obtain ⟨x,rfl,q1⟩:=r.uno
   obtain ⟨a,ys,rfl,ha,hl,ra⟩:=q1.dk
   refine .inr (.inl ⟨a,_,rfl,s _ _ ha,?_⟩)
   rw [List.length_zip,<-hl,Nat.min_self]
   exact k _ H (.pure s (.mkInt _))
 . obtain ⟨x,rfl,q1⟩:=r.uno
   obtain ⟨a,rfl,ha⟩:=(q1.mono s).scr
   exact .inl ⟨a,_,rfl,.inl ha,by rw [List.length_map];exact k _ H (.pure s (.mkInt _))⟩
 . split at ho<;>cases ho
   rename_i h
   obtain ⟨x,rfl,q1⟩:=r.uno
   cases q1.str
   exact .inr (.inr ⟨_,rfl,zla h,k _ H (.pure s (.mkInt _))⟩)
def zld (K:Frag):List V->Hp->VK->Prop:=fun xs H Q=>∃p ys,xs=[.ref p]/\(SqL K H p ys\/SqT K H p ys)/\∀l,H l=none->Q (.ref l) (upd H l (.lst ys))
theorem zo4:CallR X (.type "list") (zld X.K):=za8
theorem zo5:z7r K true zeh (zld K):=by
 intro H0 H xs ds z Q s r ho k
 have fin:∀{p:Addr} {ys:List V} {es:List D},RDs K H0 es ys->z=.lst es->H p=none->Q (.ref p) (upd H p (.lst ys)):=fun {p ys es} re e hp=>by
  subst e
  refine k _ _ (.new s hp fun H' hH=>?_)
  simp only [OB]
  exact ⟨_,hH,re⟩
 unfold zeh at ho
 split at ho<;>first | cases ho | skip
 . obtain ⟨x,rfl,q1⟩:=r.uno
   obtain ⟨a,ys,rfl,ha,ra⟩:=q1.lst
   exact ⟨a,ys,rfl,.inl (.of (s _ _ ha)),fun l hl=>fin ra rfl hl⟩
 . obtain ⟨x,rfl,q1⟩:=r.uno
   obtain ⟨a,ys,rfl,ha,ra⟩:=q1.tup
   exact ⟨a,ys,rfl,.inr (.of (s _ _ ha)),fun l hl=>fin ra rfl hl⟩
 . obtain ⟨x,rfl,q1⟩:=r.uno
   obtain ⟨a,rfl,ha⟩:=(q1.mono s).scr
   exact ⟨a,_,rfl,.inl ha,fun l hl=>fin (RDs.ofInts _) rfl hl⟩
def zgc (K:Frag):List V->Hp->VK->Prop:=fun xs H Q=>∃p ys,xs=[.ref p]/\((SqL K H p ys/\∀l,H l=none->Q (.ref l) (upd H l (.tup ys)))\/(SqT K H p ys/\Q (.ref p) H))
theorem zdb:CallR X (.type "tuple") (zgc X.K):=z8p
theorem zdc:z7r K false z87 (zgc K):=by
 intro H0 H xs ds z Q s r ho k
 unfold z87 at ho
 split at ho<;>first | cases ho | skip
 . obtain ⟨x,rfl,q1⟩:=r.uno
   obtain ⟨a,ys,rfl,ha,ra⟩:=q1.lst
   refine ⟨a,ys,rfl,.inl ⟨.of (s _ _ ha),fun l hl=>k _ _ (.val (Same.upd_new hl) (.new s hl) (.mkTup z05 (ra.mono (Same.upd_new (s.none hl)))))⟩⟩
 . obtain ⟨x,rfl,q1⟩:=r.uno
   obtain ⟨a,ys,rfl,ha,ra⟩:=q1.tup
   exact ⟨a,ys,rfl,.inr ⟨.of (s _ _ ha),k _ H (.pure s (.mkTup ha ra))⟩⟩
end
noncomputable def zc8 {α:Type} (xs:List α) (lo hi:Option Int):List α:=(xs.drop (HT.sIx xs.length 0 lo)).take (HT.sIx xs.length xs.length hi - HT.sIx xs.length 0 lo)
noncomputable def dSl:D->Option Int->Option Int->Option D
 | .lst ds,lo,hi=>some (.lst (zc8 ds lo hi))
 | .scr ns,lo,hi=>some (.lst ((zc8 ns lo hi).map .int))
 | _,_,_=>none
noncomputable def TOd (K:Frag) (EX:XW) (f:DE->R (Option Int)):TO:=fun σ H Q=>Same EX.hb H/\∃ρ H0,Same H0 H/\RE K H0 ρ σ/\Rk EX.at (f ρ) fun o=>∀H',Same H H'->Q o H'
noncomputable def oNo:DE->R (Option Int):=fun _=>.ok none
noncomputable def oSo (f:DE->R D):DE->R (Option Int):=fun ρ=>(f ρ).bind fun d=>R.of (match d with | .int i=>some (some i) | _=>none)
noncomputable def eSl (o:D->Option Int->Option Int->Option D) (f:DE->R D) (fl fh:DE->R (Option Int)):DE->R D:=fun ρ=>(f ρ).bind fun d=>(fl ρ).bind fun lo=>(fh ρ).bind fun hi=>R.of (o d lo hi)
def SlD (K:Frag) (fr:Bool) (o:D->Option Int->Option Int->Option D) (r:V->Option Int->Option Int->Hp->VK->Prop):Prop:=∀(H0 H:Hp) (x:V) (d z:D) (lo hi:Option Int) (Q:VK),Same H0 H->RD K H0 d x->o d lo hi=some z->(∀v H',Out K fr H0 H z v H'->Q v H')->r x lo hi H Q
section
variable {X:Cx} {K:Frag} {EX:XW} {fr:Bool} {σ:St} {H:Hp} {Q:VK}
structure QO (X:Cx) (EX:XW) (e:Option Expr) (f:DE->R (Option Int)):Prop where
 h:PO X e (TOd X.K EX f)
theorem PO.imp {e:Option Expr} {t t':TO} (h:PO X e t) (hi:∀σ H Q,t' σ H Q->t σ H Q):PO X e t':=fun pins s σ H Q I q=>h pins s σ H Q I (hi σ H Q q)
theorem y1i:QO X EX none oNo:=⟨po_none.imp fun σ H Q ⟨sx,ρ,H0,s,e,h⟩=>h H (Same.refl _)⟩
theorem zy5 {e:Expr} {f:DE->R D} (he:QE X EX false e f):QO X EX (some e) (oSo f):=⟨(zn4 he.h).imp fun σ H Q ⟨sx,ρ,H0,s,e,h⟩=>by
 unfold oSo at h
 rw [Rk.bind] at h
 refine TEd.go sx s e h fun d h v H1 H1' s1 e1 r1=>?_
 obtain ⟨o,ho,h⟩:=h.of
 cases d<;>dsimp only at ho<;>first | cases ho | skip
 cases r1.int
 exact ⟨_,rfl,h H1 s1⟩⟩
theorem y1j {o:D->Option Int->Option Int->Option D} {r:V->Option Int->Option Int->Hp->VK->Prop} {f:DE->R D} {fl fh:DE->R (Option Int)} (hs:SlD K fr o r) (h:TEd K EX fr (eSl o f fl fh) σ H Q):tSl r (TEd K EX false f) (TOd K EX fl) (TOd K EX fh) σ H Q:=by
 obtain ⟨sx,ρ,H0,s,e,h⟩:=h
 unfold eSl at h
 rw [Rk.bind] at h
 refine TEd.go sx s e h fun d h v H1 H1' s1 e1 r1=>?_
 rw [Rk.bind] at h
 refine ⟨sx.trans s1,ρ,H1',e1.2.1,e.mono e1.1,h.mono fun lo h H2 s2=>?_⟩
 rw [Rk.bind] at h
 refine ⟨(sx.trans s1).trans s2,ρ,H1',e1.2.1.trans s2,e.mono e1.1,h.mono fun hi h H3 s3=>?_⟩
 obtain ⟨z,hz,h⟩:=h.of
 exact hs H1' H3 v d z lo hi Q (e1.2.1.trans (s2.trans s3)) r1 hz fun w H4 o=>h w H4 (o.after (s1.trans (s2.trans s3)) (e1.grow (s2.trans s3)))
theorem RDs.cut {H:Hp} {ds:List D} {xs:List V} (r:RDs K H ds xs) (lo hi:Option Int):RDs K H (zc8 ds lo hi) (zqk xs lo hi):=by
 unfold zc8 zqk
 rw [<-r.length]
 exact (r.drop _).take _
theorem zgd:SlD K true dSl (y04 K):=by
 intro H0 H x d z lo hi Q s r ho k
 cases d<;>simp only [dSl] at ho<;>first | cases ho | skip
 . obtain ⟨a,xs,rfl,ha,ra⟩:=r.lst
   refine ⟨a,xs,rfl,.of (s _ _ ha),fun p hp=>k _ _ (.new s hp fun H' hH=>?_)⟩
   simp only [OB]
   exact ⟨_,hH,ra.cut lo hi⟩
 . rename_i ns
   obtain ⟨a,rfl,ha⟩:=(r.mono s).scr
   refine ⟨a,_,rfl,ha,fun p hp=>k _ _ (.new s hp fun H' hH=>?_)⟩
   simp only [OB]
   have e:=(RDs.ofInts (K:=K) (H:=H0) ns).cut lo hi
   refine ⟨_,hH,?_⟩
   have e2:∀ns:List Int,zc8 (ns.map D.int) lo hi=(zc8 ns lo hi).map D.int:=fun ns=>by
    unfold zc8;rw [List.length_map,List.map_take,List.map_drop]
   rw [e2] at e
   exact e
theorem y0l {o:D->Option Int->Option Int->Option D} {r:V->Option Int->Option Int->Hp->VK->Prop} {e:Expr} {lo hi:Option Expr} {pos p2:Pos} {f:DE->R D} {fl fh:DE->R (Option Int)} (hr:SlR X r) (hs:SlD X.K fr o r) (he:QE X EX false e f) (hl:QO X EX lo fl) (hu:QO X EX hi fh) :
 QE X EX fr (.Subscript e (.Slice lo hi none p2) pos) (eSl o f fl fh):=⟨(zir hr he.h hl.h hu.h).imp fun _ _ _ q=>y1j hs q⟩
end
noncomputable def iL (f:DE->R D):DE->R (List D):=fun ρ=>(f ρ).bind fun d=>R.of (items d)
noncomputable def zD (lo:Int) (n:Nat):List D:=(List.range n).map fun (i:Nat)=>D.int (lo+i)
noncomputable def zsr (fs:DE->R (List D)):DE->R (List D):=fun ρ=>(fs ρ).bind fun ds=>R.of (match ds with
 | [.int j]=>if -(2 ^ 62)<=j/\j<2 ^ 62 then some (zD 0 j.toNat) else none
 | _=>none)
noncomputable def iEn (fs:DE->R (List D)):DE->R (List D):=fun ρ=>(fs ρ).bind fun ds=>R.of (match ds with
 | [.lst es]=>some (((zD 0 es.length).zip es).map fun p=>D.tup [p.1,p.2])
 | _=>none)
section
variable {X:Cx} {K:Frag} {EX:XW} {H0:Hp}
theorem zge {S:Hp->Prop} {xs:List V} {ds:List D} (hS:∀H,Same H0 H->S H) (r:RDs K H0 ds xs):zqo K (ItS S xs) H0 ds:=by
 have hl:=r.length
 refine ⟨fun i d e H H1 s1 s2=>⟨⟨hS H (s1.trans s2),by rw [<-hl];exact (List.getElem?_eq_some_iff.mp e).1⟩,fun x H' ⟨e1,e2⟩=>?_⟩,fun H s=>⟨hS H s,by rw [hl];exact Nat.le_refl _⟩⟩
 subst e1
 obtain ⟨x',q1,q2⟩:=r.get' e
 rw [q1] at e2;cases e2
 exact ⟨Same.refl _,H1,.refl s2,q2.mono s1⟩
theorem zss (lo:Int) (n:Nat):RDs K H0 (zD lo n) (zey lo n):=by
 have:∀l:List Nat,RDs K H0 (l.map fun (i:Nat)=>D.int (lo+i)) (l.map fun (i:Nat)=>V.int (lo+i)):=by
  intro l
  induction l with
  | nil=>simp [RDs]
  | cons a l ih=>exact .cons (.mkInt _) ih
 exact this _
theorem z5b {tg l:Expr} {f:DE->R D} (hl:QE X EX false l f):QI X EX false tg l (iL f):=⟨(zrs hl.h).imp fun σ H Q ⟨sx,ρ,H0,s,e,h⟩=>by
 unfold iL at h
 rw [Rk.bind] at h
 refine TEd.go sx s e h fun d h v H1 H1' s1 e1 r1=>?_
 obtain ⟨ds,hd,h⟩:=h.of
 cases d<;>simp only [items] at hd<;>first | cases hd | skip
 . obtain ⟨a,xs,rfl,ha,ra⟩:=r1.tup
   exact ziz (e1.2.1 _ _ ha) (h _ H1 H1' s1 e1 (zge (fun H s=>s _ _ ha) ra))
 . obtain ⟨a,xs,rfl,ha,ra⟩:=r1.lst
   exact ziy (.inl (e1.2.1 _ _ ha)) (h _ H1 H1' s1 e1 (zge (fun H s=>.inl (s _ _ ha)) ra))⟩
theorem y1k {tg a:Expr} {p pos:Pos} {fs:DE->R (List D)} (hg:Gl X "range") (hm:X.mg "range"=none) (ha:QA X EX [a] fs) (hs:starEach [a] X.env=[(false,eval a X.env)]:=by rfl):QI X EX true tg (.Call (.Name "range" p) [a] [] pos) (zsr fs):=⟨(zx6 hg hm ha.h hs).imp fun σ H Q ⟨sx,ρ,H0,s,e,h⟩=>by
 unfold zsr at h
 rw [Rk.bind] at h
 refine TAd.go sx s e h fun ds h vs H1 H1' s1 e1 r1=>?_
 obtain ⟨es,hd,h⟩:=h.of
 split at hd<;>first | cases hd | skip
 obtain ⟨x,rfl,q1⟩:=r1.uno
 cases q1.int
 split at hd<;>cases hd
 rename_i hb
 exact ⟨hb,h _ H1 H1' s1 e1 (zge (fun _ _=>trivial) (zss _ _))⟩⟩
theorem zst {S:Hp->Prop} {xs ys:List V} {ds es:List D} (hS:∀H,Same H0 H->S H) (r:RDs K H0 ds xs) (r':RDs K H0 es ys):zqo K (ItP S (xs.zip ys)) H0 ((ds.zip es).map fun p=>D.tup [p.1,p.2]):=by
 have hl:=r.length
 have hl':=r'.length
 have hz:((ds.zip es).map fun p=>D.tup [p.1,p.2]).length=(xs.zip ys).length:=by rw [List.length_map,List.length_zip,List.length_zip,hl,hl']
 refine ⟨fun i d e H H1 s1 s2=>⟨⟨hS H (s1.trans s2),by rw [<-hz];exact (List.getElem?_eq_some_iff.mp e).1⟩,fun x H' y=>?_⟩,fun H s=>⟨hS H s,hz⟩⟩
 obtain ⟨T,a,b,rfl,hT,rfl,ep⟩:=y
 obtain ⟨ea,eb⟩:=List.getElem?_zip_eq_some.mp ep
 obtain ⟨da,ga,ra⟩:=r.get ea
 obtain ⟨db,gb,rb⟩:=r'.get eb
 have gz:(ds.zip es)[i]?=some (da,db):=List.getElem?_zip_eq_some.mpr ⟨ga,gb⟩
 rw [List.getElem?_map,gz] at e
 cases e
 refine ⟨Same.upd_new hT,upd H1 T (.tup [a,b]),.new s2 hT,.mkTup z05 ?_⟩
 have sm:=Same.upd_new (o:=.tup [a,b]) (s2.none hT)
 exact .cons (ra.mono (s1.trans sm)) (.cons (rb.mono (s1.trans sm)) .nil)
theorem y0m {elts:List Expr} {k:Nat} {a:Expr} {p pos tpos:Pos} {fs:DE->R (List D)} (hg:Gl X "enumerate") (hm:X.mg "enumerate"=none) (ha:QA X EX [a] fs) (hs:starEach [a] X.env=[(false,eval a X.env)]:=by rfl) :
  QI X EX false (.Tuple elts k tpos) (.Call (.Name "enumerate" p) [a] [] pos) (iEn fs):=⟨(znf hg hm ha.h hs).imp fun σ H Q ⟨sx,ρ,H0,s,e,h⟩=>by
 unfold iEn at h
 rw [Rk.bind] at h
 refine TAd.go sx s e h fun ds h vs H1 H1' s1 e1 r1=>?_
 obtain ⟨es,hd,h⟩:=h.of
 split at hd<;>first | cases hd | skip
 obtain ⟨x,rfl,q1⟩:=r1.uno
 obtain ⟨l,xs,rfl,hl,rl⟩:=q1.lst
 refine ⟨xs,.inl (e1.2.1 _ _ hl),h _ H1 H1' s1 e1 ?_⟩
 rw [rl.length]
 exact zst (fun H s=>.inl (s _ _ hl)) (zss _ _) rl⟩
end
section
variable {X:Cx} {sc:Scope} {caps:List Str} {ix:List Nat} {elt iter:Expr} {ifs:List Expr} {pos px:Pos} {x:Str} {kp:Bool} {EX:XW} {fi:DE->R (List D)} {t:DE->R Bool} {f:DE->R D}
noncomputable def zle:DE->R Bool:=fun _=>.ok true
inductive PTq (X:Cx) (sc:Scope) (N:List Str):List Expr->(DE->R Bool)->Prop where
 | nil:PTq X sc N [] zle
 | one {c:Expr} {t:DE->R Bool} (h:∀fp s H,QT (z0p X sc N fp s H) F0 c t):PTq X sc N [c] t
theorem PTq.run {N:List Str} (h:PTq X sc N ifs t):∃tt,(∀fp s H,PTs (z0p X sc N fp s H) ifs tt)/\∀σ H Q,TTd X.K F0 t σ H Q->tt σ H Q:=by
 cases h with
 | nil=>exact ⟨_,fun _ _ _=>.nil,fun σ H Q ⟨sx,ρ,H0,s,e,h⟩=>h H (Same.refl _)⟩
 | one h=>exact ⟨_,fun fp s H=>.one (h fp s H).h,fun _ _ _ q=>q⟩
theorem zsu (C:CompOk X sc caps ix) (hN:([x]++caps).Nodup) (hx:sc.names.lookup x=some .local) (hi:QI X EX kp (.Name x px) iter fi) (ht:PTq X sc ([x]++caps) ifs t) (he:∀fp s H,QE (z0p X sc ([x]++caps) fp s H) F0 false elt f)
  (hs:∀x,foldedSetIterable iter X.env x=pure x:=by intro _;rfl):QE X EX true (.ListComp elt [⟨.Name x px,iter,ifs,0⟩] sc pos) (z4g fi b1 ix t f):=by
 obtain ⟨tt,h1,h2⟩:=ht.run
 refine ⟨(zj0 C hN hx hi.h h1 (fun fp s H=>(he fp s H).h) hs).imp fun _ _ _ q=>zl7 zxt h2 q⟩
theorem zao {te te':TE} {g:TG} (h:∀σ H Q,te' σ H Q->te σ H Q) {De:Ends} {σ:St} {H:Hp} (q:zkv te' g De σ H):zkv te g De σ H:=h _ _ _ q
theorem y1l {fr:Bool} {m:List Bool} {v:Str} {k:Nat} {spos pv:Pos} (hNX:X.N.Nodup) (hk:X.N[k]?=some v) (hv:X.env.scope.names.lookup v=some .local) (C:CompOk X sc caps ix) (hN:([x]++caps).Nodup) (hx:sc.names.lookup x=some .local) (hi:QI X EX kp (.Name x px) iter fi)
  (ht:PTq X sc ([x]++caps) ifs t) (he:∀fp s H,QE (z0p X sc ([x]++caps) fp s H) F0 false elt f)
  (hsw:swapsWith (.ListComp elt [⟨.Name x px,iter,ifs,0⟩] sc pos) (some (.Name v pv)) spos.line X.env=pure true:=by rfl) (hs:∀x,foldedSetIterable iter X.env x=pure x:=by intro _;rfl) :
  QS X EX fr (.Assign [.Name v pv] (.ListComp elt [⟨.Name x px,iter,ifs,0⟩] sc pos) spos) (z30 true k m (z4g fi b1 ix t f)):=by
 obtain ⟨tt,h1,h2⟩:=ht.run
 refine ⟨(zcy hNX hk hv C hN hx hi.h h1 (fun fp s H=>(he fp s H).h) hsw hs).imp fun _ _ _ q=>zao (fun _ _ _ q=>zl7 zxt h2 q) (zno q)⟩
end
section
variable {X:Cx} {EX:XW} {fr fr':Bool} {st:Stmt} {sts:List Stmt} {a b c e:Expr} {es:List Expr} {f fv fk:DE->R D} {fs:DE->R (List D)} {t:DE->R Bool} {g g1 g2:DS->SR} {pos p:Pos} {m:List Bool}
theorem z71:QB X EX fr [] sNx:=⟨pss_nil.imp fun _ _ _ q=>y19 q⟩
theorem z0f (h:QS X EX fr st g):QB X EX fr [st] g:=⟨zmv h.h⟩
theorem z09 (h1:QS X EX fr st g1) (h2:QB X EX fr sts g2):QB X EX fr (st::sts) (z1h g1 g2):=⟨(zim h1.h h2.h).imp fun _ _ _ q=>zxm q⟩
theorem zgf {x y:List Stmt} (hc:QT X EX c t) (ha:QB X EX fr x g1) (hb:QB X EX fr y g2):QS X EX fr (.If c x y pos) (sIf t g1 g2):=⟨(zwn hc.h ha.h hb.h).imp fun _ _ _ q=>zxn q⟩
theorem z2a (he:QE X EX fr e f):QS X EX fr (.Return (some e) pos) (z6e m f):=⟨(zkt he.h).imp fun _ _ _ q=>zxo q⟩
theorem zap {i:Nat} {x:Str} {p:Pos} (hN:X.N[i]?=some x:=by rfl) (hv:Vis X.env.scope x:=by first | exact Or.inl rfl | exact Or.inr (Or.inl rfl) | exact Or.inr (Or.inr rfl)) (hd:(x==("__debug__":Str))=false:=by decide)
 (hcd:(x==("__classdict__":Str))=false:=by decide):QS X EX true (.Return (some (.Name x p)) pos) (z7s i):=⟨(zkt (pw i hN hv hd hcd)).imp fun _ _ _ q=>zs5 q⟩
theorem zgg (he:QE X EX false e f) (hs:swapsWith e none pos.line X.env=pure false:=by rfl):QS X EX fr (.Expr e pos) (z22 f):=⟨(zbo he.h hs).imp fun _ _ _ q=>zs6 q⟩
theorem zy6 {i:Nat} {x:Str} {pos':Pos} (hN:X.N.Nodup) (hi:X.N[i]?=some x) (hx:Loc X.env.scope x) (he:QE X EX fr' e f) (hs:swapsWith e (some (.Name x pos')) pos.line X.env=pure false:=by rfl) (hf:X.fn x=true\/X.env.scope.names.lookup x=some .local:=by first | exact .inl rfl | exact .inr rfl | assumption) :
 QS X EX fr (.Assign [.Name x pos'] e pos) (z30 fr' i m f):=⟨(zr6 hN hi hx he.h hs hf).imp fun _ _ _ q=>zno q⟩
theorem g_n {i:Nat} {x:Str} {pos:Pos} (hN:X.N.Nodup) (hi:X.N[i]?=some x) (hx:Loc X.env.scope x) (hf:X.fn x=true\/X.env.scope.names.lookup x=some .local:=by first | exact .inl rfl | exact .inr rfl | assumption):QG X (.Name x pos) (.n i):=⟨(zbp hN hi hx hf).imp fun _ _ _ _ q=>y1a q⟩
theorem zaq:QGs X [] []:=⟨zj1⟩
theorem z1j {i:Nat} {is:List Nat} {x:Str} {pos:Pos} {ts:List Expr} (hN:X.N.Nodup) (hi:X.N[i]?=some x) (hx:Loc X.env.scope x) (hr:QGs X ts is) (hf:X.fn x=true\/X.env.scope.names.lookup x=some .local:=by first | exact .inl rfl | exact .inr rfl | assumption)
 (hs:(assignEach (.Name x pos::ts) X.env).map (·.2)=assign (.Name x pos) X.env::(assignEach ts X.env).map (·.2):=by rfl):QGs X (.Name x pos::ts) (i::is):=⟨zfr (zbp hN hi hx hf) hr.h hs⟩
theorem g_t {is:List Nat} {ts:List Expr} {k:Nat} {pos:Pos} (hc:X.calm=true) (h:QGs X ts is) (hn:(assignEach ts X.env).length=is.length:=by rfl) (hst:(assignEach ts X.env).findIdx? (·.1)=none:=by rfl):QG X (.Tuple ts k pos) (.t is):=⟨(zni hc h.h hn hst).imp fun _ _ _ _ q=>y1b q⟩
theorem z94 {tg iter:Expr} {tt:Tg} {body:List Stmt} {kp:Bool} {fi:DE->R (List D)} (hp:PassesOwn (model X.prog X.w) X.A X.env X.xe) (hc:X.calm=true) (hi:QI X EX kp tg iter fi) (hg:QG X tg tt) (hb:QB X EX fr body g)
 (hs:∀x,foldedSetIterable iter X.env x=pure x:=by intro _;rfl):QS X EX fr (.For tg iter body [] pos) (zee kp m fi tt g):=⟨(zne hp hc hi.h hg.h hb.h hs).imp fun _ _ _ q=>zxs q⟩
theorem zo6 {n:Nat} {body:List Stmt} (hp:PassesOwn (model X.prog X.w) X.A X.env X.xe) (hc:QT X EX c t) (hb:QB X EX fr body g):QS X EX fr (.While c body [] pos) (zah n t g):=⟨(zio hp hc.h hb.h).imp fun _ _ _ q=>znr q⟩
noncomputable def zlf:D->List D->Option D
 | .lst ds,[d]=>if ds.length<100000 then some (.lst (ds++[d])) else none
 | _,_=>none
theorem z95 {K:Frag}:TyD K "list":=fun H0 H a d ob h=>by
 cases d<;>simp [isT] at h
 simp only [OB] at ob
 obtain ⟨xs,hx,_⟩:=ob
 exact .inl ⟨rfl,xs,.of hx⟩
theorem zlg {K:Frag}:znp K zlf zfb:=by
 intro H0 H a d d' ds vs Q s h0 ob r hm k
 unfold zlf at hm
 split at hm<;>first | cases hm | skip
 split at hm<;>cases hm
 rename_i es e hl
 simp only [OB] at ob
 obtain ⟨xs,hx,rx⟩:=ob
 obtain ⟨y,rfl,q1⟩:=r.uno
 refine ⟨a,xs,y,rfl,rfl,hx,by rw [<-rx.length];exact z1p hl,k _ _ ?_⟩
 simp only [OB]
 exact ⟨_,z05,rx.append (.one q1)⟩
theorem zo7 {T id:String} {name:Str} {i:Nat} {x:Str} {xp apos cpos:Pos} {mt:D->List D->Option D} {rr:V->List V->Hp->VK->Prop} (pa:PlainAttrs T) (slot:Slot T name id) (hty:typeOf (.builtin id)=pure (.type "method_descriptor")) (hm:MtM X id rr) (od:znp X.K mt rr) (hT:TyD X.K T)
 (ho:PE X (.Name x xp) (zbw i)) (ha:QA X EX (e::es) fs)
 (hbase:attributeBase (.Name x xp) name X.env (eval (.Name x xp) X.env)=eval (.Name x xp) X.env:=by rfl)
 (hfew:((backTo cpos (starEach (e::es) X.env)).all (fun x=>!x.1)&&(backToKw cpos (keywordEach [] X.env)).all (fun x=>x.1.isSome)
  && decide ((e::es).length+([]:List Keyword).length+(if ([]:List Keyword).isEmpty then 0 else 1)<30))=true:=by rfl)
 (hline:(apos.endLine==cpos.line)=true:=by rfl) (hs:starEach (e::es) X.env=(false,eval e X.env)::starEach es X.env:=by rfl) (hplain:(backTo cpos (starEach es X.env)).any (·.1)=false:=by rfl)
 (hsw:swapsWith (.Call (.Attribute (.Name x xp) name apos) (e::es) [] cpos) none pos.line X.env=pure false:=by rfl) :
 QS X EX fr (.Expr (.Call (.Attribute (.Name x xp) name apos) (e::es) [] cpos) pos) (znq T mt i m fs):=⟨(zbo (zrg pa slot hty hm ho ha.h hbase hfew hline hs hplain) hsw).imp fun _ _ _ q=>zxp od hT q⟩
noncomputable def zez:D->D->D->Option D
 | .lst ds,.int i,v=>(ixN ds.length i).map fun j=>.lst (ds.set j v)
 | .dk ks ds,k,v=>if ks.length<100000 then (zg8 k).map fun k=>.dk (z4h ks k) (z7o ks ds k v) else none
 | .dt ks ds,.tup es,v=>if ks.length<100000 then (zal es).map fun k=>.dt (z4h ks k) (z7o ks ds k v) else none
 | _,_,_=>none
noncomputable def zsv:zmw:=fun o i v H Q=>zre o i v H Q\/∃a H',o=.ref a/\DPut H a i v H'/\Q H'
theorem zy7 (hu:X.A.units+64<cLine):zw7 X zsv:=by
 intro pins s σ H o i v ov iv u Q I ro ri rv h
 rcases h with h | ⟨a,H',rfl,g,q⟩
 . exact zit pins s σ H o i v ov iv u Q I ro ri rv h
 . cases ro
   exact zfh (by omega) I g ri rv fun s' I'=>⟨H',I',q⟩
theorem zsw {K:Frag}:zxr K zez zsv:=by
 intro H0 H a d d' dk dv y v Q s h0 ob rk rv hm k
 cases d<;>simp only [zez] at hm<;>first | cases hm | skip
 . cases dk<;>simp only [zez] at hm<;>first | cases hm | skip
   rename_i ds i
   simp only [OB] at ob
   obtain ⟨xs,hx,rx⟩:=ob
   cases rk.int
   cases hj:ixN ds.length i with
   | none=>rw [hj] at hm;cases hm
   | some j=>
    rw [hj] at hm;cases hm
    refine .inl ⟨a,xs,i,j,rfl,rfl,hx,by rw [<-rx.length];exact hj,k _ ?_⟩
    simp only [OB]
    exact ⟨_,z05,rx.set j rv⟩
 . rename_i ks ds
   split at hm
   . rename_i hl
     cases hk:zg8 dk with
     | none=>rw [hk] at hm;cases hm
     | some kk=>
      rw [hk] at hm
      have hm:D.dk (z4h ks kk) (z7o ks ds kk dv)=d':=by simpa using hm
      subst hm
      simp only [OB] at ob
      obtain ⟨xs,hx,hlen,rx⟩:=ob
      cases zc4 hk rk
      refine .inr ⟨a,_,rfl,DPut.k hx (by rw [List.length_zip,<-hlen,Nat.min_self];exact z1p hl),k _ ?_⟩
      obtain ⟨e1,e2⟩:=zd9 kk v hlen
      simp only [OB]
      exact ⟨_,by rw [z05,e1],e2,zc6 kk rv rx⟩
   . cases hm
 . rename_i ks ds
   cases dk<;>simp only [zez] at hm<;>first | cases hm | skip
   rename_i es
   split at hm
   . rename_i hl
     cases hk:zal es with
     | none=>rw [hk] at hm;cases hm
     | some kk=>
      rw [hk] at hm
      have hm:D.dt (z4h ks kk) (z7o ks ds kk dv)=d':=by simpa using hm
      subst hm
      simp only [OB] at ob
      obtain ⟨xs,hx,hlen,rx⟩:=ob
      obtain ⟨b,ys,rfl,hb,rb⟩:=rk.tup
      have e:=z92 hk rb
      subst e
      refine .inr ⟨a,_,rfl,DPut.t hx (s _ _ hb) (by rw [List.length_zip,<-hlen,Nat.min_self];exact z1p hl),k _ ?_⟩
      obtain ⟨e1,e2⟩:=zd9 kk v hlen
      simp only [OB]
      exact ⟨_,by rw [z05,e1],e2,zc6 kk rv rx⟩
   . cases hm
theorem zjc {i:Nat} {o ix:Expr} {tpos:Pos} (hu:X.A.units+64<cLine) (ho:PE X o (zbw i)) (hk:QE X EX false ix fk) (hv:QE X EX false e fv)
 (ha:∀v,assign (.Subscript o ix tpos) X.env v=(do
  let ov <-holding [v] (eval o X.env)
  let iv <-holding [v,ov] (eval ix X.env)
  standAt tpos
  holding [v,ov,iv] (setItem ov iv v)
  release [v,ov,iv] []):=by intro _;rfl) (hs:swapsWithSole [.Subscript o ix tpos] e pos.line X.env=pure false:=by rfl) (hw:swappedStores [.Subscript o ix tpos] e X.env=pure none:=by rfl)
 (h1:(assignEach [.Subscript o ix tpos] X.env).map (·.2)=[assign (.Subscript o ix tpos) X.env]:=by rfl):QS X EX fr (.Assign [.Subscript o ix tpos] e pos) (zij zez i m fk fv):=⟨(zkw hv.h (zku ho hk.h (zy7 hu) ha) hs hw h1).imp fun _ _ _ q=>zs7 zsw q⟩
noncomputable def zo8:DE->R D:=fun _=>.ok (.dk [] [])
theorem zsx:QE X EX true (.Dict [] [] pos) zo8:=⟨pe_dnewK.imp fun σ H Q ⟨sx,ρ,H0,s,e,h⟩ p hp=>h _ _ (.new s hp fun H' hH=>by simp only [OB];exact ⟨[],hH,rfl,.nil⟩)⟩
end
theorem fnD {P:Program} {w:World} {K:Frag} {mg:Str->Option Value} {base:Heap} {x qual:Str} {st:Stmt} {f:Addr} {fd:FuncData} {N ps:List Str} {k n kk:Nat} {fr:Bool} {g:DS->SR} (F:Fun K x qual st f fd) (S:FnScope N ps (z03 st)) (hps:ps.length=n) (hN:N.length=n+kk)
  (hbody:∀(cdv:Value) (A:Around) (outer:List Env) (s:Shared) (H:Hp) (E:XK),Room k (A.deeper (envOfC qual (z03 st) s.heap.objs.size f cdv)) ->
   QB (zcs (CX1 P w) P w K mg base N qual (z03 st) f cdv A outer s H E) ⟨H,xNm K mg E⟩ fr (z0u st) g):FnOk P w K mg base (CX1 P w) (k+1) f fd ps (spD K mg fr (mOf fr n kk g) n):=by
 have hlen:∀{vs:List V} {H:Hp} {Q:VK} {E:XK},spD K mg fr (mOf fr n kk g) n vs H Q E->vs.length=n:=fun {vs H Q E} h=>by
  obtain ⟨ds,H0,s,r,hn,_⟩:=h
  rw [<-r.length];exact hn
 refine F.okX S (fun vs H Q E h=>by rw [hlen h,hps]) (fun cdv A outer s H vs Q E hr h=>⟨_,(hbody cdv A outer s H E hr).h,?_⟩)
 have e:z2k N vs=vs.map some++List.replicate kk none:=by
  unfold z2k
  rw [hlen h,hN,Nat.add_sub_cancel_left]
 rw [e]
 exact zg1 h
noncomputable def spL (K:Frag) (fr:Bool) (m:List D->R D) (n:Nat):Sp:=fun vs H Q _=>∃ds H0,Same H0 H/\RDs K H0 ds vs/\ds.length=n/\Rk (fun _=>False) (m ds) fun d=>∀v H',Out K fr H0 H d v H'->Q v H'
theorem spL.spD {K:Frag} {fr:Bool} {m:List D->R D} {n:Nat} {vs:List V} {H:Hp} {Q:VK} {E:XK} {mg:Str->Option Value} (h:spL K fr m n vs H Q E):L2.spD K mg fr m n vs H Q E:=by
 obtain ⟨ds,H0,s,r,hn,h⟩:=h
 refine ⟨ds,H0,s,r,hn,?_⟩
 cases q:m ds with
 | ok d=>rw [q] at h;exact h
 | er x=>rw [q] at h;exact h.elim
 | st=>rw [q] at h;exact h.elim
end L2
namespace L2
open PySem PySem.Spec PyProof.Rows
open PySem.W (KasT kas_sort kas_rev kas_asc kas_desc kas_tail3 kas_descPart kas_count kas_place kas_bin)
noncomputable def z0q {α:Type} (lt:Nat->Nat->Bool):KasT α->α
 | .ret a=>a
 | .ask i j k=>z0q lt (k (lt i j))
theorem z2b {α β:Type} {lt:Nat->Nat->Bool} {f:α->KasT β}:∀t:KasT α,z0q lt (t.bind f)=z0q lt (f (z0q lt t))
 | .ret a=>rfl
 | .ask i j k=>by
  show z0q lt ((k (lt i j)).bind f)=_
  exact z2b (k (lt i j))
structure Ord (lt:Nat->Nat->Bool):Prop where
 irr:∀a,lt a a=false
 tr:∀{a b c},lt b a=false->lt c b=false->lt c a=false
 asy:∀{a b},lt a b=true->lt b a=false
section
variable {lt:Nat->Nat->Bool} {p:Array Nat}
abbrev g (p:Array Nat) (i:Nat):Nat:=p.getD i 0
def z5c (lt:Nat->Nat->Bool) (p:Array Nat) (m:Nat):Prop:=∀i j,i<=j->j<m->lt (g p j) (g p i)=false
def z96 (lt:Nat->Nat->Bool) (p:Array Nat) (m:Nat):Prop:=∀i j,i<=j->j<m->lt (g p i) (g p j)=false
theorem z72 {p q:Array Nat} {i j:Nat} (h:p[i]?=q[j]?):g p i=g q j:=by
 unfold g
 rw [Array.getD_eq_getD_getElem?,Array.getD_eq_getD_getElem?,h]
theorem zar {i j:Nat} (hj:j<=p.size) (k:Nat):g (kas_rev p i j) k=if i<=k/\k<j then g p (i+j - 1 - k) else g p k:=by
 have e:=getElem?_mirror_all (i:=i) hj k
 split
 . rename_i h;rw [if_pos h] at e;exact z72 e
 . rename_i h;rw [if_neg h] at e;exact z72 e
theorem z97 {i j:Nat}:(kas_rev p i j).size=p.size:=mirror_size _ _ _ _
theorem rev_perm {i j:Nat}:(kas_rev p i j).Perm p:=mirror_perm _ _ _ _
theorem zgh (O:Ord lt):∀(f n:Nat),1<=n->z5c lt p n->n<=z0q lt (kas_asc p f n)/\z0q lt (kas_asc p f n)<=n+f/\z5c lt p (z0q lt (kas_asc p f n)) /\
  (z0q lt (kas_asc p f n)=n+f\/lt (g p (z0q lt (kas_asc p f n))) (g p (z0q lt (kas_asc p f n) - 1))=true)
 | 0,n,h1,hs=>⟨Nat.le_refl _,Nat.le_refl _,hs,.inl rfl⟩
 | f+1,n,h1,hs=>by
  unfold kas_asc
  simp only [z0q]
  cases hc:lt (p.getD n 0) (p.getD (n - 1) 0) with
  | true=>simp only [if_true,z0q];exact ⟨Nat.le_refl _,by omega,hs,.inr hc⟩
  | false=>
   simp only [Bool.false_eq_true,if_false]
   have hs':z5c lt p (n+1):=fun i j hij hj=>by
    by_cases hjn:j=n
    . subst hjn
      by_cases hi:i=j
      . subst hi;exact O.irr _
      . exact O.tr (hs i (j - 1) (by omega) (by omega)) hc
    . exact hs i j hij (by omega)
   obtain ⟨a,b,c,d⟩:=zgh O f (n+1) (by omega) hs'
   exact ⟨by omega,by omega,c,d.imp (fun z=>by omega) id⟩
def zsy (lt:Nat->Nat->Bool) (p:Array Nat) (n q:Nat):Prop:=∀i j,n - (q+1)<=i->i<n->n - (q+1)<=j->j<n->lt (g p i) (g p j)=false
theorem zgi (O:Ord lt) {n q:Nat} (hn:n<=p.size) (hq:q+1<=n) (hs:z96 lt p n) (he:zsy lt p n q):z96 lt (kas_rev p (n - (q+1)) n) n:=by
 intro i j hij hj
 rw [zar hn,zar hn]
 split<;>split
 . exact he _ _ (by omega) (by omega) (by omega) (by omega)
 . omega
 . exact hs _ _ (by omega) (by omega)
 . exact hs i j hij hj
theorem z98 (O:Ord lt):∀(f:Nat) (p:Array Nat) (n q:Nat),n+f<=p.size->q+1<=n->z96 lt p n->zsy lt p n q ->
  (z0q lt (kas_desc f p n q)).1.Perm p/\n<=(z0q lt (kas_desc f p n q)).2.1/\(z0q lt (kas_desc f p n q)).2.1<=n+f/\(z0q lt (kas_desc f p n q)).2.2+1<=(z0q lt (kas_desc f p n q)).2.1 /\
   z96 lt (z0q lt (kas_desc f p n q)).1 (z0q lt (kas_desc f p n q)).2.1/\zsy lt (z0q lt (kas_desc f p n q)).1 (z0q lt (kas_desc f p n q)).2.1 (z0q lt (kas_desc f p n q)).2.2
 | 0,p,n,q,hn,hq,hs,he=>⟨Array.Perm.refl _,Nat.le_refl _,Nat.le_refl _,hq,hs,he⟩
 | f+1,p,n,q,hn,hq,hs,he=>by
  unfold kas_desc
  simp only [z0q]
  have eq0:∀(p':Array Nat),zsy lt p' (n+1) 0:=fun p' i j h1 h2 h3 h4=>by
   have:i=j:=by omega
   subst this;exact O.irr _
  have step:∀(p':Array Nat),p'.size=p.size->z96 lt p' n->lt (g p' n) (g p' (n - 1))=true->z96 lt p' (n+1):=fun p' _ hs' hc i j hij hj=>by
   by_cases hjn:j=n
   . subst hjn
     by_cases hi:i=j
     . subst hi;exact O.irr _
     . exact O.tr (O.asy hc) (hs' i (j - 1) (by omega) (by omega))
   . exact hs' i j hij (by omega)
  cases hc:lt (p.getD n 0) (p.getD (n - 1) 0) with
  | true=>
   simp only [if_true]
   by_cases hq0:q > 0
   . rw [if_pos hq0]
     have hr:=zgi O (by omega) hq hs he
     have hz:(kas_rev p (n - (q+1)) n).size=p.size:=z97
     have hc':lt (g (kas_rev p (n - (q+1)) n) n) (g (kas_rev p (n - (q+1)) n) (n - 1))=true:=by
      rw [zar (by omega),zar (by omega),if_neg (by omega),if_pos (by omega)]
      have e1:lt (g p (n - (q+1)+n - 1 - (n - 1))) (g p (n - 1))=false:=he _ _ (by omega) (by omega) (by omega) (by omega)
      have e2:lt (g p (n - 1)) (g p (n - (q+1)+n - 1 - (n - 1)))=false:=he _ _ (by omega) (by omega) (by omega) (by omega)
      cases hx:lt (g p n) (g p (n - (q+1)+n - 1 - (n - 1))) with
      | true=>rfl
      | false=>
       have z:=O.tr e1 hx
       rw [show lt (g p n) (g p (n - 1))=true from hc] at z
       cases z
     obtain ⟨a1,a2,a3,a4,a5,a6⟩:=z98 O f _ (n+1) 0 (by rw [hz];omega) (by omega) (step _ hz hr hc') (eq0 _)
     exact ⟨a1.trans rev_perm,by omega,by omega,a4,a5,a6⟩
   . rw [if_neg hq0]
     obtain ⟨a1,a2,a3,a4,a5,a6⟩:=z98 O f p (n+1) 0 (by omega) (by omega) (step _ rfl hs hc) (eq0 _)
     exact ⟨a1,by omega,by omega,a4,a5,a6⟩
  | false=>
   simp only [Bool.false_eq_true,if_false,z0q]
   cases hd:lt (p.getD (n - 1) 0) (p.getD n 0) with
   | true=>simp only [if_true,z0q];exact ⟨Array.Perm.refl _,Nat.le_refl _,by omega,hq,hs,he⟩
   | false=>
    simp only [Bool.false_eq_true,if_false]
    have hs':z96 lt p (n+1):=fun i j hij hj=>by
     by_cases hjn:j=n
     . subst hjn
       by_cases hi:i=j
       . subst hi;exact O.irr _
       . exact O.tr hd (hs i (j - 1) (by omega) (by omega))
     . exact hs i j hij (by omega)
    have he':zsy lt p (n+1) (q+1):=fun i j h1 h2 h3 h4=>by
     by_cases hi:i=n<;>by_cases hj:j=n
     . rw [hi,hj];exact O.irr _
     . rw [hi];exact O.tr (he (n - 1) j (by omega) (by omega) (by omega) (by omega)) hc
     . rw [hj];exact O.tr hd (he i (n - 1) (by omega) (by omega) (by omega) (by omega))
     . exact he i j (by omega) (by omega) (by omega) (by omega)
    obtain ⟨a1,a2,a3,a4,a5,a6⟩:=z98 O f p (n+1) (q+1) (by omega) (by omega) hs' he'
    exact ⟨a1,by omega,by omega,a4,a5,a6⟩
theorem zdd (O:Ord lt) {n nrem:Nat} (h1:1<=n) (hn:n<=nrem) (hz:nrem<=p.size) (hs:z96 lt p n) :
  n<=(z0q lt (kas_tail3 n nrem p)).1/\(z0q lt (kas_tail3 n nrem p)).1<=nrem/\(z0q lt (kas_tail3 n nrem p)).2.Perm p/\z5c lt (z0q lt (kas_tail3 n nrem p)).2 (z0q lt (kas_tail3 n nrem p)).1:=by
 unfold kas_tail3
 rw [z2b]
 simp only [z0q]
 have hs':z5c lt (kas_rev p 0 n) n:=fun i j hij hj=>by
  rw [zar (by omega),zar (by omega),if_pos (by omega),if_pos (by omega)]
  exact hs _ _ (by omega) (by omega)
 obtain ⟨a,b,c,_⟩:=zgh O (nrem - n) n h1 hs'
 exact ⟨a,by omega,rev_perm,c⟩
theorem z73 (O:Ord lt) {n nrem:Nat} (hn:n+1<=nrem) (hz:nrem<=p.size) (hs:z96 lt p (n+1)) :
  1<=(z0q lt (kas_descPart n nrem p)).1/\(z0q lt (kas_descPart n nrem p)).1<=nrem/\(z0q lt (kas_descPart n nrem p)).2.Perm p/\z5c lt (z0q lt (kas_descPart n nrem p)).2 (z0q lt (kas_descPart n nrem p)).1:=by
 unfold kas_descPart
 rw [z2b]
 obtain ⟨a1,a2,a3,a4,a5,a6⟩:=z98 O (nrem - (n+1)) p (n+1) 0 (by omega) (by omega) hs (fun i j h1 h2 h3 h4=>by
  have:i=j:=by omega
  subst this;exact O.irr _)
 generalize hr:z0q lt (kas_desc (nrem - (n+1)) p (n+1) 0)=r at *
 have hsz:r.1.size=p.size:=a1.size_eq
 split
 . rename_i hq
   obtain ⟨b1,b2,b3,b4⟩:=zdd (nrem:=nrem) O (by omega) (by omega) (by rw [z97,hsz];exact hz) (zgi O (by rw [hsz];omega) a4 a5 a6)
   exact ⟨by omega,b2,b3.trans (rev_perm.trans a1),b4⟩
 . obtain ⟨b1,b2,b3,b4⟩:=zdd (nrem:=nrem) O (by omega) (by omega) (by rw [hsz];exact hz) a5
   exact ⟨by omega,b2,b3.trans a1,b4⟩
theorem zjd (O:Ord lt) {nrem:Nat} (h1:1<=nrem) (hz:nrem<=p.size) :
  1<=(z0q lt (kas_count nrem p)).1/\(z0q lt (kas_count nrem p)).1<=nrem/\(z0q lt (kas_count nrem p)).2.Perm p/\z5c lt (z0q lt (kas_count nrem p)).2 (z0q lt (kas_count nrem p)).1:=by
 unfold kas_count
 rw [z2b]
 have h0:z5c lt p 1:=fun i j hij hj=>by
  have:i=j:=by omega
  subst this;exact O.irr _
 obtain ⟨a,b,c,d⟩:=zgh O (nrem - 1) 1 (Nat.le_refl _) h0
 generalize hm:z0q lt (kas_asc p (nrem - 1) 1)=m at *
 by_cases he:m=nrem
 . rw [if_pos (by simpa using he)]
   exact ⟨a,by show m<=nrem;omega,Array.Perm.refl _,c⟩
 . rw [if_neg (by simpa using he)]
   have hlt:lt (g p m) (g p (m - 1))=true:=d.resolve_left (by omega)
   by_cases hg:m > 1
   . rw [if_pos hg]
     simp only [z0q]
     cases hc:lt (p.getD 0 0) (p.getD (m - 1) 0) with
     | true=>simp only [if_true,z0q];exact ⟨a,by omega,Array.Perm.refl _,c⟩
     | false=>
      simp only [Bool.false_eq_true,if_false]
      have al:∀i j,i<m->j<m->lt (g p i) (g p j)=false:=fun i j hi hj=>
       O.tr (O.tr (c j (m - 1) (by omega) (by omega)) hc) (c 0 i (by omega) hi)
      obtain ⟨b1,b2,b3,b4⟩:=z73 (p:=kas_rev p 0 m) (n:=m) (nrem:=nrem) O (by omega) (by rw [z97];exact hz) (fun i j hij hj=>by
       rw [zar (by omega),zar (by omega)]
       by_cases hjm:j<m
       . rw [if_pos (by omega),if_pos (by omega)];exact al _ _ (by omega) (by omega)
       . have hj':j=m:=by omega
         subst hj'
         by_cases hi:i=j
         . subst hi;rw [if_neg (by omega)];exact O.irr _
         . rw [if_pos (by omega),if_neg (by omega)]
           exact O.tr (O.asy hlt) (al _ _ (by omega) (by omega)))
      exact ⟨b1,b2,b3.trans rev_perm,b4⟩
   . rw [if_neg hg]
     have hm1:m=1:=by omega
     exact z73 O (by omega) hz fun i j hij hj=>by
      by_cases hi:i=j
      . subst hi;exact O.irr _
      . have hi0:i=0:=by omega
        have hj1:j=1:=by omega
        subst hi0;subst hj1
        rw [hm1] at hlt
        exact O.asy hlt
theorem z99 (O:Ord lt) {k:Nat} (hs:z5c lt p k):∀(f l r:Nat),l<=r->r<=k->r - l<=f->(∀i,i<l->lt (g p k) (g p i)=false)->(∀i,r<=i->i<k->lt (g p k) (g p i)=true) ->
  z0q lt (kas_place p k f l r)<=k/\(∀i,i<z0q lt (kas_place p k f l r)->lt (g p k) (g p i)=false)/\∀i,z0q lt (kas_place p k f l r)<=i->i<k->lt (g p k) (g p i)=true
 | 0,l,r,h1,h2,h3,hl,hr=>by
  have:l=r:=by omega
  subst this
  exact ⟨h2,hl,hr⟩
 | f+1,l,r,h1,h2,h3,hl,hr=>by
  unfold kas_place
  by_cases hlr:l ≥ r
  . rw [if_pos hlr]
    have:l=r:=by omega
    subst this
    exact ⟨h2,hl,hr⟩
  . rw [if_neg hlr]
    simp only [z0q]
    cases hc:lt (p.getD k 0) (p.getD ((l+r) / 2) 0) with
    | true=>
     simp only [if_true]
     refine z99 O hs f l ((l+r) / 2) (by omega) (by omega) (by omega) hl fun i hi hik=>?_
     cases hx:lt (g p k) (g p i) with
     | true=>rfl
     | false=>
      have:=O.tr (hs ((l+r) / 2) i hi hik) hx
      rw [show lt (g p k) (g p ((l+r) / 2))=true from hc] at this;cases this
    | false=>
     simp only [Bool.false_eq_true,if_false]
     exact z99 O hs f ((l+r) / 2+1) r (by omega) h2 (by omega) (fun i hi=>O.tr (hs i ((l+r) / 2) (by omega) (by omega)) hc) hr
theorem zde {k d:Nat} (hk:k<p.size) (hd:d<=k) (i:Nat):g (bubble p k d) i=if i=k - d then g p k else if k - d<i/\i<=k then g p (i - 1) else g p i:=by
 have e:=getElem?_bubble hk d hd i
 by_cases h:i=k - d
 . rw [if_pos h] at e ⊢;exact z72 e
 . rw [if_neg h] at e ⊢
   by_cases h2:k - d<i/\i<=k
   . rw [if_pos h2] at e ⊢;exact z72 e
   . rw [if_neg h2] at e ⊢;exact z72 e
theorem zlh (O:Ord lt):∀(f:Nat) (p:Array Nat) (k:Nat),k+f<=p.size->z5c lt p k->(z0q lt (kas_bin f p k)).Perm p/\z5c lt (z0q lt (kas_bin f p k)) (k+f)
 | 0,p,k,h,hs=>⟨Array.Perm.refl _,hs⟩
 | f+1,p,k,h,hs=>by
  unfold kas_bin
  rw [z2b]
  obtain ⟨a,b,c⟩:=z99 O hs k 0 k (Nat.zero_le _) (Nat.le_refl _) (by omega) (fun i hi=>absurd hi (Nat.not_lt_zero _)) (fun i h1 h2=>absurd h2 (by omega))
  generalize hl:z0q lt (kas_place p k k 0 k)=l at *
  have hs':z5c lt (bubble p k (k - l)) (k+1):=fun i j hij hj=>by
   rw [zde (by omega) (by omega),zde (by omega) (by omega)]
   have hkl:k - (k - l)=l:=by omega
   rw [hkl]
   by_cases hj1:j=l
   . rw [if_pos hj1]
     by_cases hi1:i=l
     . rw [if_pos hi1];exact O.irr _
     . rw [if_neg hi1,if_neg (by omega)];exact b i (by omega)
   . rw [if_neg hj1]
     by_cases hj2:l<j/\j<=k
     . rw [if_pos hj2]
       by_cases hi1:i=l
       . rw [if_pos hi1];exact O.asy (c (j - 1) (by omega) (by omega))
       . rw [if_neg hi1]
         by_cases hi2:l<i/\i<=k
         . rw [if_pos hi2];exact hs _ _ (by omega) (by omega)
         . rw [if_neg hi2];exact hs _ _ (by omega) (by omega)
     . rw [if_neg hj2,if_neg (by omega),if_neg (by omega)]
       exact hs _ _ hij (by omega)
  obtain ⟨a1,a2⟩:=zlh O f (bubble p k (k - l)) (k+1) (by rw [bubble_size];omega) hs'
  exact ⟨a1.trans (bubble_perm _ _ _),by rw [show k+(f+1)=k+1+f by omega];exact a2⟩
theorem z43 (O:Ord lt) {n:Nat} (h1:1<=n):(z0q lt (kas_sort n)).Perm (List.toArray (List.range n))/\z5c lt (z0q lt (kas_sort n)) n:=by
 unfold kas_sort
 rw [z2b]
 obtain ⟨a,b,c,d⟩:=zjd (p:=List.toArray (List.range n)) O h1 (by simp)
 generalize z0q lt (kas_count n (List.toArray (List.range n)))=r at *
 have hsz:r.2.size=n:=by rw [c.size_eq];simp
 split
 . rename_i hr
   obtain ⟨a1,a2⟩:=zlh O (n - max r.1 1) r.2 (max r.1 1) (by omega) (by rw [show max r.1 1=r.1 by omega];exact d)
   exact ⟨a1.trans c,by rw [show max r.1 1+(n - max r.1 1)=n by omega] at a2;exact a2⟩
 . rename_i hr
   have:r.1=n:=by omega
   exact ⟨c,by rw [this] at d;exact d⟩
end
end L2
namespace L2
open PySem PySem.Spec PyProof.Rows
open PySem.W (KasT kas_sort)
mutual
noncomputable def D.oi:D->Bool
 | .int _=>true
 | .tup ds=>ois ds
 | _=>false
noncomputable def ois:List D->Bool
 | []=>true
 | d::ds=>d.oi&&ois ds
end
mutual
noncomputable def ltT:D->D->Bool
 | .int i,.int j=>decide (i<j)
 | .int _,.tup _=>true
 | .tup ds,.tup es=>z7p ds es
 | _,_=>false
noncomputable def z7p:List D->List D->Bool
 | [],[]=>false
 | [],_::_=>true
 | _::_,[]=>false
 | d::ds,e::es=>if eqD d e=true then z7p ds es else ltT d e
end
mutual
noncomputable def z1k:D->D->Option Bool
 | .int i,.int j=>some (decide (i<j))
 | .tup ds,.tup es=>z1v ds es
 | _,_=>none
noncomputable def z1v:List D->List D->Option Bool
 | [],[]=>some false
 | [],_::_=>some true
 | _::_,[]=>some false
 | d::ds,e::es=>if eqD d e=true then z1v ds es else z1k d e
end
mutual
theorem zgj:∀{d e:D} {b:Bool},z1k d e=some b->b=ltT d e
 | .int i,.int j,b,h=>by simp only [z1k,Option.some.injEq] at h;simp only [ltT];exact h.symm
 | .tup ds,.tup es,b,h=>by simp only [z1k] at h;simp only [ltT];exact zgk h
 | .non,e,b,h=>by simp [z1k] at h
 | .bl _,e,b,h=>by simp [z1k] at h
 | .str _,e,b,h=>by simp [z1k] at h
 | .lst _,e,b,h=>by simp [z1k] at h
 | .dk _ _,e,b,h=>by simp [z1k] at h
 | .dt _ _,e,b,h=>by simp [z1k] at h
 | .dn _ _,e,b,h=>by simp [z1k] at h
 | .scr _,e,b,h=>by simp [z1k] at h
 | .exc _ _,e,b,h=>by simp [z1k] at h
 | .int _,.non,b,h=>by simp [z1k] at h
 | .int _,.bl _,b,h=>by simp [z1k] at h
 | .int _,.str _,b,h=>by simp [z1k] at h
 | .int _,.lst _,b,h=>by simp [z1k] at h
 | .int _,.tup _,b,h=>by simp [z1k] at h
 | .int _,.dk _ _,b,h=>by simp [z1k] at h
 | .int _,.dt _ _,b,h=>by simp [z1k] at h
 | .int _,.dn _ _,b,h=>by simp [z1k] at h
 | .int _,.scr _,b,h=>by simp [z1k] at h
 | .int _,.exc _ _,b,h=>by simp [z1k] at h
 | .tup _,.non,b,h=>by simp [z1k] at h
 | .tup _,.bl _,b,h=>by simp [z1k] at h
 | .tup _,.int _,b,h=>by simp [z1k] at h
 | .tup _,.str _,b,h=>by simp [z1k] at h
 | .tup _,.lst _,b,h=>by simp [z1k] at h
 | .tup _,.dk _ _,b,h=>by simp [z1k] at h
 | .tup _,.dt _ _,b,h=>by simp [z1k] at h
 | .tup _,.dn _ _,b,h=>by simp [z1k] at h
 | .tup _,.scr _,b,h=>by simp [z1k] at h
 | .tup _,.exc _ _,b,h=>by simp [z1k] at h
theorem zgk:∀{ds es:List D} {b:Bool},z1v ds es=some b->b=z7p ds es
 | [],[],b,h=>by simp only [z1v,Option.some.injEq] at h;simp only [z7p];exact h.symm
 | [],_::_,b,h=>by simp only [z1v,Option.some.injEq] at h;simp only [z7p];exact h.symm
 | _::_,[],b,h=>by simp only [z1v,Option.some.injEq] at h;simp only [z7p];exact h.symm
 | d::ds,e::es,b,h=>by
  simp only [z1v] at h
  simp only [z7p]
  split at h
  . rename_i q;rw [if_pos q];exact zgk h
  . rename_i q;rw [if_neg q];exact zgj h
end
mutual
theorem zei:∀{d e:D},d.oi=true->eqD d e=true->e.oi=true->d=e
 | .int i,.int j,_,h,_=>by simp only [eqD,beq_iff_eq] at h;rw [h]
 | .tup ds,.tup es,p,h,q=>by
  simp only [eqD] at h
  simp only [D.oi] at p q
  rw [zli p h q]
 | .int i,.tup _,_,h,_=>by simp [eqD] at h
 | .tup _,.int _,_,h,_=>by simp [eqD] at h
 | .int _,.non,_,_,q=>by simp [D.oi] at q
 | .int _,.bl _,_,_,q=>by simp [D.oi] at q
 | .int _,.str _,_,_,q=>by simp [D.oi] at q
 | .int _,.lst _,_,_,q=>by simp [D.oi] at q
 | .int _,.dk _ _,_,_,q=>by simp [D.oi] at q
 | .int _,.dt _ _,_,_,q=>by simp [D.oi] at q
 | .int _,.dn _ _,_,_,q=>by simp [D.oi] at q
 | .int _,.scr _,_,_,q=>by simp [D.oi] at q
 | .int _,.exc _ _,_,_,q=>by simp [D.oi] at q
 | .tup _,.non,_,_,q=>by simp [D.oi] at q
 | .tup _,.bl _,_,_,q=>by simp [D.oi] at q
 | .tup _,.str _,_,_,q=>by simp [D.oi] at q
 | .tup _,.lst _,_,_,q=>by simp [D.oi] at q
 | .tup _,.dk _ _,_,_,q=>by simp [D.oi] at q
 | .tup _,.dt _ _,_,_,q=>by simp [D.oi] at q
 | .tup _,.dn _ _,_,_,q=>by simp [D.oi] at q
 | .tup _,.scr _,_,_,q=>by simp [D.oi] at q
 | .tup _,.exc _ _,_,_,q=>by simp [D.oi] at q
 | .non,_,p,_,_=>by simp [D.oi] at p
 | .bl _,_,p,_,_=>by simp [D.oi] at p
 | .str _,_,p,_,_=>by simp [D.oi] at p
 | .lst _,_,p,_,_=>by simp [D.oi] at p
 | .dk _ _,_,p,_,_=>by simp [D.oi] at p
 | .dt _ _,_,p,_,_=>by simp [D.oi] at p
 | .dn _ _,_,p,_,_=>by simp [D.oi] at p
 | .scr _,_,p,_,_=>by simp [D.oi] at p
 | .exc _ _,_,p,_,_=>by simp [D.oi] at p
theorem zli:∀{ds es:List D},ois ds=true->z6d ds es=true->ois es=true->ds=es
 | [],[],_,_,_=>rfl
 | [],_::_,_,h,_=>by simp [z6d] at h
 | _::_,[],_,h,_=>by simp [z6d] at h
 | d::ds,e::es,p,h,q=>by
  simp only [z6d,Bool.and_eq_true] at h
  simp only [ois,Bool.and_eq_true] at p q
  rw [zei p.1 h.1 q.1,zli p.2 h.2 q.2]
end
mutual
theorem z9a:∀{d:D},d.oi=true->eqD d d=true
 | .int i,_=>by simp [eqD]
 | .tup ds,p=>by simp only [eqD];exact zdf (by simpa only [D.oi] using p)
 | .non,p=>by simp [D.oi] at p
 | .bl _,p=>by simp [D.oi] at p
 | .str _,p=>by simp [D.oi] at p
 | .lst _,p=>by simp [D.oi] at p
 | .dk _ _,p=>by simp [D.oi] at p
 | .dt _ _,p=>by simp [D.oi] at p
 | .dn _ _,p=>by simp [D.oi] at p
 | .scr _,p=>by simp [D.oi] at p
 | .exc _ _,p=>by simp [D.oi] at p
theorem zdf:∀{ds:List D},ois ds=true->z6d ds ds=true
 | [],_=>rfl
 | d::ds,p=>by
  simp only [ois,Bool.and_eq_true] at p
  simp only [z6d,z9a p.1,zdf p.2,Bool.and_self]
end
mutual
theorem zdg:∀{d e:D},d.oi=true->e.oi=true->ltT d e=false->ltT e d=false->d=e
 | .int i,.int j,_,_,h,h'=>by
  simp only [ltT,decide_eq_false_iff_not] at h h'
  have:i=j:=by omega
  rw [this]
 | .tup ds,.tup es,p,q,h,h'=>by
  simp only [ltT] at h h'
  simp only [D.oi] at p q
  rw [zgl p q h h']
 | .int _,.tup _,_,_,h,_=>by simp [ltT] at h
 | .tup _,.int _,_,_,_,h=>by simp [ltT] at h
 | .int _,.non,_,q,_,_=>by simp [D.oi] at q
 | .int _,.bl _,_,q,_,_=>by simp [D.oi] at q
 | .int _,.str _,_,q,_,_=>by simp [D.oi] at q
 | .int _,.lst _,_,q,_,_=>by simp [D.oi] at q
 | .int _,.dk _ _,_,q,_,_=>by simp [D.oi] at q
 | .int _,.dt _ _,_,q,_,_=>by simp [D.oi] at q
 | .int _,.dn _ _,_,q,_,_=>by simp [D.oi] at q
 | .int _,.scr _,_,q,_,_=>by simp [D.oi] at q
 | .int _,.exc _ _,_,q,_,_=>by simp [D.oi] at q
 | .tup _,.non,_,q,_,_=>by simp [D.oi] at q
 | .tup _,.bl _,_,q,_,_=>by simp [D.oi] at q
 | .tup _,.str _,_,q,_,_=>by simp [D.oi] at q
 | .tup _,.lst _,_,q,_,_=>by simp [D.oi] at q
 | .tup _,.dk _ _,_,q,_,_=>by simp [D.oi] at q
 | .tup _,.dt _ _,_,q,_,_=>by simp [D.oi] at q
 | .tup _,.dn _ _,_,q,_,_=>by simp [D.oi] at q
 | .tup _,.scr _,_,q,_,_=>by simp [D.oi] at q
 | .tup _,.exc _ _,_,q,_,_=>by simp [D.oi] at q
 | .non,_,p,_,_,_=>by simp [D.oi] at p
 | .bl _,_,p,_,_,_=>by simp [D.oi] at p
 | .str _,_,p,_,_,_=>by simp [D.oi] at p
 | .lst _,_,p,_,_,_=>by simp [D.oi] at p
 | .dk _ _,_,p,_,_,_=>by simp [D.oi] at p
 | .dt _ _,_,p,_,_,_=>by simp [D.oi] at p
 | .dn _ _,_,p,_,_,_=>by simp [D.oi] at p
 | .scr _,_,p,_,_,_=>by simp [D.oi] at p
 | .exc _ _,_,p,_,_,_=>by simp [D.oi] at p
theorem zgl:∀{ds es:List D},ois ds=true->ois es=true->z7p ds es=false->z7p es ds=false->ds=es
 | [],[],_,_,_,_=>rfl
 | [],_::_,_,_,h,_=>by simp [z7p] at h
 | _::_,[],_,_,_,h=>by simp [z7p] at h
 | d::ds,e::es,p,q,h,h'=>by
  simp only [ois,Bool.and_eq_true] at p q
  simp only [z7p] at h h'
  by_cases w:eqD d e=true
  . have:=zei p.1 w q.1
    subst this
    rw [if_pos w] at h
    rw [if_pos w] at h'
    rw [zgl p.2 q.2 h h']
  . have w':¬eqD e d=true:=fun z=>w (by rw [zei q.1 z p.1];exact z9a p.1)
    rw [if_neg w] at h
    rw [if_neg w'] at h'
    have:=zdg p.1 q.1 h h'
    subst this
    exact absurd (z9a p.1) w
end
mutual
theorem zdh:∀{d:D},d.oi=true->ltT d d=false
 | .int i,_=>by simp [ltT]
 | .tup ds,p=>by simp only [ltT];exact zgm (by simpa only [D.oi] using p)
 | .non,p=>by simp [D.oi] at p
 | .bl _,p=>by simp [D.oi] at p
 | .str _,p=>by simp [D.oi] at p
 | .lst _,p=>by simp [D.oi] at p
 | .dk _ _,p=>by simp [D.oi] at p
 | .dt _ _,p=>by simp [D.oi] at p
 | .dn _ _,p=>by simp [D.oi] at p
 | .scr _,p=>by simp [D.oi] at p
 | .exc _ _,p=>by simp [D.oi] at p
theorem zgm:∀{ds:List D},ois ds=true->z7p ds ds=false
 | [],_=>rfl
 | d::ds,p=>by
  simp only [ois,Bool.and_eq_true] at p
  simp only [z7p]
  rw [if_pos (z9a p.1)]
  exact zgm p.2
end
mutual
theorem zgn:∀{d e f:D},d.oi=true->e.oi=true->f.oi=true->ltT d e=true->ltT e f=true->ltT d f=true
 | .int i,.int j,.int k,_,_,_,h,h'=>by
  simp only [ltT,decide_eq_true_eq] at h h' ⊢
  omega
 | .int i,.int j,.tup _,_,_,_,h,h'=>by simp only [ltT]
 | .int i,.tup _,.tup _,_,_,_,h,h'=>by simp only [ltT]
 | .tup ds,.tup es,.tup fs,p,q,r,h,h'=>by
  simp only [ltT] at h h' ⊢
  simp only [D.oi] at p q r
  exact zlj p q r h h'
 | .int i,.tup _,.int _,_,_,_,h,h'=>by simp [ltT] at h'
 | .tup _,.int _,_,_,_,_,h,h'=>by simp [ltT] at h
 | .tup _,.tup _,.int _,_,_,_,h,h'=>by simp [ltT] at h'
 | .non,_,_,p,_,_,_,_=>by simp [D.oi] at p
 | .bl _,_,_,p,_,_,_,_=>by simp [D.oi] at p
 | .str _,_,_,p,_,_,_,_=>by simp [D.oi] at p
 | .lst _,_,_,p,_,_,_,_=>by simp [D.oi] at p
 | .dk _ _,_,_,p,_,_,_,_=>by simp [D.oi] at p
 | .dt _ _,_,_,p,_,_,_,_=>by simp [D.oi] at p
 | .dn _ _,_,_,p,_,_,_,_=>by simp [D.oi] at p
 | .scr _,_,_,p,_,_,_,_=>by simp [D.oi] at p
 | .exc _ _,_,_,p,_,_,_,_=>by simp [D.oi] at p
 | _,.non,_,_,p,_,_,_=>by simp [D.oi] at p
 | _,.bl _,_,_,p,_,_,_=>by simp [D.oi] at p
 | _,.str _,_,_,p,_,_,_=>by simp [D.oi] at p
 | _,.lst _,_,_,p,_,_,_=>by simp [D.oi] at p
 | _,.dk _ _,_,_,p,_,_,_=>by simp [D.oi] at p
 | _,.dt _ _,_,_,p,_,_,_=>by simp [D.oi] at p
 | _,.dn _ _,_,_,p,_,_,_=>by simp [D.oi] at p
 | _,.scr _,_,_,p,_,_,_=>by simp [D.oi] at p
 | _,.exc _ _,_,_,p,_,_,_=>by simp [D.oi] at p
 | _,_,.non,_,_,p,_,_=>by simp [D.oi] at p
 | _,_,.bl _,_,_,p,_,_=>by simp [D.oi] at p
 | _,_,.str _,_,_,p,_,_=>by simp [D.oi] at p
 | _,_,.lst _,_,_,p,_,_=>by simp [D.oi] at p
 | _,_,.dk _ _,_,_,p,_,_=>by simp [D.oi] at p
 | _,_,.dt _ _,_,_,p,_,_=>by simp [D.oi] at p
 | _,_,.dn _ _,_,_,p,_,_=>by simp [D.oi] at p
 | _,_,.scr _,_,_,p,_,_=>by simp [D.oi] at p
 | _,_,.exc _ _,_,_,p,_,_=>by simp [D.oi] at p
theorem zlj:∀{ds es fs:List D},ois ds=true->ois es=true->ois fs=true->z7p ds es=true->z7p es fs=true->z7p ds fs=true
 | [],_,_::_,_,_,_,_,_=>by simp only [z7p]
 | _,[],[],_,_,_,_,h=>by simp [z7p] at h
 | _::_,[],_,_,_,_,h,_=>by simp [z7p] at h
 | _,_::_,[],_,_,_,_,h=>by simp [z7p] at h
 | d::ds,e::es,f::fs,p,q,r,h,h'=>by
  simp only [ois,Bool.and_eq_true] at p q r
  simp only [z7p] at h h' ⊢
  by_cases w:eqD d e=true
  . have:=zei p.1 w q.1
    subst this
    rw [if_pos w] at h
    by_cases w2:eqD d f=true
    . rw [if_pos w2] at h' ⊢;exact zlj p.2 q.2 r.2 h h'
    . rw [if_neg w2] at h' ⊢;exact h'
  . rw [if_neg w] at h
    by_cases w2:eqD e f=true
    . have:=zei q.1 w2 r.1
      subst this
      rw [if_neg w];exact h
    . rw [if_neg w2] at h'
      have h3:=zgn p.1 q.1 r.1 h h'
      by_cases w3:eqD d f=true
      . have:=zei p.1 w3 r.1
        subst this
        rw [zdh p.1] at h3;cases h3
      . rw [if_neg w3];exact h3
end
theorem z1q:∀{ds:List D} {i:Nat},ois ds=true->(ds.getD i (.int 0)).oi=true
 | [],i,_=>by simp [D.oi]
 | d::ds,0,h=>by simp only [ois,Bool.and_eq_true] at h;simpa using h.1
 | d::ds,i+1,h=>by
  simp only [ois,Bool.and_eq_true] at h
  simpa using z1q (i:=i) h.2
noncomputable def ltI (ds:List D) (i j:Nat):Bool:=ltT (ds.getD i (.int 0)) (ds.getD j (.int 0))
theorem zc9 {ds:List D} (h:ois ds=true):Ord (ltI ds):=by
 refine ⟨fun a=>zdh (z1q h),fun {a b c} h1 h2=>?_,fun {a b} h1=>?_⟩
 . unfold ltI at h1 h2 ⊢
   cases hx:ltT (ds.getD c (.int 0)) (ds.getD a (.int 0)) with
   | false=>rfl
   | true=>
    cases hy:ltT (ds.getD a (.int 0)) (ds.getD b (.int 0)) with
    | true=>rw [zgn (z1q h) (z1q h) (z1q h) hx hy] at h2;cases h2
    | false=>
     rw [zdg (z1q h) (z1q h) hy h1] at hx
     rw [hx] at h2;cases h2
 . unfold ltI at h1 ⊢
   cases hx:ltT (ds.getD b (.int 0)) (ds.getD a (.int 0)) with
   | false=>rfl
   | true=>
    have:=zgn (z1q h) (z1q h) (z1q h) h1 hx
    rw [zdh (z1q h)] at this;cases this
noncomputable def zje (d:D):List D->List D
 | []=>[d]
 | e::r=>if ltT e d=true then e::zje d r else d::e::r
noncomputable def z1w:List D->List D
 | []=>[]
 | d::r=>zje d (z1w r)
theorem z74 (d:D):∀l:List D,(zje d l).Perm (d::l)
 | []=>.refl _
 | e::r=>by
  unfold zje
  split
  . exact ((z74 d r).cons e).trans (.swap d e r)
  . exact .refl _
theorem z0j:∀l:List D,(z1w l).Perm l
 | []=>.refl _
 | d::r=>(z74 d (z1w r)).trans ((z0j r).cons d)
theorem ois_mem:∀{ds:List D},ois ds=true↔∀d∈ds,d.oi=true
 | []=>by simp [ois]
 | d::ds=>by simp [ois,ois_mem (ds:=ds)]
def Srt (l:List D):Prop:=l.Pairwise fun a b=>ltT b a=false
theorem zdi {d:D}:∀{l:List D},d.oi=true->ois l=true->Srt l->Srt (zje d l)
 | [],_,_,_=>by simp [zje,Srt]
 | e::r,hd,hl,hs=>by
  simp only [ois,Bool.and_eq_true] at hl
  obtain ⟨h1,h2⟩:=List.pairwise_cons.mp hs
  unfold zje
  split
  . rename_i hlt
    refine List.pairwise_cons.mpr ⟨fun x hx=>?_,zdi hd hl.2 h2⟩
    rcases List.mem_cons.mp ((z74 d r).mem_iff.mp hx) with rfl | hx
    . cases hq:ltT x e with
      | false=>rfl
      | true=>
       have:=zgn hl.1 hd hl.1 hlt hq
       rw [zdh hl.1] at this;cases this
    . exact h1 x hx
  . rename_i hlt
    have hlt:ltT e d=false:=by simpa using hlt
    refine List.pairwise_cons.mpr ⟨fun x hx=>?_,hs⟩
    rcases List.mem_cons.mp hx with rfl | hx
    . exact hlt
    . have hxo:=(ois_mem.mp hl.2) x hx
      cases hq:ltT x d with
      | false=>rfl
      | true=>
       have h3:=h1 x hx
       cases hy:ltT d e with
       | true=>rw [zgn hxo hd hl.1 hq hy] at h3;cases h3
       | false=>
        rw [zdg hd hl.1 hy hlt] at hq
        rw [hq] at h3;cases h3
theorem z4j {l l':List D} (p:l.Perm l') (h:ois l'=true):ois l=true:=ois_mem.mpr fun d hd=>(ois_mem.mp h) d (p.mem_iff.mp hd)
theorem z1r:∀{l:List D},ois l=true->Srt (z1w l)
 | [],_=>.nil
 | d::r,h=>by
  simp only [ois,Bool.and_eq_true] at h
  exact zdi h.1 (z4j (z0j r) h.2) (z1r h.2)
theorem z3h:∀{l l':List D},ois l=true->l.Perm l'->Srt l->Srt l'->l=l'
 | [],l',_,p,_,_=>by rw [p.nil_eq]
 | a::r,[],_,p,_,_=>by have:=p.length_eq;simp at this
 | a::r,b::r',h,p,s,s'=>by
  have h':=h
  simp only [ois,Bool.and_eq_true] at h
  obtain ⟨h1,h2⟩:=List.pairwise_cons.mp s
  obtain ⟨h3,h4⟩:=List.pairwise_cons.mp s'
  have hb:b∈a::r:=p.mem_iff.mpr List.mem_cons_self
  have ha:a∈b::r':=p.mem_iff.mp List.mem_cons_self
  have hbo:=(ois_mem.mp h') b hb
  have e:a=b:=by
   rcases List.mem_cons.mp hb with z | z
   . exact z.symm
   . rcases List.mem_cons.mp ha with w | w
     . exact w
     . exact zdg h.1 hbo (h3 a w) (h1 b z)
  subst e
  rw [z3h h.2 (List.perm_cons a |>.mp p) h2 h4]
theorem z88 {ds:List D} (h:ois ds=true) (h1:1<=ds.length):(z0q (ltI ds) (kas_sort ds.length)).toList.map (fun i=>ds.getD i (.int 0))=z1w ds:=by
 obtain ⟨p,s⟩:=z43 (zc9 h) h1
 generalize z0q (ltI ds) (kas_sort ds.length)=a at *
 have hsz:a.size=ds.length:=by rw [p.size_eq];simp
 have pl:a.toList.Perm (List.range ds.length):=by
  have:=p.toList
  simpa using this
 have pm:(a.toList.map fun i=>ds.getD i (.int 0)).Perm ds:=by
  refine (pl.map _).trans ?_
  rw [show (List.range ds.length).map (fun i=>ds.getD i (.int 0))=ds from ?_]
  apply List.ext_getElem?
  intro i
  rw [List.getElem?_map]
  by_cases hi:i<ds.length
  . rw [List.getElem?_range hi]
    simp [hi]
  . rw [List.getElem?_eq_none (by simpa using hi),List.getElem?_eq_none (by simpa using hi)];rfl
 refine z3h (z4j pm h) (pm.trans (z0j ds).symm) ?_ (z1r h)
 refine List.pairwise_iff_getElem.mpr fun i j hi hj hij=>?_
 simp only [List.length_map,Array.length_toList] at hi hj
 have:=s i j (Nat.le_of_lt hij) (by omega)
 unfold ltI g at this
 rw [Array.getD_eq_getD_getElem?,Array.getD_eq_getD_getElem?,Array.getElem?_eq_getElem hi,Array.getElem?_eq_getElem hj] at this
 simpa using this
end L2
namespace L2
open PySem PySem.Spec PyProof.Rows
open PySem.W (KasT kas_sort kas_rev kas_asc kas_desc kas_tail3 kas_descPart kas_count kas_place kas_bin)
def InP {α:Type} (n:Nat) (P:α->Prop):KasT α->Prop
 | .ret a=>P a
 | .ask i j k=>i<n/\j<n/\∀b,InP n P (k b)
theorem InP.bind {α β:Type} {n:Nat} {P:α->Prop} {P':β->Prop} {f:α->KasT β}:∀{t:KasT α},InP n P t->(∀a,P a->InP n P' (f a))->InP n P' (t.bind f)
 | .ret a,h,hf=>hf a h
 | .ask i j k,h,hf=>⟨h.1,h.2.1,fun b=>InP.bind (h.2.2 b) hf⟩
def Al (n:Nat) (p:Array Nat):Prop:=∀i,p.getD i 0<n
theorem Al.perm {n:Nat} {p q:Array Nat} (h0:0<n) (h:q.Perm p) (a:Al n p):Al n q:=fun i=>by
 by_cases hi:i<q.size
 . have hm:q[i]∈p.toList:=h.toList.mem_iff.mp (by simp)
   obtain ⟨j,hj,e⟩:=List.mem_iff_getElem.mp hm
   have:=a j
   rw [Array.getD_eq_getD_getElem?,Array.getElem?_eq_getElem (by simpa using hj)] at this
   rw [Array.getD_eq_getD_getElem?,Array.getElem?_eq_getElem hi]
   simp only [Option.getD_some] at this ⊢
   rw [<-e]
   simpa using this
 . rw [Array.getD_eq_getD_getElem?,Array.getElem?_eq_none (by omega)];exact h0
section
variable {n:Nat} {p:Array Nat}
theorem zgo (a:Al n p):∀f k,InP n (fun _=>True) (kas_asc p f k)
 | 0,k=>trivial
 | f+1,k=>⟨a _,a _,fun b=>by cases b<;>first | exact trivial | exact zgo a f (k+1)⟩
theorem z9b (h0:0<n):∀(f:Nat) (p:Array Nat) (k q:Nat),Al n p->InP n (fun r=>Al n r.1) (kas_desc f p k q)
 | 0,p,k,q,a=>a
 | f+1,p,k,q,a=>by
  refine ⟨a _,a _,fun b=>?_⟩
  cases b with
  | true=>
   dsimp only
   rw [if_pos rfl]
   split
   . exact z9b h0 f _ _ _ (a.perm h0 rev_perm)
   . exact z9b h0 f _ _ _ a
  | false=>
   dsimp only
   rw [if_neg Bool.false_ne_true]
   refine ⟨a _,a _,fun c=>?_⟩
   cases c with
   | true=>exact a
   | false=>exact z9b h0 f _ _ _ a
theorem zdj (h0:0<n) (a:Al n p) (k m:Nat):InP n (fun r=>Al n r.2) (kas_tail3 k m p):=
 InP.bind (zgo (a.perm h0 rev_perm) _ _) fun _ _=>a.perm h0 rev_perm
theorem z75 (h0:0<n) (a:Al n p) (k m:Nat):InP n (fun r=>Al n r.2) (kas_descPart k m p):=
 InP.bind (z9b h0 _ _ _ _ a) fun r hr=>by
  split
  . exact zdj h0 (hr.perm h0 rev_perm) _ _
  . exact zdj h0 hr _ _
theorem zjf (h0:0<n) (a:Al n p) (m:Nat):InP n (fun r=>Al n r.2) (kas_count m p):=
 InP.bind (zgo a _ _) fun k _=>by
  split
  . exact a
  . split
    . refine ⟨a _,a _,fun b=>?_⟩
      cases b with
      | true=>exact a
      | false=>exact z75 h0 (a.perm h0 rev_perm) _ _
    . exact z75 h0 a _ _
theorem z9c (a:Al n p) (k:Nat):∀f l r,InP n (fun _=>True) (kas_place p k f l r)
 | 0,l,r=>trivial
 | f+1,l,r=>by
  unfold kas_place
  split
  . exact trivial
  . refine ⟨a _,a _,fun b=>?_⟩
    cases b with
    | true=>exact z9c a k f _ _
    | false=>exact z9c a k f _ _
theorem zlk (h0:0<n):∀(f:Nat) (p:Array Nat) (k:Nat),Al n p->InP n (Al n) (kas_bin f p k)
 | 0,p,k,a=>a
 | f+1,p,k,a=>InP.bind (z9c a k _ _ _) fun l _=>zlk h0 f _ _ (a.perm h0 (bubble_perm _ _ _))
theorem zca (h0:0<n):InP n (Al n) (kas_sort n):=by
 have a:Al n (List.toArray (List.range n)):=fun i=>by
  rw [Array.getD_eq_getD_getElem?]
  by_cases hi:i<n
  . simp [hi]
  . rw [Array.getElem?_eq_none (by simpa using hi)];exact h0
 exact InP.bind (zjf h0 a _) fun r hr=>by
  split
  . exact zlk h0 _ _ _ hr
  . exact hr
end
theorem zdk {α:Type} {n:Nat} {P:α->Prop} {lt:Nat->Nat->Bool} {cmp:Nat->Nat->(Bool->Shared->Prop)->Shared->Prop} {Q:α->Shared->Prop} {s:Shared} (hc:∀i j C,i<n->j<n->C (lt i j) s->cmp i j C s) :
  ∀{t:KasT α},InP n P t->Q (z0q lt t) s->t.kasWp cmp Q s
 | .ret a,_,q=>q
 | .ask i j k,h,q=>hc i j _ h.1 h.2.1 (zdk hc (h.2.2 _) q)
def RcLt (A:Around) (s:Shared) (x y:Value) (b:Bool):Prop:=∀(prog:Program) (w:World) (E:Value->Shared->Prop) (Q:Value->Shared->Prop),Q (.bool b) s->wpAny (model prog w) A (richCompare .Lt x y) Q E s
inductive LexR (A:Around) (s:Shared):List Value->List Value->Bool->Prop
 | nn:LexR A s [] [] false
 | nc {w ws}:LexR A s [] (w::ws) true
 | cn {v vs}:LexR A s (v::vs) [] false
 | eq {v w vs ws b} (h:SeqAt.EqAt A s v w true) (r:LexR A s vs ws b):LexR A s (v::vs) (w::ws) b
 | lt {v w vs ws b} (h:SeqAt.EqAt A s v w false) (r:RcLt A s v w b):LexR A s (v::vs) (w::ws) b
section
open PySem.SeqAt
open PySem.AutoSeq1 (wpAny_loadPart')
open PySem.MeetsSeq PySem.MeetsSeq2 PySem.MeetsSeq3
theorem zej (l b:Addr) (items items2:Array Value) (n n2:Nat) (dd dd2:Option Addr) (sl sl2:Array (Option Value)) (r:Bool) :
  Meets (Builtin.«tuple.__lt__» ⟨[.ref l,.ref b],[]⟩)
   (fun A R s=>s.heap.get? l=some { cls:=.type "tuple",dict:=dd,data:=.seq items n,slots:=sl }/\s.heap.get? b=some { cls:=.type "tuple",dict:=dd2,data:=.seq items2 n2,slots:=sl2 } /\
    LexR A.in1 s items.toList items2.toList r/\R (.ok (.ret (.bool r))) s):=
 .of_wp fun prog w A R s h=>by
  obtain ⟨hp,g,d,tk,os⟩:=s;obtain ⟨hl,hb,hL,h⟩:=h
  have f2:=AutoSeq1.sub_tuple_tuple
  wp_walk using wpAny_loadPart' hl,wpAny_loadPart' hb,wpAny_forIn_list _ (fun rest b s'=>b.1=none/\s'=⟨hp,g,d,tk,os⟩/\∃(vs ws:List Value) (r':Bool),rest=vs.zip ws /\
   LexR A.in1 ⟨hp,g,d,tk,os⟩ vs ws r'/\vs.length+items2.size=ws.length+items.size/\R (.ok (.ret (.bool r'))) ⟨hp,g,d,tk,os⟩) _
  case turn=>
   rintro ⟨y,x⟩ rest b s' ⟨hb',rfl,vs,ws,r',hz,hL',hlen,hR⟩
   cases hL' with
   | nn=>rw [List.zip_nil_left] at hz;cases hz
   | nc=>rw [List.zip_nil_left] at hz;cases hz
   | cn=>rw [List.zip_nil_right] at hz;cases hz
   | eq he hr=>
    rw [List.zip_cons_cons] at hz
    injection hz with hyx hrest
    injection hyx with hy hx
    subst hy hx
    simp only [List.length_cons] at hlen
    refine wpAny_bind (he prog w _ _ ?_)
    wp_walk
    exact ⟨rfl,rfl,_,_,_,hrest,hr,by omega,hR⟩
   | lt he hr=>
    rw [List.zip_cons_cons] at hz
    injection hz with hyx hrest
    injection hyx with hy hx
    subst hy hx
    refine wpAny_bind (he prog w _ _ ?_)
    have hri:=hr prog w
    wp_walk using hri
    exact ⟨_,rfl,by simpa using hR⟩
  case fin=>
   rintro ⟨b1,b2⟩ s' ⟨hb',rfl,vs,ws,r',hz,hL',hlen,hR⟩
   simp only at hb'
   subst hb'
   have hv:r'=decide (items.size<items2.size):=by
    cases hL' with
    | nn=>simp only [List.length_nil] at hlen;exact (decide_eq_false (by omega)).symm
    | nc=>simp only [List.length_nil,List.length_cons] at hlen;exact (decide_eq_true (by omega)).symm
    | cn=>simp only [List.length_nil,List.length_cons] at hlen;exact (decide_eq_false (by omega)).symm
    | eq _ _=>rw [List.zip_cons_cons] at hz;cases hz
    | lt _ _=>rw [List.zip_cons_cons] at hz;cases hz
   rw [hv] at hR
   wp_walk
   exact ⟨_,rfl,by simpa [Builtin.Tuple.tupleCompareSizes] using hR⟩
  case h=>exact ⟨rfl,rfl,items.toList,items2.toList,r,rfl,hL,by simp;omega,h⟩
theorem RcLt.tuples {A:Around} {s:Shared} {l b:Addr} {items items2:Array Value} {r:Bool} (hl:s.heap.IsTuple l items) (hb:s.heap.IsTuple b items2) (hL:LexR A.in1 s items.toList items2.toList r) (hu:A.units<cLine):RcLt A s (.ref l) (.ref b) r:=fun prog w E Q h=>by
 obtain ⟨⟨cls,dd,data,sl⟩,ho,hc,n,hd⟩:=id hl
 obtain ⟨⟨cls2,dd2,data2,sl2⟩,ho2,hc2,n2,hd2⟩:=id hb
 simp only at hc hd hc2 hd2
 subst hc hd hc2 hd2
 exact richCompare_meets_room (op:=.Lt) ⟨_,ho,rfl⟩ ⟨_,ho2,rfl⟩ PySem.F.slot_tuple_lt PySem.F.entry_tuple_lt (PySem.F.args_tuple_lt_2 _ _) (zej l b items items2 n n2 dd dd2 sl sl2 r)
  ⟨ho,ho2,hL,show Value.bool r≠Value.notImplemented/\Q (.bool r) s from ⟨(fun x=>nomatch x),h⟩⟩ hu
end
mutual
theorem zgp:∀{d:D},d.oi=true->d.pl=true
 | .int _,_=>rfl
 | .tup ds,h=>by simp only [D.pl];exact zll (by simpa only [D.oi] using h)
 | .non,p=>by simp [D.oi] at p
 | .bl _,p=>by simp [D.oi] at p
 | .str _,p=>by simp [D.oi] at p
 | .lst _,p=>by simp [D.oi] at p
 | .dk _ _,p=>by simp [D.oi] at p
 | .dt _ _,p=>by simp [D.oi] at p
 | .dn _ _,p=>by simp [D.oi] at p
 | .scr _,p=>by simp [D.oi] at p
 | .exc _ _,p=>by simp [D.oi] at p
theorem zll:∀{ds:List D},ois ds=true->pls ds=true
 | [],_=>rfl
 | d::ds,h=>by
  simp only [ois,Bool.and_eq_true] at h
  simp only [pls,zgp h.1,zll h.2,Bool.and_self]
end
section
variable {X:Cx} {pins:List (Addr×Obj)} {σ:St} {H:Hp} {s:Shared}
theorem zgq (I:Inv X pins σ H s) {A:Around} {n:Nat} (hu:A.units+n<cLine) (lt:∀{d e:D} {x y:V} {u v:Value} {b:Bool},d.oi=true->e.oi=true->d.dep<=n->RD X.K H d x->RD X.K H e y->RelV x u->RelV y v->z1k d e=some b->RcLt A s u v b) :
  ∀{ds es:List D} {xs ys:List V} {us vs:List Value} {b:Bool},ois ds=true->ois es=true->z40 ds<=n->RDs X.K H ds xs->RDs X.K H es ys->Vals xs us->Vals ys vs->z1v ds es=some b->LexR A s us vs b
 | [],[],_,_,_,_,b,_,_,_,r1,r2,q1,q2,h=>by
  simp only [RDs] at r1 r2;subst r1;subst r2
  cases q1;cases q2
  simp only [z1v,Option.some.injEq] at h;subst h
  exact .nn
 | [],e::es,_,_,_,_,b,_,_,_,r1,r2,q1,q2,h=>by
  simp only [RDs] at r1 r2;subst r1
  obtain ⟨y,ys,rfl,_,_⟩:=r2
  cases q1;cases q2
  simp only [z1v,Option.some.injEq] at h;subst h
  exact .nc
 | d::ds,[],_,_,_,_,b,_,_,_,r1,r2,q1,q2,h=>by
  simp only [RDs] at r1 r2;subst r2
  obtain ⟨y,ys,rfl,_,_⟩:=r1
  cases q1;cases q2
  simp only [z1v,Option.some.injEq] at h;subst h
  exact .cn
 | d::ds,e::es,_,_,_,_,b,p1,p2,hd,r1,r2,q1,q2,h=>by
  simp only [RDs] at r1 r2
  obtain ⟨x,xs,rfl,rx,rxs⟩:=r1
  obtain ⟨y,ys,rfl,ry,rys⟩:=r2
  simp only [ois,Bool.and_eq_true] at p1 p2
  simp only [z40] at hd
  cases q1 with
  | cons a1 a2=>
   cases q2 with
   | cons b1 b2=>
    have eq:=zd2 (A:=A) I n (zgp p1.1) (zgp p2.1) (by omega) hu rx ry a1 b1
    simp only [z1v] at h
    split at h
    . rename_i w
      rw [w] at eq
      exact .eq eq (zgq I hu lt p1.2 p2.2 (by omega) rxs rys a2 b2 h)
    . rename_i w
      rw [show eqD d e=false by simpa using w] at eq
      exact .lt eq (lt p1.1 p2.1 (by omega) rx ry a1 b1 h)
theorem zas {d e:D} {b:Bool} (h:z1k d e=some b):(∃i j,d=.int i/\e=.int j/\b=decide (i<j))\/∃ds es,d=.tup ds/\e=.tup es/\z1v ds es=some b:=by
 cases d with
 | int i=>cases e with
  | int j=>exact .inl ⟨_,_,rfl,rfl,(Option.some.inj h).symm⟩
  | _=>exact nomatch h
 | tup ds=>cases e with
  | tup es=>exact .inr ⟨_,_,rfl,rfl,h⟩
  | _=>exact nomatch h
 | _=>exact nomatch h
theorem zlm (I:Inv X pins σ H s):∀(n:Nat) {A:Around} {d e:D} {x y:V} {u v:Value} {b:Bool},A.units+n<cLine->d.oi=true->e.oi=true->d.dep<=n->RD X.K H d x->RD X.K H e y->RelV x u->RelV y v->z1k d e=some b->RcLt A s u v b:=by
 intro n
 induction n with
 | zero=>
  intro A d e x y u v b hu p1 p2 hd rx ry ru rv h
  rcases zas h with ⟨i,j,rfl,rfl,rfl⟩ | ⟨ds,es,rfl,rfl,h⟩
  . cases rx.int;cases ry.int
    obtain ⟨t,rfl⟩:=ru;obtain ⟨t',rfl⟩:=rv
    exact fun prog w E Q q=>HT.rcLt_int A s _ _ _ _ prog w E Q q
  . simp only [D.dep] at hd;omega
 | succ n ih=>
  intro A d e x y u v b hu p1 p2 hd rx ry ru rv h
  rcases zas h with ⟨i,j,rfl,rfl,rfl⟩ | ⟨ds,es,rfl,rfl,h⟩
  . cases rx.int;cases ry.int
    obtain ⟨t,rfl⟩:=ru;obtain ⟨t',rfl⟩:=rv
    exact fun prog w E Q q=>HT.rcLt_int A s _ _ _ _ prog w E Q q
  . obtain ⟨a,xs,rfl,ha,ra⟩:=rx.tup
    obtain ⟨c,ys,rfl,hc,rc⟩:=ry.tup
    cases ru;cases rv
    obtain ⟨its,r1,t1⟩:=I.tupA ha
    obtain ⟨its2,r2,t2⟩:=I.tupA hc
    simp only [D.dep] at hd
    simp only [D.oi] at p1 p2
    have hu1:A.in1.units+n<cLine:=by show A.units+1+n<cLine;omega
    exact RcLt.tuples t1 t2 (zgq I hu1 (fun {d e x y u v b} q1 q2 q3 q4 q5 q6 q7 q8=>ih hu1 q1 q2 q3 q4 q5 q6 q7 q8) p1 p2 (by omega) ra rc r1 r2 h) (by omega)
end
end L2
namespace L2
open PySem PySem.Spec PyProof.Rows
section
variable {prog:Program} {w:World} {A:Around} {E:Value->Shared->Prop} {s:Shared}
theorem zek {a:Addr} {vs:List Value} {n:Nat} {P:PySem.Fin->Shared->Prop} (ho:s.heap.get? a=some (seqObj "list" vs.toArray n)) (hs:vs.length<2)
  (h:P (.done (.ret .none)) { s with heap:=sortedHeap s.heap a vs ((pairsOf vs).map (·.2)) }):wpAny (model prog w) A (Builtin.«list.sort» ⟨[.ref a],[]⟩) P E s:=by
 rw [list_sort_plain]
 have ha:a<s.heap.objs.size:=Heap.lt_size ho
 refine wpAny_bind (listItems_at ho rfl ?_)
 refine wpAny_bind (listUpdate_at ho rfl ?_)
 obtain ⟨e1,ho1⟩:∃e1,(s.heap.update a (Obj.mapSeq fun _=>#[])).get? a=some (seqObj "list" #[] e1):=⟨_,get?_update_seq ho (fun _=>#[])⟩
 refine wpAny_bind (seqEpoch_at ho1 rfl ?_)
 refine wpAny_bind (wpAny_newTuple ?_)
 refine wpAny_bind (wpAny_newList ?_)
 refine wpAny_holding ?_
 have ho6:(((s.heap.update a (Obj.mapSeq fun _=>#[])).push (seqObj "tuple" vs.toArray 0)).push (seqObj "list" #[] 0)).get? a=some (seqObj "list" #[] e1):=by
  rw [Heap.get?_push_ne _ _ _ (by rw [size_push',Heap.size_update];exact Nat.ne_of_lt (Nat.lt_succ_of_lt ha)),Heap.get?_push_ne _ _ _ (by rw [Heap.size_update];exact Nat.ne_of_lt ha)]
  exact ho1
 show wpAny (model prog w) A _ P E { s with heap:=((s.heap.update a (Obj.mapSeq fun _=>#[])).push (seqObj "tuple" vs.toArray 0)).push (seqObj "list" #[] 0) }
 dsimp only
 have hsz:vs.toArray.size=vs.length:=by simp
 have h2:vs.toArray.size<2:=by rw [hsz];exact hs
 rw [if_pos h2,if_pos h2]
 refine wpAny_bind (wpAny_pure ?_)
 rw [StateT.run_pure]
 refine wpAny_bind (wpAny_pure ?_)
 dsimp only
 refine wpAny_bind (seqEpoch_at ho6 rfl ?_)
 refine wpAny_bind (listUpdate_at ho6 rfl ?_ (hsz2:=by rw [Array.size_map];show (pairsOf vs).size<=_;rw [pairsOf_size,sizeLine_eq];omega))
 simp only [bne_self_eq_false,Bool.false_eq_true,if_false]
 exact wpAny_pure h
theorem z5n {l:Addr} {vs:List Value} {Q:Value->Shared->Prop} (hl:s.heap.IsList l vs.toArray) (hs:vs.length<2)
  (h:Q (.ref (s.heap.objs.size+1)) { s with heap:=sortedAll s.heap vs ((pairsOf vs).map (·.2)) }):wpAny (model prog w) A (call (.builtin "sorted") [.ref l]) Q E s:=by
 refine Calls.call_function_entry kind_sorted plain_sorted entry_sorted (args_sorted1 _) ?_
 unfold Builtin.«sorted»
 refine wpAny_bind (m:=checkCount "sorted" 1 1 _) (wpAny_pure ?_)
 refine wpAny_bind (collect_list hl ?_ (by rw [sizeLine_eq];omega))
 refine wpAny_bind (wpAny_newList ?_ (by rw [sizeLine_eq];omega))
 have hsz:((s.heap.push (seqObj "list" #[] 0)).update s.heap.objs.size (Obj.mapSeq (·++vs.toArray))).objs.size=s.heap.objs.size+1:=by
  rw [Heap.size_update,size_push']
 have hoL:(((s.heap.push (seqObj "list" #[] 0)).update s.heap.objs.size (Obj.mapSeq (·++vs.toArray))).push (seqObj "list" vs.toArray 0)).get? (s.heap.objs.size+1)=some (seqObj "list" vs.toArray 0):=by
  rw [<-hsz];exact Heap.get?_push_size _ rfl
 show wpAny _ _ _ _ _ { s with heap:=((s.heap.push (seqObj "list" #[] 0)).update s.heap.objs.size (Obj.mapSeq (·++vs.toArray))).push (seqObj "list" vs.toArray 0) }
 rw [hsz]
 refine wpAny_bind (wpAny_holding (wpAny_call_entry slot_list_sort ⟨_,hoL,rfl⟩ entry_list_sort (zek hoL hs ⟨_,rfl,?_⟩) (args_list_sort _)))
 exact wpAny_pure ⟨_,rfl,h⟩
end
noncomputable def isI:D->Bool
 | .int _=>true
 | _=>false
noncomputable def zln:D->Bool
 | .tup (.int _::_)=>true
 | _=>false
noncomputable def zqu:D->Bool
 | .tup (.tup _::_)=>true
 | _=>false
noncomputable def z4k (ds:List D):Bool:=decide (ds.length<64)&&ois ds&&decide (z40 ds<=20)&&ds.all (fun d=>ds.all fun e=>(z1k d e).isSome)&&(ds.all isI||ds.all zln||ds.all zqu)
noncomputable def z1s:List D->Option D
 | [.lst ds]=>if z4k ds=true then some (.lst (z1w ds)) else none
 | _=>none
def zgr (K:Frag):List V->Hp->VK->Prop:=fun xs H Q=>∃p ys ds,xs=[.ref p]/\H p=some (.lst ys)/\RDs K H ds ys/\z4k ds=true/\(∀(l:Addr) (is:List Nat),H l=none->(∀i∈is,i<ys.length)->z1w ds=is.map (fun i=>ds.getD i (.int 0))->Q (.ref l) (upd H l (.lst (is.map fun i=>ys.getD i .non))))/\∀(l:Addr) (ns:List Int),H l=none->z1w ds=ns.map D.int->Q (.ref l) (upd H l (.lst (ns.map V.int)))
theorem RDs.pick {K:Frag} {H:Hp} {ds:List D} {ys:List V} (r:RDs K H ds ys):∀{is:List Nat},(∀i∈is,i<ys.length)->RDs K H (is.map fun i=>ds.getD i (.int 0)) (is.map fun i=>ys.getD i .non)
 | [],_=>by simp [RDs]
 | i::is,h=>by
  have hi:=h i List.mem_cons_self
  have hy:ys[i]?=some ys[i]:=by simp [hi]
  obtain ⟨d,h1,h2⟩:=r.get hy
  simp only [List.map_cons]
  refine .cons ?_ (RDs.pick r fun j hj=>h j (List.mem_cons_of_mem _ hj))
  rw [List.getD_eq_getElem?_getD,List.getD_eq_getElem?_getD,h1,hy]
  exact h2
theorem z76 {K:Frag}:z7r K true z1s (zgr K):=by
 intro H0 H xs ds z Q s r ho k
 unfold z1s at ho
 split at ho<;>first | cases ho | skip
 split at ho<;>cases ho
 rename_i es hok
 obtain ⟨x,rfl,q1⟩:=r.uno
 obtain ⟨p,ys,rfl,hp,ry⟩:=q1.lst
 refine ⟨p,ys,es,rfl,s _ _ hp,ry.mono s,hok,fun l is hl hi he=>k _ _ (.new s hl fun H' hH=>?_),fun l ns hl he=>k _ _ (.new s hl fun H' hH=>?_)⟩
 . simp only [OB]
   refine ⟨_,hH,?_⟩
   rw [he]
   exact ry.pick hi
 . simp only [OB]
   refine ⟨_,hH,?_⟩
   rw [he]
   exact .ofInts _
section
variable {X:Cx} {pins:List (Addr×Obj)} {σ:St} {H:Hp} {s:Shared}
theorem Vals.pick {ys:List V} {its:List Value} (r:Vals ys its):∀{is:List Nat},(∀i∈is,i<ys.length)->Vals (is.map fun i=>ys.getD i .non) (is.map fun i=>its.getD i Value.none)
 | [],_=>.nil
 | i::is,h=>by
  have hi:=h i List.mem_cons_self
  have hy:ys[i]?=some ys[i]:=by simp [hi]
  obtain ⟨u,h1,h2⟩:=r.get hy
  simp only [List.map_cons]
  refine .cons ?_ (Vals.pick r fun j hj=>h j (List.mem_cons_of_mem _ hj))
  rw [List.getD_eq_getElem?_getD,List.getD_eq_getElem?_getD,h1,hy]
  exact h2
theorem zgs (I:Inv X pins σ H s) {A:Around} (hu:A.units+20<cLine) {b:Bool} {fin:Bool} {Q:Bool->Shared->Prop} {r:Bool} (q:Q r s) :
  ∀{ds es:List D} {xs ys:List V} {us vs:List Value} (i:Nat),(b=true->i=0->(∃k r,ds=.int k::r)/\∃k r,es=.int k::r)->ois ds=true->ois es=true->z40 ds<=20->RDs X.K H ds xs->RDs X.K H es ys->Vals xs us->Vals ys vs->z1v ds es=some r ->
   fin=decide (us.length<vs.length)->PySem.W.KatLex X.prog X.w A b fin Q (us.zip vs) i s
 | [],[],_,_,_,_,i,_,_,_,_,r1,r2,q1,q2,h,hf=>by
  simp only [RDs] at r1 r2;subst r1;subst r2
  cases q1;cases q2
  simp only [z1v,Option.some.injEq] at h;subst h
  simp at hf;subst hf
  exact q
 | [],e::es,_,_,_,_,i,_,_,_,_,r1,r2,q1,q2,h,hf=>by
  simp only [RDs] at r1 r2;subst r1
  obtain ⟨y,ys,rfl,_,_⟩:=r2
  cases q1;cases q2
  simp only [z1v,Option.some.injEq] at h;subst h
  simp at hf;subst hf
  exact q
 | d::ds,[],_,_,_,_,i,_,_,_,_,r1,r2,q1,q2,h,hf=>by
  simp only [RDs] at r1 r2;subst r2
  obtain ⟨y,ys,rfl,_,_⟩:=r1
  cases q1;cases q2
  simp only [z1v,Option.some.injEq] at h;subst h
  simp at hf;subst hf
  exact q
 | d::ds,e::es,_,_,_,_,i,hb,p1,p2,hd,r1,r2,q1,q2,h,hf=>by
  simp only [RDs] at r1 r2
  obtain ⟨x,xs,rfl,rx,rxs⟩:=r1
  obtain ⟨y,ys,rfl,ry,rys⟩:=r2
  simp only [ois,Bool.and_eq_true] at p1 p2
  simp only [z40] at hd
  cases q1 with
  | cons a1 a2=>
   cases q2 with
   | cons b1 b2=>
    have eq:=zd2 (A:=A) I 20 (zgp p1.1) (zgp p2.1) (by omega) hu rx ry a1 b1
    rw [List.zip_cons_cons]
    refine PySem.W.kat_cons (eq X.prog X.w _ _ ?_)
    simp only [z1v] at h
    simp only [List.length_cons,Nat.add_lt_add_iff_right] at hf
    split at h
    . rename_i w
      rw [w]
      exact PySem.W.kat_yes (zgs I hu q (i+1) (fun _ z=>by omega) p1.2 p2.2 (by omega) rxs rys a2 b2 h hf)
    . rename_i w
      rw [show eqD d e=false by simpa using w]
      refine PySem.W.kat_no ?_
      by_cases hbi:(b&&i==0)=true
      . rw [hbi]
        simp only [Bool.and_eq_true,beq_iff_eq] at hbi
        obtain ⟨⟨k1,s1,e1⟩,k2,s2,e2⟩:=hb hbi.1 hbi.2
        cases e1;cases e2
        cases rx.int;cases ry.int
        obtain ⟨t,rfl⟩:=a1;obtain ⟨t',rfl⟩:=b1
        refine oneLt_int ?_
        simp only [z1k,Option.some.injEq] at h
        rw [h];exact q
      . rw [show (b&&i==0)=false by simpa using hbi]
        exact PySem.W.kat_one _ _ (zlm I 20 hu p1.1 p2.1 (by omega) rx ry a1 b1 h X.prog X.w _ _ q)
theorem zlo {M:Model} (I:Inv X pins σ H s) (T:Bool):∀{ds:List D} {xs:List V} {us:List Value},(∀d∈ds,(if T=true then zqu d else zln d)=true)->RDs X.K H ds xs->Vals xs us ->
  ∃fs:List Value,PySem.W.KatTups s.heap us fs/\fs.length=ds.length/\∀v∈fs,Looks M s.heap (typeOf v) (.type (if T=true then "tuple" else "int"))
 | [],_,_,_,r,q=>by
  simp only [RDs] at r;subst r;cases q
  exact ⟨[],trivial,rfl,fun v hv=>by cases hv⟩
 | d::ds,_,_,h,r,q=>by
  simp only [RDs] at r
  obtain ⟨x,xs,rfl,rx,rxs⟩:=r
  cases q with
  | cons q1 q2=>
   obtain ⟨fs,h1,h2,h3⟩:=zlo (M:=M) I T (fun d hd=>h d (List.mem_cons_of_mem _ hd)) rxs q2
   have hd:=h d List.mem_cons_self
   cases T with
   | false=>
    rw [if_neg Bool.false_ne_true] at hd
    cases d<;>simp only [zln] at hd<;>first | cases hd | skip
    rename_i es
    cases es with
    | nil=>simp at hd
    | cons e es=>
     cases e<;>simp at hd
     obtain ⟨a,ys,rfl,ha,ra⟩:=rx.tup
     cases q1
     obtain ⟨its,rv,t⟩:=I.tupA ha
     simp only [RDs] at ra
     obtain ⟨y,ys,rfl,ry,rys⟩:=ra
     cases ry.int
     cases rv with
     | cons v1 v2=>
      obtain ⟨tk,rfl⟩:=v1
      obtain ⟨o,ho,hc,n,hdt⟩:=t
      refine ⟨_::fs,PySem.W.KatTups.cons ho hc hdt rfl h1,by simp [h2],fun v hv=>?_⟩
      rcases List.mem_cons.mp hv with rfl | hv
      . exact .now
      . exact h3 v hv
   | true=>
    rw [if_pos rfl] at hd
    cases d<;>simp only [zqu] at hd<;>first | cases hd | skip
    rename_i es
    cases es with
    | nil=>simp at hd
    | cons e es=>
     cases e<;>simp at hd
     obtain ⟨a,ys,rfl,ha,ra⟩:=rx.tup
     cases q1
     obtain ⟨its,rv,t⟩:=I.tupA ha
     simp only [RDs] at ra
     obtain ⟨y,ys,rfl,ry,rys⟩:=ra
     obtain ⟨a2,ys2,rfl,ha2,ra2⟩:=ry.tup
     cases rv with
     | cons v1 v2=>
      cases v1
      obtain ⟨its2,rv2,o2,ho2,hc2,_⟩:=I.tupA ha2
      obtain ⟨o,ho,hc,n,hdt⟩:=t
      refine ⟨_::fs,PySem.W.KatTups.cons ho hc hdt rfl h1,by simp [h2],fun v hv=>?_⟩
      rcases List.mem_cons.mp hv with rfl | hv
      . have lk:Looks M s.heap (typeOf (.ref a2)) o2.cls:=(PySem.W.Looks.ld ho2).andThen .now
        rw [hc2] at lk
        exact lk
      . exact h3 v hv
theorem Vals.getD {ys:List V} {its:List Value} (r:Vals ys its) {i:Nat} (h:i<ys.length):RelV (ys.getD i .non) (its.getD i Value.none):=by
 have hy:ys[i]?=some ys[i]:=by simp [h]
 obtain ⟨u,h1,h2⟩:=r.get hy
 rw [List.getD_eq_getElem?_getD,List.getD_eq_getElem?_getD,h1,hy]
 exact h2
theorem RDs.getD {ds:List D} {ys:List V} (r:RDs X.K H ds ys) {i:Nat} (h:i<ys.length):RD X.K H (ds.getD i (.int 0)) (ys.getD i .non):=by
 have hy:ys[i]?=some ys[i]:=by simp [h]
 obtain ⟨d,h1,h2⟩:=r.get hy
 rw [List.getD_eq_getElem?_getD,List.getD_eq_getElem?_getD,h1,hy]
 exact h2
theorem z9d {α:Type} {l:List α} {i:Nat} {d:α} (h:i<l.length):l.getD i d∈l:=by
 rw [List.getD_eq_getElem?_getD,List.getElem?_eq_getElem h]
 exact List.getElem_mem h
theorem z77 (hc:X.calm=true) (hu:X.A.units+64<cLine):CallR X (.builtin "sorted") (zgr X.K):=by
 intro pins s σ H xs us Q I r h
 obtain ⟨p,ys,ds,rfl,hp,rd,hok,k,kI⟩:=h
 obtain ⟨u,rfl,ru⟩:=z63 r
 cases ru
 obtain ⟨its,rv,pl,hz⟩:=I.list (.of hp)
 obtain ⟨m,hn,_⟩:=id I.loc
 have F:=Att.fr_all hn
 have N:=z6c (g:=Att.noObjs s.heap) (h:=s.heap) (L:=X.env.locals)
 unfold z4k at hok
 simp only [Bool.and_eq_true,Bool.or_eq_true,decide_eq_true_eq] at hok
 obtain ⟨⟨⟨⟨h64,hoi⟩,hdep⟩,hcmp⟩,hkind⟩:=hok
 have hl1:=rd.length
 have hl2:=rv.length
 have fin:∀{D:Addr} {h':Heap} {tk:Nat} {e:Nat} {is:List Nat},(∀i∈is,i<ys.length)->z1w ds=is.map (fun i=>ds.getD i (.int 0))->Fr (Att.noObjs s.heap) X.env.locals h' m->News (Att.noObjs s.heap) X.env.locals h' ((D,seqObj "list" (is.map fun i=>its.getD i Value.none).toArray e)::zbx s X.env.locals)->s.heap.get? D=none ->
   EP X pins σ Q (.ref D) { s with heap:=h',toks:=tk }:=fun {D h' tk e is} hi he F' N' hD=>by
  have hlen:(is.map fun i=>ys.getD i .non).length<=sizeLine:=by
   have e1:is.length=ds.length:=by have:=congrArg List.length he;rw [List.length_map,(z0j ds).length_eq] at this;exact this.symm
   rw [List.length_map,e1,hl1];exact hz
  obtain ⟨HD,I'⟩:=I.frnew (tk:=tk) (o:=.lst (is.map fun i=>ys.getD i .non)) hn F' N' hD ⟨hlen,_,e,rv.pick hi,(N' _ (.head _)).1⟩
  exact ⟨.ref D,_,I',rfl,k D is HD hi he⟩
 by_cases hI:ds.all isI=true
 . -- ints
   have asInts:∀ds:List D,ds.all isI=true->∃ns:List Int,ds=ns.map D.int:=by
    intro ds hI
    induction ds with
    | nil=>exact ⟨[],rfl⟩
    | cons d ds ih=>
     simp only [List.all_cons,Bool.and_eq_true] at hI
     obtain ⟨ns,e⟩:=ih hI.2
     cases d<;>simp [isI] at hI
     exact ⟨_::ns,by rw [e];rfl⟩
   obtain ⟨ns,hns⟩:=asInts ds hI
   subst hns
   have ey:ys=ns.map V.int:=z4i (z29 ns) rd
   subst ey
   refine sorted_N F N pl.isList (z80 rv) (by simp at hl1 hl2 h64;omega) fun h' vs' ns' e F' N' hi' hp' hs'=>?_
   have hsame:z1w (ns.map D.int)=ns'.map D.int:=by
    refine z3h (z4j (z0j _) hoi) ((z0j _).trans (hp'.symm.map _)) (z1r hoi) ?_
    refine List.pairwise_map.mpr (hs'.imp fun {a b} hab=>?_)
    simp only [ltT,decide_eq_false_iff_not];omega
   have hlen:(ns'.map V.int).length<=sizeLine:=by
    rw [List.length_map,hp'.length_eq];simpa using hz
   have hD:s.heap.get? (s.heap.objs.size+1)=none:=Heap.get?_none_of_le (Nat.le_succ _)
   obtain ⟨HD,I'⟩:=I.frnew (tk:=s.toks) (o:=.lst (ns'.map V.int)) hn F' N' hD ⟨hlen,vs',e,z6q hi',(N' _ (.head _)).1⟩
   exact ⟨.ref _,_,I',rfl,kI _ ns' HD hsame⟩
 . by_cases h2:2<=its.length
   . obtain ⟨T,hT⟩:∃T:Bool,∀d∈ds,(if T=true then zqu d else zln d)=true:=by
      rcases hkind with (z | z) | z
      . exact absurd z hI
      . exact ⟨false,fun d hd=>by rw [if_neg Bool.false_ne_true];exact List.all_eq_true.mp z d hd⟩
      . exact ⟨true,fun d hd=>by rw [if_pos rfl];exact List.all_eq_true.mp z d hd⟩
     refine PySem.W.kat_sorted F N pl.isList h2 (by omega) fun D e1 h' F' N' hlt=>?_
     have N'':News (Att.noObjs s.heap) X.env.locals h' (zbx s X.env.locals):=fun p hp=>N' p (.tail _ hp)
     have I':Inv X pins σ H { s with heap:=h' }:=I.frn (tk:=s.toks) hn F' N''
     have hDL:D≠X.env.locals:=(N' _ (.head _)).2.1
     have hD:s.heap.get? D=none:=by
      cases q:s.heap.get? D with
      | none=>rfl
      | some o=>exact absurd (hlt (D,o) (z2j hDL (Att.noObjs_get _ _) q)) (Nat.lt_irrefl _)
     obtain ⟨fs,t1,t2,t3⟩:=zlo (M:=model X.prog X.w) I' T hT rd rv
     have huu:X.A.in1.in1.units+20<cLine:=by show X.A.units+1+1+20<cLine;omega
     refine PySem.W.kat_kind t1 (by omega) t3 (by cases T<;>rfl) ?_
     have h0:0<its.length:=by omega
     refine zdk (n:=its.length) (lt:=ltI ds) ?_ (zca h0) ?_
     . intro i j C hi hj hC
       show wpAny (model X.prog X.w) X.A.in1.in1 (keyLt' _ (its.getD i Value.none) (its.getD j Value.none)) C _ _
       have hi':i<ys.length:=by omega
       have hj':j<ys.length:=by omega
       have r1:=rd.getD hi'
       have r2:=rd.getD hj'
       have v1:=rv.getD hi'
       have v2:=rv.getD hj'
       have m1:ds.getD i (.int 0)∈ds:=z9d (by omega)
       have m2:ds.getD j (.int 0)∈ds:=z9d (by omega)
       have o1:=(ois_mem.mp hoi) _ m1
       have o2:=(ois_mem.mp hoi) _ m2
       have d1:=z8u m1
       have f1:=hT _ m1
       have f2:=hT _ m2
       have hc2:(z1k (ds.getD i (.int 0)) (ds.getD j (.int 0))).isSome=true:=List.all_eq_true.mp (List.all_eq_true.mp hcmp _ m1) _ m2
       obtain ⟨b,hb⟩:=Option.isSome_iff_exists.mp hc2
       have hbl:b=ltI ds i j:=zgj hb
       rw [<-hbl] at hC
       generalize ds.getD i (.int 0)=da at *
       generalize ds.getD j (.int 0)=db at *
       have tp:∀{d:L2.D},(if T=true then zqu d else zln d)=true->∃es,d=.tup es/\(T=false->∃k r,es=.int k::r):=fun {d} h=>by
        cases T with
        | false=>
         rw [if_neg Bool.false_ne_true] at h
         cases d<;>simp only [zln] at h<;>first | cases h | skip
         rename_i es
         cases es with
         | nil=>simp at h
         | cons e es=>cases e<;>simp at h;exact ⟨_,rfl,fun _=>⟨_,_,rfl⟩⟩
        | true=>
         rw [if_pos rfl] at h
         cases d<;>simp only [zqu] at h<;>first | cases h | skip
         exact ⟨_,rfl,fun z=>nomatch z⟩
       obtain ⟨ea,rfl,ka⟩:=tp f1
       obtain ⟨eb,rfl,kb⟩:=tp f2
       obtain ⟨a,xa,e1,ha,ra⟩:=r1.tup
       obtain ⟨c,xc,e2,hcc,rc⟩:=r2.tup
       rw [e1] at v1;rw [e2] at v2
       rw [show its.getD i Value.none=Value.ref a from v1,show its.getD j Value.none=Value.ref c from v2]
       obtain ⟨ia,va,oa,hoa,_,na,hda⟩:=I'.tupA ha
       obtain ⟨ic,vc,oc,hoc,_,nc,hdc⟩:=I'.tupA hcc
       simp only [L2.D.oi] at o1 o2
       simp only [L2.D.dep] at d1
       simp only [z1k] at hb
       refine PySem.W.kat_lt hoa hda hoc hdc ?_
       refine zgs I' huu hC 0 (fun hb0 _=>?_) o1 o2 (by omega) ra rc va vc hb (by simp)
       cases T with
       | false=>exact ⟨ka rfl,kb rfl⟩
       | true=>exact absurd hb0 (by simp)
     . refine PySem.W.KasFin.intro F' N' (.head fun p hp=>Nat.ne_of_lt (hlt p hp)) fun h'' c F3 N3=>?_
       have hl3:its.length=ds.length:=by omega
       rw [hl3] at N3
       have pm:=(z43 (zc9 hoi) (n:=ds.length) (by omega)).1
       refine fin (is:=(z0q (ltI ds) (PySem.W.kas_sort ds.length)).toList) (fun i hi=>?_) (z88 hoi (by omega)).symm F3 N3 hD
       have:=pm.toList.mem_iff.mp hi
       simp at this
       omega
   . -- at most one
     have hs1:z1w ds=ds:=by
      match ds,hl1,hl2 with
      | [],_,_=>rfl
      | [d],_,_=>rfl
      | _::_::_,a,b=>simp at a;omega
     refine z5n pl.isList (by omega) ?_
     obtain ⟨e,he⟩:=sortedAll_at s.heap its ((pairsOf its).map (·.2))
     have kp:∀b o,s.heap.get? b=some o->(sortedAll s.heap its ((pairsOf its).map (·.2))).get? b=some o:=fun b o q=>sortedAll_old q
     have hout:(pairsOf its).map (·.2)=(List.map (fun i=>its.getD i Value.none) (List.range its.length)).toArray:=by
      have pz:∀l:List Value,l.length<2->(pairsOf l).map (·.2)=(List.map (fun i=>l.getD i Value.none) (List.range l.length)).toArray:=fun l hl=>by
       match l,hl with
       | [],_=>simp [pairsOf]
       | [v],_=>simp [pairsOf]
       | _::_::_,z=>simp at z;omega
      exact pz its (by omega)
     rw [hout] at he kp ⊢
     have hN:=N.kept_cons F kp (Nat.le_succ _) he
     refine fin (is:=List.range its.length) (fun i hi=>by simp at hi;omega) ?_ (F.kept kp) hN (Heap.get?_none_of_le (Nat.le_succ _))
     rw [hs1]
     apply List.ext_getElem?
     intro i
     rw [List.getElem?_map]
     by_cases hi:i<its.length
     . rw [List.getElem?_range hi]
       simp [show i<ds.length by omega]
     . rw [List.getElem?_eq_none (show (List.range its.length).length<=i by simpa using hi),List.getElem?_eq_none (by omega)];rfl
end
noncomputable def zsz (n:Nat) (x:Int):Nat:=if x<0 then (x+(n:Int)).toNat else min x.toNat n
noncomputable def z4l {α:Type} (xs:List α) (x:Int) (y:α):List α:=xs.take (zsz xs.length x)++y::xs.drop (zsz xs.length x)
def zgt:V->List V->Hp->VK->Prop:=fun o vs H Q=>∃l xs i y,o=.ref l/\vs=[.int i,y]/\H l=some (.lst xs)/\-(2 ^ 63)<=i/\i<2 ^ 63/\xs.length<sizeLine/\Q .non (upd H l (.lst (z4l xs i y)))
theorem Vals.ins {xs:List V} {its:List Value} {y:V} {u:Value} (r:Vals xs its) (ru:RelV y u) (i:Int):Vals (z4l xs i y) (z4l its i u):=by
 unfold z4l
 rw [r.length]
 exact (r.take _).append (.cons ru (r.drop _))
theorem zat {α:Type} (xs:List α) (i:Int) (y:α):(z4l xs i y).length=xs.length+1:=by
 unfold z4l
 rw [List.length_append,List.length_take,List.length_cons,List.length_drop]
 omega
section
variable {X:Cx} {K:Frag}
theorem zgu:MtM X "list.insert" zgt:=by
 intro pins s σ H x vs v us Q I rx rv h
 obtain ⟨l,xs,i,y,rfl,rfl,hH,h1,h2,hz,q⟩:=h
 cases rx
 obtain ⟨u,w,rfl,ru,rw'⟩:=rv.two
 obtain ⟨t,rfl⟩:=ru
 obtain ⟨z,its,n,r,hl,e⟩:=I.lstM hH
 refine call_meets PySem.F.slot_list_insert ⟨_,e,rfl⟩ PySem.F.entry_list_insert (PySem.F.args_list_insert_3 _ _ _) (PySem.AutoSeq1.list_insert_list_int_val_1 l its.toArray n i t w (by simp [fitsIndex_both h1 h2]) (by rw [List.size_toArray];omega)) ⟨e,?_⟩
 refine ⟨.non,_,I.lset (its':=z4l its i w) hH e ?_ (r.ins rw' i) (by rw [zat];omega),rfl,q⟩
 show ((its.toArray.extract 0 (zsz its.toArray.size i)).push w++its.toArray.extract (zsz its.toArray.size i))=(z4l its i w).toArray
 unfold z4l
 apply Array.toList_inj.mp
 simp
 exact List.take_of_length_le (by simp)
noncomputable def zt0:D->List D->Option D
 | .lst ds,[.int i,d]=>if -(2 ^ 63)<=i/\i<2 ^ 63/\ds.length<100000 then some (.lst (z4l ds i d)) else none
 | _,_=>none
theorem RDs.ins {H:Hp} {ds:List D} {xs:List V} {d:D} {y:V} (r:RDs K H ds xs) (ry:RD K H d y) (i:Int):RDs K H (z4l ds i d) (z4l xs i y):=by
 unfold z4l
 rw [<-r.length]
 exact (r.take _).append (.cons ry (r.drop _))
theorem zt1:znp K zt0 zgt:=by
 intro H0 H a d d' ds vs Q s h0 ob r hm k
 unfold zt0 at hm
 split at hm<;>first | cases hm | skip
 split at hm<;>cases hm
 rename_i es i e hl
 simp only [OB] at ob
 obtain ⟨xs,hx,rx⟩:=ob
 obtain ⟨y,z,rfl,q1,q2⟩:=r.duo
 cases q1.int
 refine ⟨a,xs,_,z,rfl,rfl,hx,hl.1,hl.2.1,by rw [<-rx.length];exact z1p hl.2.2,k _ _ ?_⟩
 simp only [OB]
 exact ⟨_,z05,rx.ins q2 _⟩
noncomputable def zt2:D->List D->Option D
 | .lst ds,[.lst es]=>if ds.length+es.length<=100000 then some (.lst (ds++es)) else none
 | _,_=>none
theorem zt3:znp K zt2 zfc:=by
 intro H0 H a d d' ds vs Q s h0 ob r hm k
 unfold zt2 at hm
 split at hm<;>first | cases hm | skip
 split at hm<;>cases hm
 rename_i es gs hl
 simp only [OB] at ob
 obtain ⟨xs,hx,rx⟩:=ob
 obtain ⟨y,rfl,q1⟩:=r.uno
 obtain ⟨b,ys,rfl,hb,rb⟩:=q1.lst
 refine ⟨a,b,xs,ys,rfl,rfl,hx,s _ _ hb,by rw [<-rx.length,<-rb.length];exact zla hl,k _ _ ?_⟩
 simp only [OB]
 exact ⟨_,z05,rx.append rb⟩
noncomputable def zlp (n:Int) (ns:List Int):Int:=ns.foldl (fun a b=>if b > a then b else a) n
theorem zcb:∀(ns:List Int) (n:Int),zlp n ns∈n::ns/\∀a∈n::ns,a<=zlp n ns
 | [],n=>by simp [zlp]
 | b::ns,n=>by
  have ih:=zcb ns (if b > n then b else n)
  show zlp (if b > n then b else n) ns∈_/\∀a∈_,a<=zlp (if b > n then b else n) ns
  generalize zlp (if b > n then b else n) ns=M at ih
  obtain ⟨h1,h2⟩:=ih
  constructor
  . rcases List.mem_cons.mp h1 with z | z
    . rw [z];split<;>simp
    . simp [z]
  . intro a ha
    have h3:=h2 _ List.mem_cons_self
    rcases List.mem_cons.mp ha with rfl | ha
    . split at h3<;>omega
    . rcases List.mem_cons.mp ha with rfl | ha
      . split at h3<;>omega
      . exact h2 a (List.mem_cons_of_mem _ ha)
end
theorem zgv {K:Frag} {h:Heap} {C:Addr} {bmB:List Value} {newId:String} (X:K.In h) (q:PySem.W.excIn K C bmB newId=true) :
  ∃bm N nm qn bs hdct sn sub ab col dd k0 k1 k2 k3 k5 mN,h.get? C=some (excClassObj nm qn C N bs bm hdct sn sub ab col dd k0 k1 k2 k3 k5 newId)/\h.Ns N mN/\mN "__init__"=none/\OwnTail h bmB bm:=by
 unfold PySem.W.excIn at q
 split at q<;>try cases q
 rename_i dd cd sl ho
 split at q<;>try cases q
 rename_i C' bm k0 k1 k2 k3 n k5 hm hs
 simp only [Bool.and_eq_true,beq_iff_eq,Bool.not_eq_true'] at q
 obtain ⟨⟨⟨⟨⟨e1,e2⟩,hdel⟩,ht⟩,hok⟩,hni⟩:=q
 subst e1 e2
 have ho:=X _ _ ho
 cases cd
 dsimp only at hm hdel hok hni
 subst hm hdel
 have hsl:sl=#[k0,k1,k2,k3,some (.builtin n),k5]:=by
  cases sl
  simp only at hs
  rw [hs]
 rw [hsl] at ho
 exact ⟨bm,_,_,_,_,_,_,_,_,_,dd,k0,k1,k2,k3,k5,_,ho,.of_isNs (PySem.W.isNs_of_in X hok),PySem.W.nsMap_none_of_in X hok hni,PySem.W.tail_of_in X ht⟩
noncomputable def zgw (K:Frag) (C:Addr) (bmB:List Value) (newId:String):Bool:=match K.lookup C with
 | some ⟨.type "type",_,.cls cd,sl⟩=>(match cd.mro,sl.toList with
  | .ref C'::bm,[_,_,_,_,some (.builtin n),_]=>C'==C&&n==newId&&!cd.hasDel&&PySem.W.tailIn K bmB bm&&cd.hasDict
  | _,_=>false)
 | _=>false
theorem zjg {K:Frag} {h:Heap} {C:Addr} {bmB:List Value} {newId:String} (X:K.In h) (q:zgw K C bmB newId=true) :
  ∃bm N nm qn bs sn sub ab col dd k0 k1 k2 k3 k5,h.get? C=some (excClassObj nm qn C N bs bm true sn sub ab col dd k0 k1 k2 k3 k5 newId)/\OwnTail h bmB bm:=by
 unfold zgw at q
 split at q<;>try cases q
 rename_i dd cd sl ho
 split at q<;>try cases q
 rename_i C' bm k0 k1 k2 k3 n k5 hm hs
 simp only [Bool.and_eq_true,beq_iff_eq,Bool.not_eq_true'] at q
 obtain ⟨⟨⟨⟨e1,e2⟩,hdel⟩,ht⟩,hdc⟩:=q
 subst e1 e2
 have ho:=X _ _ ho
 cases cd
 dsimp only at hm hdel hdc
 subst hm hdel hdc
 have hsl:sl=#[k0,k1,k2,k3,some (.builtin n),k5]:=by
  cases sl
  simp only at hs
  rw [hs]
 rw [hsl] at ho
 exact ⟨bm,_,_,_,_,_,_,_,_,dd,k0,k1,k2,k3,k5,ho,PySem.W.tail_of_in X ht⟩
def XCl (K:Frag) (C:Addr) (bmB:List Value) (newId:String):Prop:=PySem.W.excIn K C bmB newId=true\/zgw K C bmB newId=true
theorem zgx {K:Frag} {h:Heap} {C:Addr} {bmB:List Value} {newId:String} (X:K.In h) (q:XCl K C bmB newId) :
  ∃bm N nm qn bs hdct sn sub ab col dd k0 k1 k2 k3 k5,h.get? C=some (excClassObj nm qn C N bs bm hdct sn sub ab col dd k0 k1 k2 k3 k5 newId)/\OwnTail h bmB bm:=by
 rcases q with q | q
 . obtain ⟨bm,N,nm,qn,bs,hdct,sn,sub,ab,col,dd,k0,k1,k2,k3,k5,mN,hC,_,_,T⟩:=zgv X q
   exact ⟨bm,N,nm,qn,bs,hdct,sn,sub,ab,col,dd,k0,k1,k2,k3,k5,hC,T⟩
 . obtain ⟨bm,N,nm,qn,bs,sn,sub,ab,col,dd,k0,k1,k2,k3,k5,hC,T⟩:=zjg X q
   exact ⟨bm,N,nm,qn,bs,true,sn,sub,ab,col,dd,k0,k1,k2,k3,k5,hC,T⟩
section
variable {X:Cx} {x:Str} {C:Addr} {bmB:List Value} {B newId initId:String} {np cpos pos:Pos} {e:Expr} {es:List Expr} {t:TA} {EX:XW} {fr:Bool} {fs:DE->R (List D)}
theorem zjh (FB:ExcBaseFacts B newId initId bmB) (hcalm:X.calm=true) (hg:Gl X x) (hm:X.mg x=some (.ref C)) (hq:PySem.W.excIn X.K C bmB newId=true) (ha:PA X (e::es) t) (E:Hp->Prop)
  (hE:∀(pins:List (Addr×Obj)) (σ:St) (H:Hp) (s:Shared) (a:Addr) (s':Shared) (args:List Value),Inv X pins σ H s->Heap.MadeExcOf s.heap s'.heap a (.ref C) args->s'.os=s.os->AllBare s'.gens->E H->X.xe (.ref a) s')
  (hdb:(x==("__debug__":Str))=false:=by decide) (he:starEach (e::es) X.env=(false,eval e X.env)::starEach es X.env:=by rfl) (hpl:(backTo cpos (starEach es X.env)).any (·.1)=false:=by rfl) :
  PS X (.Raise (some (.Call (.Name x np) (e::es) [] cpos)) none pos) (fun _ σ H=>t σ H fun vs H1=>vs.length<=sizeLine/\E H1):=by
 intro pins s σ H D I h
 obtain ⟨bm,N,nm,qn,bs,hdct,sn,sub,ab,col,dd,k0,k1,k2,k3,k5,mN,hC,hN,hni,T⟩:=zgv I.ok.mod.kin hq
 refine wpAny_Raise_call_subT (C:=C) (nm:=nm) (q:=qn) (N:=N) (bs:=bs) (bm:=bm) (hdct:=hdct) (sn:=sn) (sub:=sub) (ab:=ab) (col:=col) (dd:=dd) (k0:=k0) (k1:=k1) (k2:=k2) (k3:=k3) (k5:=k5)
  FB (mN:=mN) (T.hasType FB.hasBase) (I.ok.hd hcalm) (by rw [he];show (false||(backTo cpos (starEach es X.env)).any (·.1))=false;rw [hpl];rfl) hni (z58 I hg hm ⟨rfl,?_⟩ hdb)
 have go:=ha cpos pins s σ H _ I h
 rw [he] at go ⊢
 refine Calls.evalArgs_plain (wpAny_mono go (fun us s2 ⟨vs,H1,I1,r,hl,hE1⟩=>⟨rfl,by rw [<-r.length];exact hl,I1.bk _ _ hC,hN.keeps I1.bk,T.keeps I1.bk,fun h' a hx=>?_⟩) fun _ _ y=>y)
 exact hE pins σ H1 s2 a _ us I1 hx rfl I1.bare hE1
noncomputable def z5o (c:String) (fs:DE->R (List D)):DS->SR:=fun ρ=>(fs (see ρ)).toS fun ds=>if ds.length<=1000 then .er ⟨c,[]⟩ else .st
theorem zo9 {K:Frag} {De:Ends} {σ:St} {H:Hp} {c:String} (h:TSd K EX fr (z5o c fs) De σ H):TAd K EX fs σ H fun vs H1=>vs.length<=sizeLine/\EX.p ⟨c,[]⟩ H1:=by
 obtain ⟨Hc,Hb,H0,ρ,sb,R,h⟩:=h
 unfold z5o at h
 rw [SK.toS] at h
 refine ⟨sb.trans R.sb,see ρ,HeOf (List.replicate ρ.length true) ρ σ H0 H,R.heH _,by rw [<-z41];exact R.re _,h.mono fun ds z vs H' H0' s e r=>?_⟩
 split at z
 . rename_i hl
   exact ⟨zc0 (by rw [<-r.length];exact hl),z H' ((sb.trans R.sb).trans s)⟩
 . exact z.elim
theorem zgy {c:String} (L:Lnd X EX) (FB:ExcBaseFacts B newId initId bmB) (hcalm:X.calm=true) (hg:Gl X (c:Str)) (hm:X.mg (c:Str)=some (.ref C)) (hq:PySem.W.excIn X.K C bmB newId=true) (ha:QA X EX (e::es) fs)
  (hdb:(((c:Str))==("__debug__":Str))=false:=by decide) (he:starEach (e::es) X.env=(false,eval e X.env)::starEach es X.env:=by rfl) (hpl:(backTo cpos (starEach es X.env)).any (·.1)=false:=by rfl) :
  QS X EX fr (.Raise (some (.Call (.Name (c:Str) np) (e::es) [] cpos)) none pos) (z5o c fs):=
 ⟨(zjh FB hcalm hg hm hq ha.h (fun H=>EX.p ⟨c,[]⟩ H) (fun pins σ H s a s' args I hx ho hb hp=>L.md pins σ H H s a C none s' ⟨c,[]⟩ I (.of hx) (I.hok.kept hx.keeps) (Un.kept hx.keeps) (I.hok.none hx.new) ho hb hm hp (.inl rfl)) hdb he hpl).imp fun _ _ _ q=>zo9 q⟩
end
theorem zgz {M:Model} {A:Around} {E:Value->Shared->Prop} {nm nmD q qD:Str} {C N DD ND:Addr} {bs bm bsD bmD:List Value} {hdct hdctD:Bool} {sn snD:List Str} {sub subD:List Value} {ab abD:Bool} {col colD:Option Bool} {dd ddD:Option Addr} {k0 k1 k2 k3 k5 j0 j1 j2 j3 j5:Option Value} {newId newD:String}
  {h:Heap} {g:Array GenState} {d:Drawn} {t:Nat} {os:OsState} {e:Addr} {oe:Obj} {Q:Bool->Shared->Prop}
  (hC:h.get? C=some (excClassObj nm q C N bs bm hdct sn sub ab col dd k0 k1 k2 k3 k5 newId)) (hD:h.get? DD=some (excClassObj nmD qD DD ND bsD bmD hdctD snD subD abD colD ddD j0 j1 j2 j3 j5 newD)) (he:h.get? e=some oe) (hcls:oe.cls=.ref C)
  (hbase:bmD.contains (.type "BaseException")=true) (hq:Q ((Value.ref C::bm).contains (.ref DD)) ⟨h,g,d,t,os⟩):wpAny M A (excMatches (.ref e) (.ref DD)) Q E ⟨h,g,d,t,os⟩:=by
 have hcB:(Value.ref DD::bmD).contains (.type "BaseException")=true:=by rw [List.contains_cons,hbase,Bool.or_true]
 have f:=tc_notTuple
 unfold excMatches
 repeat (first | (with_reducible refine wpAny_loadPart_at he ?_;rw [hcls]) | with_reducible refine wpAny_loadPart_at hD ?_ | (with_reducible refine wpAny_isSubtype_exc hD ?_;rw [hcB]) | with_reducible refine wpAny_isSubtype_exc hC ?_ | wp_step)
 cases hb:(Value.ref C::bm).contains (.ref DD)<;>(rw [hb] at hq;wp_walk;exact hq)
section
variable {X:Cx} {pins:List (Addr×Obj)} {σ:List (Option V)} {H1 H2:Hp} {s1 s2:Shared} {h' B:Heap} {C a T:Addr} {a0:Value} {od:Option Addr}
noncomputable def zf0 (a C:Addr) (od:Option Addr):HO:=.ext fun h=>∃ob,h.get? a=some ob/\ob.cls=.ref C/\(∃vs,ob.data=.fields vs)/\ob.dict=od
theorem zji (I:Inv X pins σ H1 s1) (x:XOut X.prog X.w X.stack H1 s1 C a od H2 s2) (na:s1.heap.get? a=none) (nT:s1.heap.get? T=none) (ha:H2 a=none) (hT:H2 T=none)
  (keep:∀b o,s2.heap.get? b=some o->b≠a->b≠T->b∉frs X.stack->h'.get? b=some o) (up:s2.heap.UpToSlots h') (hfl:Heap.FlyingW B X.stack a (.ref C) a0 h') (hdc:z2n a od h') :
  Inv X pins σ (upd H2 a (zf0 a C od)) { s2 with heap:=h' }/\Same H2 (upd H2 a (zf0 a C od)):=by
 have F2:=I.stack2 x.un
 have slotF:∀b∈frs X.stack,∀o,s2.heap.get? b=some o->∃sl,h'.get? b=some { o with slots:=sl }:=fun b hb o e=>by
  obtain ⟨_,o',ho',hd⟩:=F2.mem hb
  rw [e] at ho';cases ho'
  exact up b o e hd
 have ne:∀b o,s1.heap.get? b=some o->b≠a/\b≠T:=fun b o e=>⟨fun z=>(by rw [z,na] at e;cases e),fun z=>(by rw [z,nT] at e;cases e)⟩
 have neH:∀b o,H2 b=some o->b≠a/\b≠T:=fun b o e=>⟨fun z=>(by rw [z,ha] at e;cases e),fun z=>(by rw [z,hT] at e;cases e)⟩
 have frFree:∀b∈frs X.stack,H2 b=none:=fun b hb=>by
  obtain ⟨_,o,ho,_⟩:=I.stack.mem hb
  exact x.un.free b o ho (I.stkFree b hb) (by simp)
 obtain ⟨oe,vs,he,hc,hd,_⟩:=hfl.first
 have un:Un (frs X.stack) [] H1 (upd H2 a (zf0 a C od)) s1.heap h':=by
  refine ⟨fun b o e n hb hx=>?_,fun b o e n hb hx=>?_,fun b o e n hx=>?_,fun b o e hx=>?_,fun b xs e=>?_,fun b o u e=>?_,fun b ps e=>?_⟩
  . exact keep b o (x.un.keep b o e n hb hx) (ne b o e).1 (ne b o e).2 hb
  . obtain ⟨sl,e1⟩:=x.un.slot b o e n hb hx
    obtain ⟨sl2,e2⟩:=slotF b hb _ e1
    exact ⟨sl2,e2⟩
  . rw [z02 (ne b o e).1];exact x.un.free b o e n hx
  . obtain ⟨o1,e1⟩:=x.un.there b o e hx
    by_cases hb:b∈frs X.stack
    . obtain ⟨sl,e2⟩:=slotF b hb _ e1;exact ⟨_,e2⟩
    . exact ⟨o1,keep b o1 e1 (ne b o e).1 (ne b o e).2 hb⟩
  . have:=x.un.tups b xs e
    rw [z02 (neH b _ this).1];exact this
  . have:=x.un.frzs b o u e
    rw [z02 (neH b _ this).1];exact this
  . obtain ⟨m,this⟩:=x.un.tbls b ps e
    exact ⟨m,by rw [z02 (neH b _ this).1];exact this⟩
 have hok:HOk X.prog X.w (upd H2 a (zf0 a C od)) h':=fun b o e=>by
  by_cases hb:b=a
  . subst hb
    rw [z05] at e;cases e
    exact ⟨⟨oe,he,hc,⟨vs,hd⟩,hdc _ he⟩,⟨oe,he⟩,fun h1 h2 ⟨ob,z1,z2⟩ k=>⟨ob,k _ z1,z2⟩⟩
  . rw [z02 hb] at e
    refine (x.hok b o e).stay (fun c v hc q=>?_) (fun c q=>by rw [z02 (neH c _ q).1];exact q) fun c xs q=>by rw [z02 (neH c _ q).1];exact q
    have hcH:H2 c≠none:=by
     rcases hc with rfl | hc
     . rw [e];exact fun z=>nomatch z
     . rw [hc];exact fun z=>nomatch z
    refine keep c v q (fun z=>hcH (z ▸ ha)) (fun z=>hcH (z ▸ hT)) fun z=>hcH (frFree c z)
 exact ⟨I.call' (s':={ s2 with heap:=h' }) (ch:=[]) x.os un hok x.bare (fun _ z=>nomatch z),Same.upd_new ha⟩
end
section
variable {X:Cx} {pins:List (Addr×Obj)} {σ:List (Option V)} {H:Hp} {s:Shared}
theorem z9e {M:Model} {A:Around} {E:Value->Shared->Prop} {i:Nat} {n:Str} {pos:Pos} {Q:Unit->Shared->Prop} (I:Inv X pins σ H s) (hN:X.N.Nodup) (hi:X.N[i]?=some n) (hk:X.env.scope.names.lookup n=some .local)
  (h:∀s',Inv X pins (σ.set i none) H s'->Q () s'):wpAny M A (do bindName X.env n .none;unbindBehindTheSuite X.env n pos) Q E s:=by
 obtain ⟨m,hn,hl⟩:=id I.loc
 have hcls:(X.env.scope.kind==.class||(X.env.scope.kind==.module&&X.env.locals != X.env.globals))=false:=by rw [I.ok.kind];rfl
 obtain ⟨oL,_,_,hoL,_⟩:=id hn
 refine wpAny_nameGoes_keeps hk hn hcls fun h' v hn' hs=>h _ ?_
 have hok:HOk X.prog X.w H h':=fun b ob e=>by
  refine (I.hok b ob e).stay (fun c w' hc q=>(hs.2 c ?_).trans q) (fun _ q=>q) fun _ _ q=>q
  rintro rfl
  rcases hc with rfl | hc
  . rw [I.free] at e;cases e
  . rw [I.free] at hc;cases hc
 have neL:∀b o,X.s₀.heap.get? b=some o->b≠X.env.locals:=fun b o e=>Nat.ne_of_lt (Nat.lt_of_lt_of_le (Heap.lt_size e) I.ok.above)
 refine ⟨I.ok,I.os,I.bare,⟨fun b o e n hb hx=>?_,fun b o e n hb hx=>?_,I.base.free,fun b o e hx=>?_,I.base.tups,I.base.frzs,I.base.tbls⟩,⟨_,hn',fun j y v' e1 e2 e3=>?_⟩,fun y c e=>?_,I.free,I.freeC,fun p hp=>?_,hok,by simpa using I.len⟩
 . exact (hs.2 b (neL b o e)).trans (I.base.keep b o e n hb hx)
 . obtain ⟨sl,e1⟩:=I.base.slot b o e n hb hx
   exact ⟨sl,(hs.2 b (neL b o e)).trans e1⟩
 . obtain ⟨o',e1⟩:=I.base.there b o e hx
   exact ⟨o',(hs.2 b (neL b o e)).trans e1⟩
 . have hj:j≠i:=fun z=>by
    subst z
    by_cases hlt:j<σ.length
    . rw [List.getElem?_set_self hlt] at e2;cases e2
    . rw [List.getElem?_eq_none (by simpa using hlt)] at e2;cases e2
   rw [List.getElem?_set_ne (Ne.symm hj)] at e2
   have hyn:y≠n:=fun z=>by subst z;exact hj (z8i hN e1 hi)
   obtain ⟨u,r,l⟩:=hl j y v' e1 e2 e3
   refine ⟨u,r,?_⟩
   rcases l with ⟨k,l⟩ | ⟨k,c,e,ob,z,zd⟩
   . exact .inl ⟨k,(by show (if y=n then v else m y)=some u;rw [if_neg hyn];exact l)⟩
   . exact .inr ⟨k,c,e,ob,(hs.2 c (I.cne y c e)).trans z,zd⟩
 . obtain ⟨v,ob,z,zd⟩:=I.cell y c e
   exact ⟨v,ob,(hs.2 c (I.cne y c e)).trans z,zd⟩
 . obtain ⟨e,n,ne,nf,d⟩:=I.pin p hp
   exact ⟨(hs.2 p.1 ne).trans e,n,ne,nf,d⟩
abbrev Cx.held (X:Cx) (e:Value):Cx:={ X with A:=X.A.mark (some e),calm:=false,xe:=fun _ _=>False }
theorem Inv.held (I:Inv X pins σ H s) (e:Value):Inv (X.held e) pins σ H s:=
 ⟨⟨I.ok.mod,I.ok.kind,I.ok.glob,I.ok.blt,I.ok.above,I.ok.inj,I.ok.has,I.ok.cab,(fun z=>nomatch z),I.ok.frames,I.ok.stk,I.ok.exf,I.ok.bs,I.ok.bsz,I.ok.noex,I.ok.exfs,I.ok.funs,I.ok.frf⟩,I.os,I.bare,I.base,I.loc,I.cell,I.free,I.freeC,I.pin,I.hok,I.len⟩
theorem Inv.unheld {e:Value} (ok:X.Ok) (I:Inv (X.held e) pins σ H s):Inv X pins σ H s:=
 ⟨ok,I.os,I.bare,I.base,I.loc,I.cell,I.free,I.freeC,I.pin,I.hok,I.len⟩
theorem zdl {x:Str} {p pos:Pos} {e:Expr} {es:List Expr} {t:TA} {ps:List Str} {k j:Nat} {sp:Sp} {E:XK} {Q:VK} (G:z68 X.prog X.w X.K X.mg X.base x ps k sp) (hr:Room j X.A) (hg:Gl X x) (ha:PA X.nox (e::es) t) (I:Inv X pins σ H s) (h:t σ H fun vs H1=>Same H H1/\sp vs H1 Q E) (hkj:k<=j:=by omega) (hdb:(x==("__debug__":Str))=false:=by decide)
  (he:starEach (e::es) X.env=(false,eval e X.env)::starEach es X.env:=by rfl) (hpl:(backTo pos (starEach es X.env)).any (·.1)=false:=by rfl) :
  wpAny (model X.prog X.w) X.A (eval (.Call (.Name x p) (e::es) [] pos) X.env) (EP X pins σ Q) (fun ev s'=>∃H1 s1,Same H H1/\Inv X pins σ H1 s1/\CX1 X.prog X.w X.stack H1 s1 E ev s') s:=by
 obtain ⟨f,fd,F,b,m,kp⟩:=G
 refine wpAny_Call_Name_kw (z58 I hg m ?_ hdb)
 have I':Inv X.nox pins σ H s:=⟨⟨I.ok.mod,I.ok.kind,I.ok.glob,I.ok.blt,I.ok.above,I.ok.inj,I.ok.has,I.ok.cab,I.ok.hd,I.ok.frames,I.ok.stk,I.ok.exf,I.ok.bs,I.ok.bsz,I.ok.noex,I.ok.exfs,I.ok.funs,I.ok.frf⟩,I.os,I.bare,I.base,I.loc,I.cell,I.free,I.freeC,I.pin,I.hok,I.len⟩
 refine PySem.W.callWith_K (h₀:=X.base) I.ok.mod.kin kp (wpAny_mono (ha pos pins s σ H _ I' h) (fun us s1 ⟨vs,H1,I1,r,sH,q⟩=>⟨I1.kIn,?_⟩) fun _ _ z=>z.elim) he hpl
 have I1:Inv X pins σ H1 s1:=⟨I.ok,I1.os,I1.bare,I1.base,I1.loc,I1.cell,I1.free,I1.freeC,I1.pin,I1.hok,I1.len⟩
 have hl:us.length=ps.length:=by rw [<-r.length];exact F.len _ _ _ _ q
 have hb:=b s1 us I1.kIn (by rw [List.append_nil];exact hl)
 rw [List.append_nil] at hb
 refine wpAny_call (codeAny_mono (F.run X.A X.stack s1 H1 ⟨us,[]⟩ us vs Q E (hr.mono hkj) I1.env0 hb r q) fun r s' hq=>?_)
 cases r with
 | error e=>exact ⟨H1,s1,sH,I1,hq⟩
 | ok fl=>
  cases fl with
  | ret u=>exact I1.after hq
  | next=>exact False.elim hq
  | brk=>exact False.elim hq
  | cont=>exact False.elim hq
end
structure Lnd5 (X:Cx) (pins:List (Addr×Obj)) (σ:St) (H1:Hp) (s1:Shared) (C a:Addr) (od:Option Addr) (H2:Hp) (s2:Shared) (B:Heap) (T:Addr) (a0:Value) (h5:Heap):Prop where
 I:Inv X pins σ H1 s1
 x:XOut X.prog X.w X.stack H1 s1 C a od H2 s2
 na:s1.heap.get? a=none
 nT:s1.heap.get? T=none
 ha:H2 a=none
 hT:H2 T=none
 keep:∀b o,s2.heap.get? b=some o->b≠a->b≠T->b∉frs X.stack->B.get? b=some o
 up:s2.heap.UpToSlots h5
 fl:Heap.FlyingW B X.stack a (.ref C) a0 h5
 dc:z2n a od h5
section
variable {X:Cx} {EX:XW} {fr:Bool} {pins:List (Addr×Obj)} {σ:St} {H1 H2:Hp} {s1 s2:Shared} {C a T:Addr} {B h5:Heap} {a0:Value} {od:Option Addr}
theorem Lnd5.inv (L:Lnd5 X pins σ H1 s1 C a od H2 s2 B T a0 h5):Inv X pins σ (upd H2 a (zf0 a C od)) { s2 with heap:=h5 }/\Same H2 (upd H2 a (zf0 a C od)):=
 zji L.I L.x L.na L.nT L.ha L.hT (fun b o e h1 h2 h3=>L.fl.1 b o (L.keep b o e h1 h2 h3)) L.up L.fl L.dc
theorem Lnd5.again (L:Lnd5 X pins σ H1 s1 C a od H2 s2 B T a0 h5) {A:Around} {E:Value->Shared->Prop} {Q:Unit->Shared->Prop} (h:∀h6,Lnd5 X pins σ H1 s1 C a od H2 s2 B T a0 h6->Q () { s2 with heap:=h6 }) :
  wpAny (model X.prog X.w) A (setFlight (.ref a) none) Q E { s2 with heap:=h5 }:=
 wpAny_mono (z3g (E:=E) (E':=E) (.flight _ _) (lands_againW (Q:=fun _ s=>∃h',s={ s2 with heap:=h' }/\Heap.FlyingW B X.stack a (.ref C) a0 h'/\h5.UpToSlots h') (s:={ s2 with heap:=h5 }) L.fl fun h' fl up=>⟨h',rfl,fl,up⟩) (z6x (s:={ s2 with heap:=h5 }) L.fl.2.2.2 L.dc)) (fun _ s ⟨⟨h',e,fl,up⟩,d⟩=>by subst e;exact h h' ⟨L.I,L.x,L.na,L.nT,L.ha,L.hT,L.keep,L.up.trans up,fl,d⟩) fun _ _ z=>z.1
theorem zoa (I:Inv X pins σ H1 s1) (hst:X.stack=X.env::X.outer) (hf:X.env.frame=some X.env.locals) (x:XOut X.prog X.w X.stack H1 s1 C a od H2 s2) {E:Value->Shared->Prop} {Q:Unit->Shared->Prop}
  (h:∀B T a0 h5,Lnd5 X pins σ H1 s1 C a od H2 s2 B T a0 h5->Q () { s2 with heap:=h5 }):wpAny (model X.prog X.w) X.A (noteFrame (.ref a) X.env) (fun _ s'=>wpAny (model X.prog X.w) X.A (setFlight (.ref a) none) Q E s') E s2:=by
 obtain ⟨oe,vs,T,oT,ts,a0,he,hc,h0,hd,h1,hTe,hT,hdT,h3,na,nT,ha,hHT,hod,hnd⟩:=id x.fly
 have F2:=I.stack2 x.un
 have hin:∀env∈X.stack,∀b,env.frame=some b->b∈a::T::frs X.stack:=fun env he b hb=>List.mem_cons_of_mem _ (List.mem_cons_of_mem _ (List.mem_filterMap.mpr ⟨env,he,hb⟩))
 have hfr:X.A.frames=some (X.env::X.outer):=by rw [<-hst];exact I.ok.frames
 have hfl:Heap.FlyingW (hideAll s2.heap (a::T::frs X.stack)) (X.env::X.outer) a (.ref C) a0 s2.heap:=⟨fun b o q=>of_hideAll _ q,hideAll_none _ (.head _),hst ▸ PySem.W.funFrames_hide F2 hin,oe,vs,T,oT,ts,he,⟨hc,h0⟩,hd,h1,hideAll_none _ (.tail _ (.head _)),hTe,hT,hdT,h3⟩
 refine zg4 (od:=od) hfr hf hfl (fun o ho=>by rw [he] at ho;cases ho;exact hod) fun h4 hh up4 d4=>?_
 refine zc3 (s:={ s2 with heap:=h4 }) hh d4 fun h5 fl up5 d5=>h (hideAll s2.heap (a::T::frs X.stack)) T a0 h5 ⟨I,x,na,nT,ha,hHT,fun b o q h1 h2 h3=>hideAll_get _ q fun z=>?_,up4.trans up5,(by rw [<-hst] at fl;exact fl),d5⟩
 rcases List.mem_cons.mp z with rfl | z
 . exact h1 rfl
 . rcases List.mem_cons.mp z with rfl | z
   . exact h2 rfl
   . exact h3 z
theorem zt4 {H H1:Hp} {b:Addr} (s:Same H H1) (e:H1 b=none):H b=none:=by
 cases q:H b with
 | none=>rfl
 | some o=>rw [s b o q] at e;cases e
theorem _root_.L2.Fly.newd {h0:Heap} {H':Hp} {C a:Addr} {od:Option Addr} {h:Heap} (f:Fly h0 H' C a od h):∀dx,od=some dx->h0.get? dx=none:=by
 obtain ⟨_,_,_,_,_,_,_,_,_,_,_,_,_,_,_,_,_,_,_,_,h⟩:=f
 exact h
abbrev HD:=Ex->DS->SR
structure QY (X:Cx) (fr:Bool) (sts:List Stmt) (g:DS->SR):Prop where
 h:∀(pins:List (Addr×Obj)) (s:Shared) (σ:St) (H:Hp) (De:Ends) (Hc Hb H0:Hp) (ρ:DS) (P:Ex->Hp->Prop),Inv X pins σ H s->RS X.K Hc Hb H0 ρ σ H->SK X.K ⟨H,P⟩ fr Hc Hb De (g ρ) ->
  wpAny (model X.prog X.w) X.A (execs sts X.env) (SP X pins De) (fun ev s'=>∃H1 s1 x C a od H2,ev=.ref a/\Same H H1/\Inv X pins σ H1 s1/\XOut X.prog X.w X.stack H1 s1 C a od H2 s'/\X.mg (Str.ofString (Ex.cls x))=some (.ref C)/\P x H2/\XFs X.K x od H2) s
structure QH (X:Cx) (EX:XW) (fr:Bool) (hs:List ExceptHandler) (hd:HD):Prop where
 h:∀(pins:List (Addr×Obj)) (σ:St) (H1:Hp) (s1:Shared) (C a:Addr) (od:Option Addr) (H2:Hp) (s2:Shared) (B:Heap) (T:Addr) (a0:Value) (h5:Heap) (De:Ends) (Hc Hb H0:Hp) (ρ:DS) (x:Ex) (E:Value->Shared->Prop) (H:Hp),Same H H2->(∀dx,od=some dx->H dx=none)->XFs X.K x od H2->Lnd5 X pins σ H1 s1 C a od H2 s2 B T a0 h5->X.mg (Str.ofString x.cls)=some (.ref C) ->
  RS X.K Hc Hb H0 ρ σ H->SK X.K EX fr Hc Hb De (hd x ρ)->wpAny (model X.prog X.w) X.A (handleBy (.ref a) X.env hs) (SP X pins De) E { s2 with heap:=h5 }
noncomputable def zob (g:DS->SR) (hd:HD):DS->SR:=fun ρ=>match g ρ with
 | .er x=>hd x ρ
 | r=>r
end
noncomputable def R.kn {α:Type} (k:String->Bool) (r:R α):R α:=match r with
 | .er x=>if k x.cls=true then .er x else .st
 | r=>r
noncomputable def zbh (k:String->Bool) (m:List D->R D) (fs:DE->R (List D)):DE->R D:=fun ρ=>(fs ρ).noE.bind fun ds=>(m ds).kn k
theorem SK.ex {K:Frag} {EX EX':XW} {fr:Bool} {Hc Hb:Hp} {De:Ends} {r:SR} (h:SK K EX fr Hc Hb De r) (he:∀x,EX.at x->EX'.at x):SK K EX' fr Hc Hb De r:=by
 cases r with
 | er x=>exact he x h
 | nx ρ=>exact h
 | bk ρ=>exact h
 | ct ρ=>exact h
 | rt d=>exact h
 | st=>exact h
section
variable {X:Cx} {fr frc:Bool} {k:String->Bool} {fs:DE->R (List D)} {mm:List D->R D} {n:Nat} {m:List Bool}
theorem zdm {K:Frag} {mg:Str->Option Value} {Hc Hb H0 H:Hp} {ρ:DS} {σ:St} {P:Ex->Hp->Prop} {kk:D->Prop} {Q:VK} (hl:∀ds,ds.length≠n->mm ds=.st) (hk:∀c,k c=true->∃C,mg (Str.ofString c)=some (.ref C)) (R:RS K Hc Hb H0 ρ σ H)
  (h:Rk (XW.at ⟨H,P⟩) (zbh k mm fs (vis m ρ)) kk) (hQ:∀d,kk d->∀v H',Out K frc (HeOf m ρ σ H0 H) H d v H'->Q v H'):TAd K F0 fs σ H fun vs H1=>Same H H1/\spD K mg frc mm n vs H1 Q (eOf K ⟨H,P⟩ mg):=by
 unfold zbh at h
 rw [Rk.bind] at h
 refine ⟨F0.same _,vis m ρ,HeOf m ρ σ H0 H,R.heH m,R.re m,(Rk.noE h).mono fun ds h vs H1 H1' s1 e1 r1=>⟨s1,ds,H1',e1.2.1,r1,?_,?_⟩⟩
 . apply Classical.byContradiction
   intro hn
   rw [hl ds hn] at h
   exact h
 . cases q:mm ds with
   | ok d=>rw [q] at h;exact fun v H' o=>hQ d h v H' (o.after s1 e1)
   | st=>rw [q] at h;exact h
   | er x=>
    rw [q] at h
    unfold L2.R.kn at h
    dsimp only at h
    split at h
    . rename_i hx
      obtain ⟨C,hC⟩:=hk _ hx
      exact fun H' s'=>⟨C,hC,fun od xf=>⟨x,h H' (s1.trans s'),hC,xf⟩⟩
    . exact h.elim
theorem zdn {pins:List (Addr×Obj)} {σ:St} {H:Hp} {P:Ex->Hp->Prop} {ev:Value} {s':Shared} (h:∃H1 s1,Same H H1/\Inv X pins σ H1 s1/\CX1 X.prog X.w X.stack H1 s1 (eOf X.K ⟨H,P⟩ X.mg) ev s') :
  ∃H1 s1 x C a od H2,ev=.ref a/\Same H H1/\Inv X pins σ H1 s1/\XOut X.prog X.w X.stack H1 s1 C a od H2 s'/\X.mg (Str.ofString (Ex.cls x))=some (.ref C)/\P x H2/\XFs X.K x od H2:=by
 obtain ⟨H1,s1,sH,I,C,a,od,H2,e,xo,x,hp,hm,xf⟩:=h
 exact ⟨H1,s1,x,C,a,od,H2,e,sH,I,xo,hm,hp,xf⟩
theorem zh0 {pins:List (Addr×Obj)} {De:Ends} {st:Stmt} {s:Shared} {E:Value->Shared->Prop} (h:wpAny (model X.prog X.w) X.A (exec st X.env) (SP X pins De) E s):wpAny (model X.prog X.w) X.A (execs [st] X.env) (SP X pins De) E s:=by
 refine wpAny_execs_cons (thn h fun f s1 q=>?_)
 cases f with
 | next=>exact wpAny_execs_nil q
 | ret v=>exact q
 | brk=>exact q
 | cont=>exact q
variable {x:Str} {p cpos pos:Pos} {e:Expr} {es:List Expr} {ps:List Str} {kl j kk':Nat} {gg:DS->SR}
theorem zh1 (hk:∀c,k c=true->∃C,X.mg (Str.ofString c)=some (.ref C)) (G:z68 X.prog X.w X.K X.mg X.base x ps kl (spD X.K X.mg frc (mOf frc n kk' gg) n)) (hr:Room j X.A) (hg:Gl X x) (ha:QA X.nox F0 (e::es) fs) (hkj:kl<=j:=by omega) (hdb:(x==("__debug__":Str))=false:=by decide)
  (he:starEach (e::es) X.env=(false,eval e X.env)::starEach es X.env:=by rfl) (hpl:(backTo cpos (starEach es X.env)).any (·.1)=false:=by rfl) (hs:swapsWith (.Call (.Name x p) (e::es) [] cpos) none pos.line X.env=pure false:=by rfl) :
  QY X fr [.Expr (.Call (.Name x p) (e::es) [] cpos) pos] (z22 (zbh k (mOf frc n kk' gg) fs)):=by
 refine ⟨fun pins s σ H De Hc Hb H0 ρ P I R h=>?_⟩
 unfold z22 at h
 rw [SK.toS,<-z41] at h
 refine zh0 (wpAny_Expr_any (wpAny_mono (zdl (Q:=fun _ H'=>De.nx σ H') G hr hg ha.h I (zdm z6w hk R h fun d z v H' o=>z σ H' H0 (R.grow o.1)) hkj hdb he hpl) (fun v s1 ⟨y,H1,I1,r1,q1⟩=>⟨σ,H1,I1,q1⟩) fun ev s' z=>zdn z) I.quiet hs)
end
noncomputable def zy8:HD:=fun _ _=>.st
noncomputable def SR.gone (i:Nat):SR->SR
 | .nx ρ=>.nx (ρ.set i .em)
 | .bk ρ=>.bk (ρ.set i .em)
 | .ct ρ=>.ct (ρ.set i .em)
 | .rt d=>.rt d
 | _=>.st
noncomputable def hAs (tb:String->Option Bool) (i:Nat) (g:DS->SR) (r:HD):HD:=fun x ρ=>match tb x.cls with
 | some true=>(g (ρ.set i (.im (.exc x.cls x.fs)))).gone i
 | some false=>r x ρ
 | none=>.st
noncomputable def SR.noE:SR->SR
 | .er _=>.st
 | r=>r
theorem RS.gone {K:Frag} {Hc Hb H0 H:Hp} {ρ:DS} {σ:St} (R:RS K Hc Hb H0 ρ σ H) (i:Nat):RS K Hc Hb H0 (ρ.set i .em) (σ.set i none) H:=by
 have ne:∀(j:Nat) (z:Sl),(ρ.set i Sl.em)[j]?=some z->z≠.em->j≠i/\ρ[j]?=some z:=fun j z e hz=>by
  by_cases hj:j=i
  . subst hj
    by_cases hl:j<ρ.length
    . rw [List.getElem?_set_self hl] at e;cases e;exact absurd rfl hz
    . rw [List.getElem?_eq_none (by simpa using hl)] at e;cases e
  . rw [List.getElem?_set_ne (Ne.symm hj)] at e;exact ⟨hj,e⟩
 refine ⟨R.sb,R.ext,by simpa using R.len,fun j d e=>?_,fun j d e=>?_,fun j k d e a h1 h2 h3 h4=>?_⟩
 . obtain ⟨hj,e⟩:=ne j _ e (by simp)
   rw [List.getElem?_set_ne (Ne.symm hj)]
   exact R.im j d e
 . obtain ⟨hj,e⟩:=ne j _ e (by simp)
   rw [List.getElem?_set_ne (Ne.symm hj)]
   exact R.ow j d e
 . obtain ⟨hj,e1⟩:=ne j _ h1 (by simp)
   obtain ⟨hk,e2⟩:=ne k _ h2 (by simp)
   rw [List.getElem?_set_ne (Ne.symm hj)] at h3
   rw [List.getElem?_set_ne (Ne.symm hk)] at h4
   exact R.ap j k d e a e1 e2 h3 h4
noncomputable def gD (De:Ends) (i:Nat):Ends:={ nx:=fun σ H=>De.nx (σ.set i none) H,rt:=De.rt,bk:=fun σ H=>De.bk (σ.set i none) H,ct:=fun σ H=>De.ct (σ.set i none) H }
theorem SK.gone {K:Frag} {EX:XW} {fr:Bool} {Hc Hb:Hp} {De:Ends} {i:Nat} {r:SR} (h:SK K EX fr Hc Hb De (r.gone i)):SK K F0 fr Hc Hb (gD De i) r:=by
 cases r with
 | nx ρ=>exact fun σ H H0 R=>h _ H H0 (R.gone i)
 | bk ρ=>exact fun σ H H0 R=>h _ H H0 (R.gone i)
 | ct ρ=>exact fun σ H H0 R=>h _ H H0 (R.gone i)
 | rt d=>exact h
 | er x=>exact h.elim
 | st=>exact h.elim
theorem Out.exc {K:Frag} {He H H2:Hp} {x:Ex} {a C:Addr} {od:Option Addr} (e1:nsIn K mainGlobals (Str.ofString x.cls)=some (some (.ref C))) (h0:Same He H) (s:Same H H2) (ha:H2 a=none) (nd:∀dx,od=some dx->H dx=none) (xf:XFs K x od H2):Out K false He H (.exc x.cls x.fs) (.ref a) (upd H2 a (zf0 a C od)):=by
 have sm:Same H2 (upd H2 a (zf0 a C od)):=Same.upd_new ha
 rcases xf with e | ⟨dx,ns,ob,h1,h2,h3⟩
 . have e2:Ext He H He H2:=⟨Same.refl _,h0.trans s,fun _ _ z=>z⟩
   exact .val (s.trans sm) (e2.trans s (.new (h0.trans s) ha)) (by simp only [RD];exact ⟨a,od,_,rfl,⟨C,e1,rfl⟩,z05,.inl e⟩)
 . have hd:=nd dx h1
   have hd0:He dx=none:=zt4 h0 hd
   have e2:Ext He H (upd He dx (.frz ob (.xd ((zx8 x.cls).zip (ns.map V.int))))) H2:=by
    refine ⟨Same.upd_new hd0,fun b o q=>?_,fun b q1 q2=>?_⟩
    . by_cases hb:b=dx
      . subst hb;rw [z05] at q;rw [h2];exact q
      . rw [z02 hb] at q;exact s _ _ (h0 _ _ q)
    . rw [z02 (fun z=>q1 (by rw [z];exact hd))];exact q2
   have hne:dx≠a:=fun z=>by rw [z,ha] at h2;cases h2
   exact .val (s.trans sm) (e2.trans s (.new e2.2.1 ha)) (by simp only [RD];exact ⟨a,od,_,rfl,⟨C,e1,rfl⟩,z05,.inr ⟨dx,ns,ob,h1,by rw [z02 hne,z05],h3⟩⟩)
structure Tbl (K:Frag) (cn:String) (Dd:Addr) (bmB:List Value) (newId:String) (tb:String->Option Bool):Prop where
 dn:nsIn K mainGlobals (Str.ofString cn)=some (some (.ref Dd))
 dq:XCl K Dd bmB newId
 cs:∀c b,tb c=some b->∃C,nsIn K mainGlobals (Str.ofString c)=some (some (.ref C))/\XCl K C bmB newId/\mroIn K C (.ref Dd)=some b
theorem zt5 {K:Frag} {h:Heap} {C:Addr} {v:Value} {b:Bool} {nm q:Str} {N:Addr} {bs bm:List Value} {hdct:Bool} {sn:List Str} {sub:List Value} {ab:Bool} {col:Option Bool} {dd:Option Addr} {k0 k1 k2 k3 k5:Option Value} {newId:String} (X:K.In h)
  (hC:h.get? C=some (excClassObj nm q C N bs bm hdct sn sub ab col dd k0 k1 k2 k3 k5 newId)) (hm:mroIn K C v=some b):(Value.ref C::bm).contains v=b:=by
 obtain ⟨cd,e1,e2⟩:=Option.bind_eq_some_iff.mp hm
 unfold PySem.W.clsIn at e1
 split at e1<;>cases e1
 rename_i ho
 have:=(X _ _ ho).symm.trans hC
 unfold excClassObj at this
 cases this
 split at e2
 . cases e2
 . exact Option.some.inj e2
section
variable {X:Cx} {EX:XW} {fr:Bool} {cn:String} {Dd:Addr} {bmB:List Value} {newId:String} {tb:String->Option Bool} {cp hpos:Pos} {b₀:Stmt} {suite:List Stmt} {rest:List ExceptHandler} {g:DS->SR} {hd:HD} {n:Str} {i:Nat}
theorem zy9:QH X EX fr [] zy8:=⟨fun _ _ _ _ _ _ _ _ _ _ _ _ _ _ _ _ _ _ _ _ _ _ _ _ _ _ _ h=>h.elim⟩
theorem zt6 {pins:List (Addr×Obj)} {σ:St} {H1:Hp} {s1:Shared} {C a:Addr} {od:Option Addr} {H2:Hp} {s2:Shared} {B:Heap} {T:Addr} {a0:Value} {h5:Heap} {x:Ex} {b:Bool} {R:Result->Shared->Prop} (Tb:Tbl X.K cn Dd bmB newId tb) (hbase:bmB.contains (.type "BaseException")=true) (hg:Gl X (Str.ofString cn)) (L:Lnd5 X pins σ H1 s1 C a od H2 s2 B T a0 h5)
  (hmx:X.mg (Str.ofString x.cls)=some (.ref C)) (hb:tb x.cls=some b) (h:R (.ok (if b then .brk else .next)) { s2 with heap:=h5 }) (hdb:(Str.ofString cn==("__debug__":Str))=false) :
  codeAny (model X.prog X.w) (X.A.mark (some (.ref a))) (.handlers (.ref a) [.ExceptHandler (some (.Name (Str.ofString cn) cp)) none [] hpos] X.env) R { s2 with heap:=h5 }:=by
 obtain ⟨I5,sm⟩:=L.inv
 have hm:X.mg (Str.ofString cn)=some (.ref Dd):=PySem.W.mg_of L.I.ok.mod.kin L.I.ok.mod.glob Tb.dn
 obtain ⟨C',e1,e2,e3⟩:=Tb.cs _ _ hb
 have hm':=PySem.W.mg_of L.I.ok.mod.kin L.I.ok.mod.glob e1
 rw [hmx] at hm'
 cases hm'
 obtain ⟨oe,vs,he,hc,hd',_⟩:=L.fl.first
 have KI:X.K.In h5:=I5.kIn
 obtain ⟨bm,N,nm,qn,bs,hdct,sn,sub,ab,col,dd,k0,k1,k2,k3,k5,hC,TL⟩:=zgx KI e2
 obtain ⟨bm2,N2,nm2,qn2,bs2,hdct2,sn2,sub2,ab2,col2,dd2,j0,j1,j2,j3,j5,hD,TL2⟩:=zgx KI Tb.dq
 refine codeAny_handlers_test (z58 (X:=X.held (.ref a)) (I5.held _) hg hm ?_ hdb)
 exact zgz hC hD he hc (TL2.hasType hbase) (by rw [zt5 KI hC e3];exact h)
theorem y1m (Tb:Tbl X.K cn Dd bmB newId tb) (hbase:bmB.contains (.type "BaseException")=true) (hg:Gl X (Str.ofString cn)) (hN:X.N.Nodup) (hi:X.N[i]?=some n) (hk:X.env.scope.names.lookup n=some .local) (hs:∀e,QB (X.held e) F0 fr (b₀::suite) g) (hr:QH X EX fr rest hd) (hdb:(Str.ofString cn==("__debug__":Str))=false:=by decide) :
  QH X EX fr (.ExceptHandler (some (.Name (Str.ofString cn) cp)) (some n) (b₀::suite) hpos::rest) (hAs tb i g hd):=by
 refine ⟨fun pins σ H1 s1 C a od H2 s2 B T a0 h5 De Hc Hb H0 ρ x E H sH nd xf L hmx R h=>?_⟩
 unfold hAs at h
 refine wpAny_handleBy_cons ?_ (by intro q;cases q)
 cases hb:tb x.cls with
 | none=>rw [hb] at h;exact h.elim
 | some b=>
  rw [hb] at h
  refine zt6 Tb hbase hg L hmx hb ?_ hdb
  cases b with
  | false=>exact hr.h pins σ H1 s1 C a od H2 s2 B T a0 h5 De Hc Hb H0 ρ x E H sH nd xf L hmx R h
  | true=>
   refine codeAny_handlers_suite_as (L.again fun h6 L6=>?_)
   obtain ⟨I6,sm⟩:=L6.inv
   refine z8j I6 hN hi (.inl hk) (v:=.ref a) rfl (fun s3 I3=>?_) (.inr hk)
   obtain ⟨C',e1,e2,e3⟩:=Tb.cs _ _ hb
   have hm':=PySem.W.mg_of L.I.ok.mod.kin L.I.ok.mod.glob e1
   rw [hmx] at hm'
   cases hm'
   have o:Out X.K false (HeOf [] ρ σ H0 H) H (.exc x.cls x.fs) (.ref a) (upd H2 a (zf0 a C od)):=.exc e1 (R.heH []) sH L.ha nd xf
   obtain ⟨H0n,R',apt⟩:=R.out o
   have R3:=R'.put apt i
   refine wpAny_mono ((hs (.ref a)).h pins s3 _ _ (gD De i) (I3.held (.ref a)) ⟨Hc,Hb,H0n,_,F0.same _,R3,h.gone⟩) (fun f s4 q=>?_) fun _ _ z=>z.elim
   cases f with
   | next=>obtain ⟨σ',H',I',q⟩:=q;exact z9e (I'.unheld L.I.ok) hN hi hk fun s5 I5=>⟨_,H',I5,q⟩
   | brk=>obtain ⟨σ',H',I',q⟩:=q;exact z9e (I'.unheld L.I.ok) hN hi hk fun s5 I5=>⟨_,H',I5,q⟩
   | cont=>obtain ⟨σ',H',I',q⟩:=q;exact z9e (I'.unheld L.I.ok) hN hi hk fun s5 I5=>⟨_,H',I5,q⟩
   | ret u=>obtain ⟨v,σ',H',I',rv,q⟩:=q;exact z9e (I'.unheld L.I.ok) hN hi hk fun s5 I5=>⟨v,_,H',I5,rv,q⟩
end
end L2
namespace L2
open PySem PySem.Spec PyProof.Rows
open PySem.Calls
section
variable {prog:Program} {w:World} {A:Around} {E:Value->Shared->Prop} {h:Heap} {g:Array GenState} {d:Drawn} {t:Nat} {os:OsState} {K:Frag} {C a:Addr} {o:Obj}
theorem zh2 {α:Type} {M:Model} {A:Around} {E:Value->Shared->Prop} {m:Sem α} {r:α} {Q:α->Shared->Prop} (L:Looks M h m r) (q:Q r ⟨h,g,d,t,os⟩):wpAny M A m Q E ⟨h,g,d,t,os⟩:=L A Q E _ (fun _ _ z=>z) q
theorem zya {R:Result->Shared->Prop} (X:K.In h) (hx:h.get? a=some o) (hc:o.cls=.ref C) (hm:mroIn K C (.type "object")=some true) (hq:R (.ok (.ret (.ref C))) ⟨h,g,d,t,os⟩) :
  codeAny (model prog w) A (.call (.builtin "getset_descriptor.__get__") ⟨[.builtin "object.__class__",.ref a,.ref C],[]⟩) R ⟨h,g,d,t,os⟩:=by
 have hT5:(⟨h,g,d,t,os⟩:Shared).TypeIs (.builtin "object.__class__") "getset_descriptor":=PySem.F.typeOf_object_class
 have L1:Looks (model prog w) h (isSubtype (.ref C) (.type (".".intercalate ("object.__class__".cutAt '.').dropLast))) true:=by rw [PySem.F.owner_object_class];exact PySem.W.looks_mroIn X hm
 refine codeAny_call_builtin PySem.F.slot_gs_get.plain PySem.F.entry_gs_get (PySem.F.slot_gs_get.check _ _ _ _ _ _ _ _ hT5 (PySem.F.args_gs_get _ _ _) ?_)
 repeat (any_goals (first | assumption | (with_reducible refine wpAny_loadPart_at hx ?_;rw [hc]) | with_reducible refine zh2 L1 ?_ | wp_step))
 refine ⟨Code.quiet_builtin _ (by decide +kernel),codeAny_builtin PySem.F.entry_object_class ?_⟩
 repeat (any_goals (first | assumption | (with_reducible refine wpAny_loadPart_at hx ?_;rw [hc]) | wp_step))
theorem zoc {tk:Tok} {Q:Fin->Shared->Prop} (X:K.In h) (hx:h.get? a=some o) (hc:o.cls=.ref C) (hm:mroIn K C (.type "object")=some true) (hcl:PySem.W.findIn K (.ref C) "__class__"=some (some (.builtin "object.__class__"))) (hq:Q (.done (.ret (.ref C))) ⟨h,g,d,t,os⟩) :
  wpAny (model prog w) A (Builtin.«object.__getattribute__» ⟨[.ref a,.str "__class__" tk],[]⟩) Q E ⟨h,g,d,t,os⟩:=by
 have hT5:(⟨h,g,d,t,os⟩:Shared).TypeIs (.builtin "object.__class__") "getset_descriptor":=PySem.F.typeOf_object_class
 have L2:=PySem.W.looks_findIn (M:=model prog w) X hcl
 have f5:=PySem.F.typeOf_object_class
 have f6:=PySem.F.slot_gs_get.lookup
 have f7:=PySem.F.slot_gs_set.lookup
 repeat (any_goals (first | assumption | (with_reducible refine wpAny_loadPart_at hx ?_;rw [hc]) | with_reducible refine zh2 L2 ?_ | wp_step))
 refine zya X hx hc hm ?_
 repeat (any_goals (first | assumption | wp_step))
theorem zod {M:Model} {nameV:Value} {Q:Unit->Shared->Prop} (X:K.In h) (hx:h.get? a=some o) (hc:o.cls=.ref C) (hB:mroIn K C (.type "BaseException")=some true) (hq:Q () ⟨h,g,d,t,os⟩):wpAny M A (checkBuiltinCall "BaseException.__getattribute__" ⟨[.ref a,nameV],[]⟩) Q E ⟨h,g,d,t,os⟩:=by
 have hk:builtinKind "BaseException.__getattribute__"=some .slot:=by decide +kernel
 have hsplit:splitId "BaseException.__getattribute__"=some ("BaseException","__getattribute__"):=by decide +kernel
 have ha:=PySem.F.args_bexc_ga (.ref a) nameV
 have L1:=PySem.W.looks_mroIn (M:=M) X hB
 simp only [checkBuiltinCall,hk,hsplit]
 refine wpAny_bind ?_
 . unfold isInstance
   repeat (first | (with_reducible refine wpAny_loadPart_at hx ?_;rw [hc]) | with_reducible refine zh2 L1 ?_ | wp_step)
   exact hq
theorem zt7 {tk:Tok} {R:Result->Shared->Prop} (X:K.In h) (hx:h.get? a=some o) (hc:o.cls=.ref C) (hm:mroIn K C (.type "object")=some true) (hB:mroIn K C (.type "BaseException")=some true) (hcl:PySem.W.findIn K (.ref C) "__class__"=some (some (.builtin "object.__class__"))) (hq:R (.ok (.ret (.ref C))) ⟨h,g,d,t,os⟩) :
  codeAny (model prog w) A (.call (.builtin "BaseException.__getattribute__") ⟨[.ref a,.str "__class__" tk],[]⟩) R ⟨h,g,d,t,os⟩:=
 codeAny_call_builtin PySem.F.attr_ValueError.ga.plain PySem.F.entry_bexc_ga (zod X hx hc hB (zoc X hx hc hm hcl hq))
theorem y1n {tk:Tok} {Q:Value->Shared->Prop} (X:K.In h) (hx:h.get? a=some o) (hc:o.cls=.ref C) (hm:mroIn K C (.type "object")=some true) (hB:mroIn K C (.type "BaseException")=some true) (hcl:PySem.W.findIn K (.ref C) "__class__"=some (some (.builtin "object.__class__")))
  (hga:PySem.W.findIn K (.ref C) "__getattribute__"=some (some (.builtin "BaseException.__getattribute__"))) (hgt:PySem.W.findIn K (.ref C) "__getattr__"=some none) (hq:Q (.ref C) ⟨h,g,d,t,os⟩):wpAny (model prog w) A (getAttrBy (.ref a) (.str "__class__" tk) false) Q E ⟨h,g,d,t,os⟩:=by
 have L1:=PySem.W.looks_findIn (M:=model prog w) X hga
 have L2:=PySem.W.looks_findIn (M:=model prog w) X hgt
 have f3:=(PySem.F.attr_ValueError).ga.bind (.ref a)
 have hx2:(Value.builtin "BaseException.__getattribute__"==Value.builtin "object.__getattribute__")=false:=by decide +kernel
 have hx1:(onTheHeap (Value.ref C)&&Value.builtin "BaseException.__getattribute__"==Value.builtin "object.__getattribute__")=false:=by rw [hx2];rfl
 repeat (any_goals (first | assumption | (with_reducible refine wpAny_loadPart_at hx ?_;rw [hc]) | with_reducible refine zh2 L1 ?_ | with_reducible refine zh2 L2 ?_ | wp_step))
 refine zt7 X hx hc hm hB hcl ?_
 repeat (any_goals (first | assumption | wp_step))
theorem zoe {Q:Option Value->Shared->Prop} (X:K.In h) (hx:h.get? a=some o) (hc:o.cls=.ref C) (hm:mroIn K C (.type "object")=some true) (hB:mroIn K C (.type "BaseException")=some true) (hcl:PySem.W.findIn K (.ref C) "__class__"=some (some (.builtin "object.__class__")))
  (hga:PySem.W.findIn K (.ref C) "__getattribute__"=some (some (.builtin "BaseException.__getattribute__"))) (hgt:PySem.W.findIn K (.ref C) "__getattr__"=some none) (hq:Q (some (.ref C)) ⟨h,g,d,t+1,os⟩):wpAny (model prog w) A (getAttr? (.ref a) "__class__") Q E ⟨h,g,d,t,os⟩:=by
 unfold getAttr? getAttrBy?
 repeat (any_goals (first | assumption | with_reducible apply y1n X hx hc hm hB hcl hga hgt | wp_step))
end
structure XF (K:Frag) (C:Addr):Prop where
 ob:mroIn K C (.type "object")=some true
 be:mroIn K C (.type "BaseException")=some true
 cl:PySem.W.findIn K (.ref C) "__class__"=some (some (.builtin "object.__class__"))
 ga:PySem.W.findIn K (.ref C) "__getattribute__"=some (some (.builtin "BaseException.__getattribute__"))
 gt:PySem.W.findIn K (.ref C) "__getattr__"=some none
theorem XF.cls {K:Frag} {C:Addr} (F:XF K C):∃c' d' cd sl,K.lookup C=some ⟨c',d',.cls cd,sl⟩:=by
 obtain ⟨cd,e1,e2⟩:=Option.bind_eq_some_iff.mp F.ob
 unfold PySem.W.clsIn at e1
 split at e1<;>cases e1
 rename_i ho
 exact ⟨_,_,_,_,ho⟩
theorem z9f {K:Frag} {C a:Addr} (F:XF K C):PySem.W.KitX K (.ref a) (.ref C) (fun h=>∃ob,h.get? a=some ob/\ob.cls=.ref C) where
 ty:=fun M h X ⟨o,h1,h2⟩=>h2 ▸ (PySem.W.Looks.ld h1).andThen .now
 it:=fun _ _ X _=>by
  obtain ⟨c',d',cd,sl,ho⟩:=F.cls
  intro A' Q' E' s' k q
  unfold isType loadHead
  exact wpAny_bind (wpAny_loadPart (k _ _ (X _ _ ho)) (wpAny_pure q))
 ne:=fun h tp dd its n sl X htp=>by
  obtain ⟨c',d',cd,sl,ho⟩:=F.cls
  refine Bool.eq_false_iff.mpr fun q=>?_
  have e:C=tp:=Value.ref.inj (beq_iff_eq.mp q)
  subst e
  have z:=(X _ _ ho).symm.trans htp
  cases z
 ca:=fun {prog w A E Q s} X ⟨o,hx,hc⟩ k=>by
  obtain ⟨h,g,d,t,os⟩:=s
  exact zoe X hx hc F.ob F.be F.cl F.ga F.gt k
def zyb (K:Frag):List V->Hp->VK->Prop:=fun xs H Q=>match xs with
 | [.ref a,.ref p]=>∃C od b,H a=some (zf0 a C od)/\XF K C/\(kitOne K (.ref C) (.ref p)=some b\/∃Ds:List Addr,H p=some (.tup (Ds.map V.ref))/\PySem.W.kitAny K (.ref C) (Ds.map Value.ref)=some b)/\Q (.bl b) H
 | [.ref a,.ty T]=>∃C od b,H a=some (zf0 a C od)/\XF K C/\kitOne K (.ref C) (.type T)=some b/\Q (.bl b) H
 | _=>False
theorem zau:∀{Ds:List Addr} {us:List Value},Vals (Ds.map V.ref) us->us=Ds.map Value.ref
 | [],_,.nil=>rfl
 | _::_,_,.cons r t=>by rw [zau t,show _=_ from r];rfl
theorem zyc {X:Cx}:CallR X (.builtin "isinstance") (zyb X.K):=by
 intro pins s σ H xs us Q I r h
 unfold zyb at h
 split at h
 . rename_i a p
   obtain ⟨C,od,b,ha,F,hk,q⟩:=h
   cases r with
   | cons r1 r=>cases r with
    | cons r2 r=>
     cases r
     cases (show _=_ from r1)
     cases (show _=_ from r2)
     obtain ⟨⟨ob,o1,o2,_⟩,_⟩:=I.hok a _ ha
     rcases hk with hk | ⟨Ds,hp,hk⟩
     . exact kia_one (z9f F) I.kIn ⟨ob,o1,o2⟩ hk (fun z=>by cases z) fun tk=>⟨.bl b,H,I.tok tk,rfl,q⟩
     . obtain ⟨_,its,rv,ot,n,t1,t2,t3⟩:=I.hok p _ hp
       obtain ⟨oc,od,odt,osl⟩:=ot
       dsimp only at t1 t3
       subst t1 t3
       rw [zau rv] at n
       exact PySem.W.kia_tup (z9f F) I.kIn ⟨ob,o1,o2⟩ n hk (fun z=>by cases z) fun tk=>⟨.bl b,H,I.tok tk,rfl,q⟩
 . rename_i a T
   obtain ⟨C,od,b,ha,F,hk,q⟩:=h
   cases r with
   | cons r1 r=>cases r with
    | cons r2 r=>
     cases r
     cases (show _=_ from r1)
     cases (show _=_ from r2)
     obtain ⟨⟨ob,o1,o2,_⟩,_⟩:=I.hok a _ ha
     exact kia_one (z9f F) I.kIn ⟨ob,o1,o2⟩ hk (fun z=>by cases z) fun tk=>⟨.bl b,H,I.tok tk,rfl,q⟩
 . exact h.elim
noncomputable def z9g (tb:String->Option Bool):D->Option D
 | .exc c _=>(tb c).map .bl
 | _=>none
structure Bel (K:Frag) (y:Value) (tb:String->Option Bool):Prop where
 h:∀c b,tb c=some b->∃C,nsIn K mainGlobals (Str.ofString c)=some (some (.ref C))/\XF K C/\kitOne K (.ref C) y=some b
theorem RD.exc {K:Frag} {H:Hp} {c:String} {fs:List D} {v:V} (r:RD K H (.exc c fs) v):∃a C od,v=.ref a/\nsIn K mainGlobals (Str.ofString c)=some (some (.ref C))/\H a=some (zf0 a C od)/\XFs K ⟨c,fs⟩ od H:=by
 simp only [RD] at r
 obtain ⟨a,od,o,e,⟨C,h1,h2⟩,h3,h4⟩:=r
 subst h2
 exact ⟨a,C,od,e,h1,h3,h4⟩
section
variable {X:Cx} {EX:XW} {a b:Expr} {pos p:Pos} {x:Str} {f:DE->R D} {tb:String->Option Bool}
theorem zyd {K:Frag} {σ:St} {H:Hp} {Q:VK} {y:V} {yv:Value} (hy:(∃Dd,y=.ref Dd/\yv=.ref Dd)\/∃T,y=.ty T/\yv=.type T) (B:Bel K yv tb) (h:TEd K EX false (eUn (z9g tb) f) σ H Q):tCB (zyb K) (z8l (TEd K EX false f) (z8l (tC y) zqj)) σ H Q:=by
 obtain ⟨sx,ρ,H0,s,e,h⟩:=h
 unfold eUn at h
 rw [Rk.bind] at h
 refine TEd.go sx s e h fun d h v H1 H1' s1 e1 r1=>?_
 obtain ⟨z,hz,h⟩:=h.of
 cases d<;>simp only [z9g] at hz<;>first | cases hz | skip
 rename_i c _
 obtain ⟨b,hb,rfl⟩:=Option.map_eq_some_iff.mp hz
 obtain ⟨a,C,od,rfl,hn,ha,_⟩:=r1.exc
 obtain ⟨C',h1,h2,h3⟩:=B.h c b hb
 rw [hn] at h1
 cases h1
 have q:=h (.bl b) H1 (.val s1 e1 (by simp only [RD]))
 rcases hy with ⟨Dd,rfl,rfl⟩ | ⟨T,rfl,rfl⟩
 . exact ⟨C,od,b,e1.2.1 _ _ ha,h2,.inl h3,q⟩
 . exact ⟨C,od,b,e1.2.1 _ _ ha,h2,h3,q⟩
theorem z5d {y:V} {yv:Value} (hg:Gl X x) (hm:X.mg x=none) (hv:bootBuiltins x=some (.builtin "isinstance")) (ha:QE X EX false a f) (hb:PE X b (tC y)) (hy:(∃Dd,y=.ref Dd/\yv=.ref Dd)\/∃T,y=.ty T/\yv=.type T) (B:Bel X.K yv tb) (hn:x≠"__name__":=by decide) (hdb:(x==("__debug__":Str))=false:=by decide)
 (he:starEach [a,b] X.env=(false,eval a X.env)::starEach [b] X.env:=by rfl) (hpl:(backTo pos (starEach [b] X.env)).any (·.1)=false:=by rfl) (hs:starEach [b] X.env=(false,eval b X.env)::starEach [] X.env:=by rfl) :
 QE X EX false (.Call (.Name x p) [a,b] [] pos) (eUn (z9g tb) f):=⟨(z8m zyc hg hm hv (z2z ha.h (z2z hb pa_nil hs) he) hn hdb he hpl).imp fun _ _ _ q=>zyd hy B q⟩
end
end L2
namespace L2
open PySem PySem.Spec PyProof.Rows
section
open PySem.AutoSeq1 (wpAny_loadPart')
end
end L2
namespace L2
open PySem PySem.Spec PyProof.Rows
section
open PySem.AutoSeq1 (wpAny_loadPart')
end
end L2
namespace L2
open PySem PySem.Spec PyProof.Rows
end L2
namespace L2
open PySem PySem.Spec PyProof.Rows
open PySem.Calls
open Builtin Builtin.ObjectAttr
section
open PySem.AutoSeq1 (wpAny_loadPart')
end
end L2
namespace L2
open PySem PySem.Spec PyProof.Rows
section
variable {prog:Program} {w:World} {A:Around} {R:Result->Shared->Prop} {I:Addr} {fp wr:List Addr} {n:Nat} {P:Nat->Value->Prop} {St:Nat->Heap->Prop}
theorem zye (kw:List (Str×Value)) (W:Walks prog w A.in1 I fp wr n P St) (bt:Nat->Nat->Bool) (cm:CmpOf prog w A.in1 .Gt P bt) (S:Addr) (nf:S∉fp) :
  ∀(k j:Nat) (s:Shared) (vb:Value) (c:Nat),n - (j+1)=k->j+1<=n->St (j+1) s.heap->P (argBest bt j) vb->s.heap.get? S=some { cls:=.type "list",dict:=none,data:=.seq #[vb,vb] c,slots:=#[] } ->
  (∀v h' tk,P (argBest bt (n - 1)) v->(∀b o,b∉wr->b≠S->s.heap.get? b=some o->h'.get? b=some o)->R (.ok (.ret v)) { s with heap:=h',toks:=tk })->codeAny (model prog w) A (.builtin "max.loop" ⟨[.ref I,.none,.ref S],kw⟩) R s:=by
 have nw:S∉wr:=fun h=>nf (W.sub _ h)
 have nm:(toString "max"++toString ".loop":String)="max.loop":=by decide
 intro k
 induction k with
 | zero=>
  intro j s vb c ek ej st pb eS fin
  have jn:j+1=n:=by omega
  refine codeAny_builtin PySem.F.entry_max_loop ?_
  rw [Around.under_plainId PySem.F.plain_max_loop _]
  show wpAny _ A.in1 (seqItems? (.ref S) >>= _) _ _ _
  refine wpAny_bind (wpAny_seqItems eS rfl ?_)
  show wpAny _ A.in1 (tryCatch (pyNext (.ref I)) _ >>= _) _ _ _
  refine wpAny_bind (wpAny_tryCatch (W.done s _ _ (jn ▸ st) fun h' tk kp=>?_))
  have eS':=kp S _ nw eS
  show wpAny _ A.in1 (updateSeq S (fun _=>#[]) >>= _) _ _ _
  refine wpAny_bind ?_
  refine wpAny_updateSeq eS' rfl (wpAny_bind (wpAny_letGo (wpAny_pure ?_)))
  exact fin vb _ tk (by rw [<-jn];exact pb) fun b o hbw hbS e=>(Heap.get?_update_other _ _ (Ne.symm hbS)).trans (kp b o hbw e)
 | succ k ih=>
  intro j s vb c ek ej st pb eS fin
  have jl:j+1<n:=by omega
  refine codeAny_builtin PySem.F.entry_max_loop ?_
  rw [Around.under_plainId PySem.F.plain_max_loop _]
  show wpAny _ A.in1 (seqItems? (.ref S) >>= _) _ _ _
  refine wpAny_bind (wpAny_seqItems eS rfl ?_)
  show wpAny _ A.in1 (tryCatch (pyNext (.ref I)) _ >>= _) _ _ _
  refine wpAny_bind (wpAny_tryCatch (W.item (j+1) s _ _ jl st fun v h' tk pv st' kp=>?_))
  have eS':=kp S _ nw eS
  show wpAny _ A.in1 (tryCatch (holding [v,v] (richCompare .Gt v vb >>= _)) _ >>= _) _ _ _
  refine wpAny_bind (wpAny_tryCatch (wpAny_holding (wpAny_bind (cm (j+1) (argBest bt j) v vb _ _ _ pv pb ?_))))
  refine wpAny_bind (wpAny_holding (wpAny_truthy_bool ?_))
  refine wpAny_bind (wpAny_letGo (wpAny_pure ?_))
  cases hb:bt (j+1) (argBest bt j) with
  | true=>
   rw [if_pos rfl]
   refine wpAny_bind ?_
   refine wpAny_updateSeq eS' rfl (wpAny_bind (wpAny_letGo ?_))
   rw [nm]
   refine wpAny_pure ⟨plainId_quiet PySem.F.plain_max_loop _,ih (j+1) _ v _ (by omega) jl (W.frame _ _ _ st' fun b hbf o e=>?_) (by simp only [argBest,hb,if_true];exact pv) (Heap.get?_update_self _ eS' rfl) fun v' h'' tk'' pv' kp'=>?_⟩
   . exact (Heap.get?_update_other _ _ (fun z:S=b=>nf (by rw [z];exact hbf))).trans e
   . exact fin v' h'' tk'' pv' fun b o hbw hbS e=>kp' b o hbw hbS ((Heap.get?_update_other _ _ (Ne.symm hbS)).trans (kp b o hbw e))
  | false=>
   rw [if_neg Bool.false_ne_true]
   refine wpAny_bind (wpAny_letGo ?_)
   rw [nm]
   exact wpAny_pure ⟨plainId_quiet PySem.F.plain_max_loop _,ih (j+1) _ vb c (by omega) jl st' (by simp only [argBest,hb,Bool.false_eq_true,if_false];exact pb) eS' fun v' h'' tk'' pv' kp'=>fin v' h'' tk'' pv' fun b o hbw hbS e=>kp' b o hbw hbS (kp b o hbw e)⟩
theorem zjj (kw:List (Str×Value)) (W:Walks prog w A.in1 I fp wr n P St) (bt:Nat->Nat->Bool) (cm:CmpOf prog w A.in1 .Gt P bt) (S:Addr) (nf:S∉fp) (n0:0<n) {s:Shared} {c:Nat} (st:St 0 s.heap)
  (eS:s.heap.get? S=some { cls:=.type "list",dict:=none,data:=.seq #[] c,slots:=#[] }) (fin:∀v h' tk,P (argBest bt (n - 1)) v->(∀b o,b∉wr->b≠S->s.heap.get? b=some o->h'.get? b=some o)->R (.ok (.ret v)) { s with heap:=h',toks:=tk }) :
  codeAny (model prog w) A (.builtin "max.loop" ⟨[.ref I,.none,.ref S],kw⟩) R s:=by
 have nw:S∉wr:=fun h=>nf (W.sub _ h)
 have nm:(toString "max"++toString ".loop":String)="max.loop":=by decide
 refine codeAny_builtin PySem.F.entry_max_loop ?_
 rw [Around.under_plainId PySem.F.plain_max_loop _]
 show wpAny _ A.in1 (seqItems? (.ref S) >>= _) _ _ _
 refine wpAny_bind (wpAny_seqItems eS rfl ?_)
 show wpAny _ A.in1 (tryCatch (pyNext (.ref I)) _ >>= _) _ _ _
 refine wpAny_bind (wpAny_tryCatch (W.item 0 s _ _ n0 st fun v h' tk pv st' kp=>?_))
 have eS':=kp S _ nw eS
 show wpAny _ A.in1 (updateSeq S (fun _=>#[v,v]) >>= _) _ _ _
 refine wpAny_bind ?_
 refine wpAny_updateSeq eS' rfl ?_
 rw [nm]
 refine wpAny_pure ⟨plainId_quiet PySem.F.plain_max_loop _,zye kw W bt cm S nf _ 0 _ v _ rfl n0 (W.frame _ _ _ st' fun b hbf o e=>?_) pv (Heap.get?_update_self _ eS' rfl) fun v' h'' tk'' pv' kp'=>?_⟩
 . exact (Heap.get?_update_other _ _ (fun z:S=b=>nf (by rw [z];exact hbf))).trans e
 . exact fin v' h'' tk'' pv' fun b o hbw hbS e=>kp' b o hbw hbS ((Heap.get?_update_other _ _ (Ne.symm hbS)).trans (kp b o hbw e))
theorem zof (q:Str) (dv:Value) (W:Walks prog w A.in1 I fp wr n P St) (S:Addr) (nf:S∉fp) (n0:n=0) {s:Shared} {c:Nat} (st:St 0 s.heap)
  (eS:s.heap.get? S=some { cls:=.type "list",dict:=none,data:=.seq #[] c,slots:=#[] }) (fin:∀h' tk,(∀b o,b∉wr->b≠S->s.heap.get? b=some o->h'.get? b=some o)->R (.ok (.ret dv)) { s with heap:=h',toks:=tk }) :
  codeAny (model prog w) A (.builtin "max.loop" ⟨[.ref I,.none,.ref S],[(q,dv)]⟩) R s:=by
 refine codeAny_builtin PySem.F.entry_max_loop ?_
 rw [Around.under_plainId PySem.F.plain_max_loop _]
 show wpAny _ A.in1 (seqItems? (.ref S) >>= _) _ _ _
 refine wpAny_bind (wpAny_seqItems eS rfl ?_)
 show wpAny _ A.in1 (tryCatch (pyNext (.ref I)) _ >>= _) _ _ _
 refine wpAny_bind (wpAny_tryCatch (W.done s _ _ (n0 ▸ st) fun h' tk kp=>?_))
 show wpAny _ A.in1 (rule _ >>= _) _ _ _
 exact wpAny_bind (wpAny_rule (wpAny_pure (fin h' tk fun b o hb _ e=>kp b o hb e)))
end
theorem zog (a v:Value):argsOk "max" ⟨[a],[(Str.ofString "default",v)]⟩:=by unfold argsOk;kernel_rfl
section
variable {prog:Program} {w:World} {A:Around} {E:Value->Shared->Prop} {s:Shared}
theorem zoh {x dv:Value} {Q:Value->Shared->Prop}
  (h:wpAny (model prog w) A.in1 (pyIter x) (fun it s₂=>∃I fp wr n P St bt,it=.ref I/\Walks prog w A.in1 I fp wr n P St/\St 0 s₂.heap/\(∀b∈fp,b<s₂.heap.objs.size)/\CmpOf prog w A.in1 .Gt P bt /\
   ∀v h' tk,((0<n/\P (argBest bt (n - 1)) v)\/(n=0/\v=dv))->(∀b o,b∉wr->s₂.heap.get? b=some o->h'.get? b=some o)->Q v { s₂ with heap:=h',toks:=tk }) E s) :
  wpAny (model prog w) A (call (.builtin "max") [x] [(Str.ofString "default",dv)]) Q E s:=by
 have nm:(toString "max"++toString ".loop":String)="max.loop":=by decide
 refine kmk_tree PySem.F.kind_max PySem.F.plain_max PySem.F.entry_max (zog _ _) ?_
 show wpAny _ A.in1 (Builtin.Builtins.bindParams "max" ["key","default"] 0 ⟨[],[(Str.ofString "default",dv)]⟩ >>= _) _ _ s
 refine wpAny_bind (wpAny_of_eq (show Builtin.Builtins.bindParams "max" ["key","default"] 0 ⟨[],[(Str.ofString "default",dv)]⟩=pure [none,some dv] from rfl) ?_)
 refine wpAny_bind (wpAny_pure ?_)
 refine wpAny_bind (wpAny_mono h (fun it s₂ g=>?_) fun _ _ e=>e)
 obtain ⟨I,fp,wr,n,P,St,bt,rfl,W,st,bd,cm,hQ⟩:=g
 refine wpAny_bind (wpAny_newObj_type ?_)
 have nf:s₂.heap.objs.size∉fp:=fun hm=>Nat.lt_irrefl _ (bd _ hm)
 rw [nm]
 refine wpAny_pure ⟨plainId_quiet PySem.F.plain_max_loop _,?_⟩
 by_cases n0:0<n
 . exact zjj _ W bt cm s₂.heap.objs.size nf n0 (W.frame _ _ _ st fun b _ o e=>Heap.get?_push_of_some _ e) (Heap.get?_push_size _ rfl) fun v h' tk pv kp=>
    hQ v h' tk (.inl ⟨n0,pv⟩) fun b o hbw e=>kp b o hbw (Nat.ne_of_lt (Heap.lt_size e)) (Heap.get?_push_of_some _ e)
 . exact zof _ dv W s₂.heap.objs.size nf (by omega) (W.frame _ _ _ st fun b _ o e=>Heap.get?_push_of_some _ e) (Heap.get?_push_size _ rfl) fun h' tk kp=>
    hQ dv h' tk (.inr ⟨by omega,rfl⟩) fun b o hbw e=>kp b o hbw (Nat.ne_of_lt (Heap.lt_size e)) (Heap.get?_push_of_some _ e)
variable {h₀:Heap} {L:Addr} {m:Str->Option Value} {news:List (Addr×Obj)}
theorem zoi {l:Addr} {vs:List Value} {ns:List Int} {dv:Value} {Q:Value->Shared->Prop} (hh:A.handled=none) (F:Fr h₀ L s.heap m) (N:News h₀ L s.heap news) (hl:s.heap.IsList l vs.toArray) (hi:IntsAre vs ns)
  (h:∀v h' tk,Fr h₀ L h' m->News h₀ L h' news->((ns=[]/\v=dv)\/∃M t,v=.int M t/\M∈ns/\∀a,a∈ns->a<=M)->Q v { s with heap:=h',toks:=tk }) :
  wpAny (model prog w) A (call (.builtin "max") [.ref l] [(Str.ofString "default",dv)]) Q E s:=by
 obtain ⟨xs,e⟩:=hi.allInts.items
 have en:ns=xs.toList.map (·.1):=by rw [<-hi.numsOf,<-nums_intItems,<-e]
 have el:ns.length=xs.size:=by rw [en,List.length_map,Array.length_toList]
 rw [e] at hl
 refine zoh (iter_intList hl fun s₂ e st bd lI=>?_)
 subst e
 refine ⟨_,_,_,_,_,_,_,rfl,Walks.list (A:=A.in1) hh _ l lI (intItems xs),st,bd,CmpOf.ints_gt (numAt xs) (fun _ _=>intItems_at),fun v h' tk pv kp=>?_⟩
 have kp':=old_kept kp
 refine h v h' tk (F.grownK kp') (N.grown kp') ?_
 rcases pv with ⟨n0,pv⟩ | ⟨n0,rfl⟩
 . right
   have n0':0<xs.size:=by simpa [intItems] using n0
   have pv':(intItems xs)[argBest (fun i j=>decide (numAt xs i > numAt xs j)) (xs.size - 1)]?=some v:=by simpa [intItems] using pv
   obtain ⟨t,rfl⟩:=intItems_at pv'
   obtain ⟨h1,h2⟩:=argBest_gt (numAt xs) (xs.size - 1)
   refine ⟨_,t,rfl,?_,fun a ha=>?_⟩
   . rw [en,numAt_eq];exact z9d (by rw [List.length_map,Array.length_toList];omega)
   . rw [en] at ha
     obtain ⟨j,hj,rfl⟩:=mem_getD ha
     rw [List.length_map,Array.length_toList] at hj
     rw [<-numAt_eq];exact h2 j (by omega)
 . left
   have:xs.size=0:=by simpa [intItems] using n0
   exact ⟨List.length_eq_zero_iff.mp (by omega),rfl⟩
end
noncomputable def mxD (d:Int):List Int->Int
 | []=>d
 | n::ns=>zlp n ns
noncomputable def zel:List D->Option D
 | [.lst ds,.int d]=>(z1y ds).map fun ns=>.int (mxD d ns)
 | _=>none
def zoj:List V->Hp->VK->Prop:=fun xs H Q=>∃p ns d,xs=[.ref p,.int d]/\H p=some (.lst (ns.map V.int))/\Q (.int (mxD d ns)) H
theorem TEd.mono' {K:Frag} {EX:XW} {fr:Bool} {f:DE->R D} {σ:St} {H:Hp} {Q Q':VK} (h:TEd K EX fr f σ H Q) (hq:∀v H',Q v H'->Q' v H'):TEd K EX fr f σ H Q':=by
 obtain ⟨sx,ρ,H0,s,e,h⟩:=h
 exact ⟨sx,ρ,H0,s,e,h.mono fun a k v H' o=>hq _ _ (k v H' o)⟩
section
variable {X:Cx} {EX:XW} {e d:Expr} {p kp pos:Pos} {x:Str} {t1 t2:TE} {f1 f2:DE->R D}
theorem zok (hc:X.calm=true) (hg:Gl X x) (hm:X.mg x=none) (hv:bootBuiltins x=some (.builtin "max")) (ha:PE X e t1) (hd:PE X d t2) (hn:x≠"__name__":=by decide) (hdb:(x==("__debug__":Str))=false:=by decide)
  (hs:starEach [e] X.env=(false,eval e X.env)::starEach [] X.env:=by rfl) :
  PE X (.Call (.Name x p) [e] [⟨some (Str.ofString "default"),d,kp⟩] pos) (tCB zoj (z8l t1 (z8l t2 zqj))):=by
 intro pins s σ H Q I h
 refine wpAny_Call_Name_kw (z4a I hg hm hv ?_ hn hdb)
 refine callWith_kw ?_ (by rw [hs];rfl) (by rw [hs];rfl)
 refine thn (z2z ha pa_nil hs pos pins s σ H (fun vs H1=>t2 σ H1 fun u H2=>zoj (vs++[u]) H2 Q) I h) fun us s1 ⟨vs,H1,I1,r1,q1⟩=>?_
 refine kws_cons (thn (hd pins s1 σ H1 _ I1 q1) fun u s2 ⟨y,H2,I2,r2,q2⟩=>kws_nil ?_)
 obtain ⟨a,ns,i,e1,ea,q⟩:=q2
 obtain ⟨rfl,rfl⟩:vs=[.ref a]/\y=.int i:=by
  cases vs with
  | nil=>cases e1
  | cons b r=>
   cases r with
   | nil=>cases e1;exact ⟨rfl,rfl⟩
   | cons c r=>cases r<;>cases e1
 obtain ⟨u1,rfl,ru⟩:=z63 r1
 cases ru
 obtain ⟨t,rfl⟩:=r2
 obtain ⟨its,rv,pl,_⟩:=I2.list (.of ea)
 obtain ⟨m,hnn,_⟩:=id I2.loc
 refine zoi (I2.ok.hd hc) (Att.fr_all hnn) (z6c (g:=Att.noObjs s2.heap) (L:=X.env.locals)) pl.isList (z80 rv) fun v h' tk F N hM=>?_
 rcases hM with ⟨rfl,rfl⟩ | ⟨M,t,rfl,hM,hle⟩
 . exact ⟨.int i,H2,I2.frn hnn F N,⟨_,rfl⟩,q⟩
 . cases ns with
   | nil=>cases hM
   | cons n ns=>
    obtain ⟨a1,a2⟩:=zcb ns n
    have e:M=zlp n ns:=Int.le_antisymm (a2 M hM) (hle _ a1)
    exact ⟨.int M,H2,I2.frn hnn F N,⟨t,rfl⟩,by rw [e];exact q⟩
theorem zol {K:Frag}:z7r K false zel zoj:=by
 intro H0 H xs ds z Q s r ho k
 unfold zel at ho
 split at ho<;>first | cases ho | skip
 rename_i es i
 cases hq:z1y es with
 | none=>rw [hq] at ho;cases ho
 | some ns=>
  rw [hq] at ho
  cases ho
  simp only [RDs] at r
  obtain ⟨x1,r1,rfl,q1,x2,r2,rfl,q2,rfl⟩:=r
  obtain ⟨a,ys,rfl,ha,ra⟩:=q1.lst
  have e:=z4i hq ra
  subst e
  cases q2.int
  exact ⟨a,ns,i,rfl,s _ _ ha,k _ H (.pure s (.mkInt _))⟩
theorem zt8 (hc:X.calm=true) (hg:Gl X x) (hm:X.mg x=none) (hv:bootBuiltins x=some (.builtin "max")) (ha:QE X EX false e f1) (hd:QE X EX false d f2) (hn:x≠"__name__":=by decide) (hdb:(x==("__debug__":Str))=false:=by decide)
  (hs:starEach [e] X.env=(false,eval e X.env)::starEach [] X.env:=by rfl) :
  QE X EX false (.Call (.Name x p) [e] [⟨some (Str.ofString "default"),d,kp⟩] pos) (eCB zel (z01 f1 (z01 f2 z0e))):=
 ⟨(zok hc hg hm hv ha.h hd.h hn hdb hs).imp fun _ _ _ q=>(zfy (zxc zol q)).mono' fun _ _ q=>(zfy q).mono' fun _ _ q=>zrz q⟩
end
noncomputable def SR.thn (r:SR) (g:DS->SR):SR:=match r with
 | .nx ρ'=>g ρ'
 | r=>r
noncomputable def SR.out (fr:Bool) (r:SR):R D:=match r with
 | .rt d=>.ok d
 | .nx _=>if fr=true then .st else .ok .non
 | .er x=>.er x
 | _=>.st
theorem zlq (g1 g2:DS->SR) (ρ:DS):z1h g1 g2 ρ=(g1 ρ).thn g2:=rfl
theorem zlr (ρ:DS) (g:DS->SR):(SR.nx ρ).thn g=g ρ:=rfl
theorem zt9 (d:D) (g:DS->SR):(SR.rt d).thn g=.rt d:=rfl
theorem zta (x:Ex) (g:DS->SR):(SR.er x).thn g=.er x:=rfl
theorem ztb (ρ:DS) (g:DS->SR):(SR.bk ρ).thn g=.bk ρ:=rfl
theorem ztc (ρ:DS) (g:DS->SR):(SR.ct ρ).thn g=.ct ρ:=rfl
theorem ztd (g:DS->SR):(SR.st).thn g=.st:=rfl
theorem zom (c:Prop) [Decidable c] (a b:SR) (g:DS->SR):(if c then a else b).thn g=if c then a.thn g else b.thn g:=by split<;>rfl
theorem zcc (fr:Bool) (n k:Nat) (g:DS->SR) (ds:List D):mOf fr n k g ds=if ds.length=n then (g (ds.map .im++List.replicate k .em)).out fr else .st:=rfl
theorem zte (fr:Bool) (d:D):(SR.rt d).out fr=.ok d:=rfl
theorem ztf (ρ:DS):(SR.nx ρ).out false=.ok .non:=rfl
theorem ztg (fr:Bool) (x:Ex):(SR.er x).out fr=.er x:=rfl
theorem zth (fr:Bool):(SR.st).out fr=.st:=rfl
theorem zon (fr:Bool) (c:Prop) [Decidable c] (a b:SR):(if c then a else b).out fr=if c then a.out fr else b.out fr:=by split<;>rfl
theorem zls (m:List Bool) (f:DE->R D) (ρ:DS):z6e m f ρ=(f (vis m ρ)).toS fun d=>.rt d:=rfl
theorem zlt (fr:Bool) (i:Nat) (m:List Bool) (f:DE->R D) (ρ:DS):z30 fr i m f ρ=(f (vis m ρ)).toS fun d=>.nx (zj2 fr i d (z65 (keeps fr d) m ρ)):=rfl
theorem zyf (t:DE->R Bool) (g1 g2:DS->SR) (ρ:DS):sIf t g1 g2 ρ=(t (see ρ)).toS fun b=>if b=true then g1 ρ else g2 ρ:=rfl
theorem z5p {α:Type} (a:α) (k:α->SR):R.toS (.ok a) k=k a:=rfl
theorem zti {α:Type} (x:Ex) (k:α->SR):R.toS (.er x:R α) k=.er x:=rfl
theorem ztj {α:Type} (k:α->SR):R.toS (.st:R α) k=.st:=rfl
theorem zoo {α:Type} (c:Prop) [Decidable c] (a b:R α) (k:α->SR):R.toS (if c then a else b) k=if c then R.toS a k else R.toS b k:=by split<;>rfl
theorem zop {α β:Type} (x:Ex) (k:α->R β):R.bind (.er x:R α) k=.er x:=rfl
theorem zdo {α:Type} (a:α):(R.ok a).noE=.ok a:=rfl
theorem zyg (m:List Bool):vis m []=[]:=by cases m<;>rfl
theorem zyh (s:Sl) (r:DS):vis [] (s::r)=s.see false::vis [] r:=rfl
theorem zyi (b:Bool) (m:List Bool) (s:Sl) (r:DS):vis (b::m) (s::r)=s.see b::vis m r:=rfl
theorem zjk:see []=[]:=rfl
theorem zjl (s:Sl) (r:DS):see (s::r)=s.see true::see r:=rfl
theorem ztk (b:Bool):Sl.see b .em=none:=rfl
theorem zdp (b:Bool) (d:D):Sl.see b (.im d)=some d:=rfl
theorem z9h (d:D):Sl.see true (.ow d)=some d:=rfl
theorem zoq (d:D):Sl.see false (.ow d)=none:=rfl
theorem ztl (m:List Bool) (ρ:DS):z65 true m ρ=ρ:=rfl
theorem zjm (fr:Bool) (i:Int):keeps fr (.int i)=true:=by cases fr<;>rfl
theorem zor (fr:Bool) (i:Bool):keeps fr (.bl i)=true:=by cases fr<;>rfl
theorem zjn (fr:Bool):keeps fr .non=true:=by cases fr<;>rfl
theorem zjo (fr:Bool) (x:PySem.Str):keeps fr (.str x)=true:=by cases fr<;>rfl
theorem zjp (fr:Bool) (ds:List D):keeps fr (.tup ds)=z3s ds:=by cases fr<;>simp only [keeps,D.noL,D.shal,if_true,Bool.false_eq_true,if_false]
theorem z6f (ds:List D):keeps true (.lst ds)=z3s ds:=rfl
theorem ztm:z3s []=true:=by simp only [z3s]
theorem zlu (d:D) (r:List D):z3s (d::r)=(d.noL&&z3s r):=by simp only [z3s]
theorem zcd (i:Int):(D.int i).noL=true:=by simp only [D.noL]
theorem ztn (i:Bool):(D.bl i).noL=true:=by simp only [D.noL]
theorem zos (i:PySem.Str):(D.str i).noL=true:=by simp only [D.noL]
theorem zot:(D.non).noL=true:=by simp only [D.noL]
theorem zou (ds:List D):(D.tup ds).noL=z3s ds:=by simp only [D.noL]
theorem zov (ds:List D):(D.lst ds).noL=false:=by simp only [D.noL]
theorem zyj (i:Nat) (d:D) (ρ:DS):zj2 false i d ρ=ρ.set i (.im d):=rfl
theorem zyk (i:Nat) (d:D) (ρ:DS):zj2 true i d ρ=ρ.set i (.ow d):=rfl
theorem zyl (ρ:DE):sel [] ρ=[]:=rfl
theorem zym (j:Nat) (r:List Nat) (ρ:DE):sel (j::r) ρ=(ρ[j]?).getD none::sel r ρ:=rfl
theorem y1o (d:D) (r:DE):z04 0 (some d::r)=.ok d:=rfl
theorem y1p (i:Nat) (d:Option D) (r:DE):z04 (i+1) (d::r)=z04 i r:=rfl
theorem zyn (g:Int->Int->D) (i j:Int):dI g (.int i) (.int j)=some (g i j):=rfl
theorem zdq (C:Int->Int->Prop) [∀i j,Decidable (C i j)] (g:Int->Int->D) (i j:Int):dIC C g (.int i) (.int j)=if C i j then some (g i j) else none:=rfl
theorem zyo (b:Bool):asB (.bl b)=some b:=rfl
theorem zlv (b:Bool):zbg (.bl b)=some b:=rfl
theorem zto (ds:List D):zbg (.lst ds)=some (!ds.isEmpty):=rfl
theorem ztp (i:Int):zbg (.int i)=some (i != 0):=rfl
theorem z78 (i j:Int):(i==j)=decide (i=j):=by rw [Bool.eq_iff_iff];simp
theorem ztq (i j:Int):dEq (.int i) (.int j)=some (.bl (decide (i=j))):=by
 unfold dEq
 rw [if_pos (by simp [D.pl,D.dep])]
 simp only [eqD,z78]
theorem ztr (i j:Int):dNe (.int i) (.int j)=some (.bl (!decide (i=j))):=by
 unfold dNe
 rw [if_pos (by simp [D.pl,D.dep])]
 simp only [eqD,z78]
theorem zts (i j:Bool):dEq (.bl i) (.bl j)=some (.bl (i==j)):=by
 unfold dEq
 rw [if_pos (by simp [D.pl,D.dep])]
 simp only [eqD]
theorem ztt (a b c e:Int):dEq (.tup [.int a,.int b]) (.tup [.int c,.int e])=some (.bl (decide (a=c)&&decide (b=e))):=by
 unfold dEq
 rw [if_pos (by simp [D.pl,D.dep,pls,z40])]
 simp only [eqD,z6d,z78,Bool.and_true]
theorem ztu (a b c e:Int):dNe (.tup [.int a,.int b]) (.tup [.int c,.int e])=some (.bl (!(decide (a=c)&&decide (b=e)))):=by
 unfold dNe
 rw [if_pos (by simp [D.pl,D.dep,pls,z40])]
 simp only [eqD,z6d,z78,Bool.and_true]
theorem zh3 (a:D) (r:List D):dIx (.tup (a::r)) (.int 0)=some a:=by simp only [dIx,dOr,z93,y0c]
theorem zlw (a b:D) (r:List D):dIx (.tup (a::b::r)) (.int 1)=some b:=by simp only [dIx,dOr,z93,y0d]
theorem ztv (a b c:D) (r:List D):dIx (.tup (a::b::c::r)) (.int 2)=some c:=by simp only [dIx,dOr,z93,show atI (a::b::c::r) 2=some c from z8n (j:=2) rfl]
theorem ztw (a:D) (r:List D):dIx (.lst (a::r)) (.int 0)=some a:=by simp only [dIx,dOr,z93,y0c]
theorem ztx (a b:D) (r:List D):dIx (.lst (a::b::r)) (.int 1)=some b:=by simp only [dIx,dOr,z93,y0d]
theorem zty {ds:List D} {j:Nat} {d:D} (h:ds[j]?=some d):dIx (.lst ds) (.int (j:Int))=some d:=by simp only [dIx,dOr,z93,z8n h]
theorem ztz (ns:List Int):zeg [.scr ns]=some (.int ns.length):=rfl
theorem zlx (ns:List D):zeg [.lst ns]=some (.int ns.length):=rfl
theorem zu0 (ns:List D):zeg [.tup ns]=some (.int ns.length):=rfl
theorem zyp (b c:Bool):(if b=true then R.ok true else R.ok c)=R.ok (b||c):=by cases b<;>rfl
theorem zu1 (b c:Bool):(if b=true then R.ok c else R.ok false)=R.ok (b&&c):=by cases b<;>rfl
theorem zu2 (b c:Bool):(if b=true then R.ok (D.bl true) else R.ok (D.bl c))=R.ok (D.bl (b||c)):=by cases b<;>rfl
theorem zow (b c:Bool):(if b=true then R.ok (D.bl c) else R.ok (D.bl false))=R.ok (D.bl (b&&c)):=by cases b<;>rfl
theorem zu3 (i:Int):z57 "int" (.int i)=some (.bl true):=by simp [z57,z2v,z3o,zbf]
theorem zu4 (i:Int):z57 "bool" (.int i)=some (.bl false):=by simp [z57,z2v,z3o,zbf]
theorem zu5 (i:Bool):z57 "bool" (.bl i)=some (.bl true):=by simp [z57,z2v,z3o,zbf]
theorem zh4 (ds:List D):z57 "tuple" (.tup ds)=some (.bl true):=by simp [z57,z2v,z3o,zbf]
theorem zly (ds:List D):z57 "list" (.lst ds)=some (.bl true):=by simp [z57,z2v,z3o,zbf]
theorem zu6 (tg:Tg) (g:DS->SR) (ρ:DS):zd5 tg g [] ρ=.nx ρ:=rfl
noncomputable def SR.itr (r:SR) (k:DS->SR):SR:=match r with
 | .nx ρ2=>k ρ2
 | .ct ρ2=>k ρ2
 | .bk ρ2=>.nx ρ2
 | .rt d=>.rt d
 | .er x=>.er x
 | .st=>.st
theorem zh5 (ρ:DS) (k:DS->SR):(SR.nx ρ).itr k=k ρ:=rfl
theorem zu7 (ρ:DS) (k:DS->SR):(SR.ct ρ).itr k=k ρ:=rfl
theorem zu8 (ρ:DS) (k:DS->SR):(SR.bk ρ).itr k=.nx ρ:=rfl
theorem zu9 (d:D) (k:DS->SR):(SR.rt d).itr k=.rt d:=rfl
theorem zox (c:Prop) [Decidable c] (a b:SR) (g:DS->SR):(if c then a else b).itr g=if c then a.itr g else b.itr g:=by split<;>rfl
theorem zoy (bn:D->Option (List D)) (t:DE->R Bool) (f:DE->R D) (cs:DE):z66 bn t f cs []=.ok []:=rfl
theorem zoz (f:DE->R D) (cs:DE) (d:D) (ds:List D):z66 b1 zle f cs (d::ds)=(f (some d::cs)).noE.bind fun y=>(z66 b1 zle f cs ds).bind fun ys=>.ok (y::ys):=rfl
theorem z79 {bn:D->Option (List D)} {f:DE->R D} {cs:DE} {α:Type} {en:α->D} {bs:α->List D} {g:α->D} (xs:List α) (hb:∀x∈xs,bn (en x)=some (bs x)) (hf:∀x∈xs,f ((bs x).map some++cs)=.ok (g x)):z66 bn zle f cs (xs.map en)=.ok (xs.map g):=by
 induction xs with
 | nil=>rfl
 | cons x xs ih=>
  simp only [List.map_cons,z66,hb x (by simp),zle,R.of_some,R.bind_ok,zdo,if_true,hf x (by simp),ih (fun y hy=>hb y (by simp [hy])) (fun y hy=>hf y (by simp [hy]))]
theorem z4m {bn:D->Option (List D)} {t:DE->R Bool} {f:DE->R D} {cs:DE} {α:Type} {en:α->D} {bs:α->List D} {p:α->Bool} {g:α->D} (xs:List α) (hb:∀x∈xs,bn (en x)=some (bs x)) (ht:∀x∈xs,t ((bs x).map some++cs)=.ok (p x)) (hf:∀x∈xs,p x=true->f ((bs x).map some++cs)=.ok (g x)):z66 bn t f cs (xs.map en)=.ok ((xs.filter p).map g):=by
 induction xs with
 | nil=>rfl
 | cons x xs ih=>
  have ih':=ih (fun y hy=>hb y (by simp [hy])) (fun y hy=>ht y (by simp [hy])) (fun y hy=>hf y (by simp [hy]))
  simp only [List.map_cons,z66,hb x (by simp),ht x (by simp),R.of_some,R.bind_ok,zdo,ih']
  cases e:p x with
  | true=>simp only [if_true,hf x (by simp) e,zdo,R.bind_ok,List.filter_cons,e,List.map_cons]
  | false=>simp only [Bool.false_eq_true,if_false,List.filter_cons,e]
theorem z3i {tg:Tg} {g:DS->SR} {α:Type} {en:α->D} (P:List α->DS->Prop) (xs:List α) (ρ:DS) (h0:P xs ρ) (hs:∀x r ρ,P (x::r) ρ->∃ρ1 ρ2,zl6 tg (en x) ρ=some ρ1/\(g ρ1=.nx ρ2\/g ρ1=.ct ρ2)/\P r ρ2):∃ρ',zd5 tg g (xs.map en) ρ=.nx ρ'/\P [] ρ':=by
 induction xs generalizing ρ with
 | nil=>exact ⟨ρ,rfl,h0⟩
 | cons x r ih=>
  obtain ⟨ρ1,ρ2,e1,e2,q⟩:=hs x r ρ h0
  obtain ⟨ρ',e',p'⟩:=ih ρ2 q
  refine ⟨ρ',?_,p'⟩
  rcases e2 with e2 | e2<;>simp only [List.map_cons,zd5,e1,e2,e']
noncomputable def L (ns:List Int):D:=.lst (ns.map .int)
theorem z2q {α:Type} (f:α->D) (xs:List α) (h:∀x∈xs,(f x).noL=true):z3s (xs.map f)=true:=by
 induction xs with
 | nil=>simp only [List.map_nil,z3s]
 | cons a r ih=>simp only [List.map_cons,z3s,h a (by simp),ih fun x hx=>h x (by simp [hx]),Bool.and_self]
theorem zua (ns:List Int):keeps true (L ns)=true:=by
 unfold L;rw [z6f];exact z2q _ _ fun x _=>zcd x
theorem zyq (ns:List Int):zeg [L ns]=some (.int ns.length):=by unfold L;rw [zlx,List.length_map]
theorem zub (ns:List Int):zeh [L ns]=some (L ns):=rfl
theorem zyr (ns:List Int):z57 "list" (L ns)=some (.bl true):=zly _
theorem zp0 (ns:List Int):items (L ns)=some (ns.map .int):=rfl
theorem zuc {ns:List Int} {x:Int} (h0:0<=x) (h1:x.toNat<ns.length):dIx (L ns) (.int x)=some (.int (ns.getD x.toNat 0)):=by
 have e:(ns.map D.int)[x.toNat]?=some (.int (ns.getD x.toNat 0)):=by
  rw [List.getElem?_map,List.getElem?_eq_getElem h1,List.getD_eq_getElem?_getD,List.getElem?_eq_getElem h1];rfl
 have:=zty e
 rwa [show ((x.toNat:Nat):Int)=x by omega] at this
theorem y0n {ns:List Int} {k:Nat} (h1:k<ns.length):dIx (L ns) (.int (k:Int))=some (.int (ns.getD k 0)):=zuc (x:=(k:Int)) (by omega) (by simpa using h1)
theorem zys {ns:List Int} {x:Int} (h:ns.length<100000):zlf (L ns) [.int x]=some (L (ns++[x])):=by
 simp only [L,zlf,List.length_map,h,if_true,List.map_append,List.map_cons,List.map_nil]
theorem zud {n:Nat} {x:Int} (h0:0<=x) (h1:x<n):ixN n x=some x.toNat:=by
 unfold ixN;rw [if_pos h0,if_pos h1]
theorem map_set {α β:Type} (f:α->β) (xs:List α) (j:Nat) (a:α):(xs.map f).set j (f a)=(xs.set j a).map f:=by
 rw [List.map_set]
theorem zp1 {ns:List Int} {x y:Int} (h0:0<=x) (h1:x<ns.length):zez (L ns) (.int x) (.int y)=some (L (ns.set x.toNat y)):=by
 simp only [L,zez,List.length_map,zud h0 h1,Option.map_some,map_set]
theorem zyt {ns:List Int} {x y:Int} (h0:0<=x) (h1:x<=ns.length) (h:ns.length<100000):zt0 (L ns) [.int x,.int y]=some (L (ns.take x.toNat++y::ns.drop x.toNat)):=by
 simp only [L,zt0,List.length_map]
 rw [if_pos (by refine ⟨by omega,?_,h⟩;have:ns.length<2 ^ 63:=(by omega);omega)]
 congr 2
 simp only [z4l,zsz,List.length_map,if_neg (show ¬x<0 by omega),List.map_append,List.map_take,List.map_cons,List.map_drop]
 rw [Nat.min_eq_left (by omega)]
theorem y1q (ns:List Int) (lo hi:Option Int):dSl (L ns) lo hi=some (L (zc8 ns lo hi)):=by
 simp only [L,dSl,zc8,List.length_map,List.map_take,List.map_drop]
theorem zue (ns:List Int) (lo hi:Option Int):dSl (.scr ns) lo hi=some (L (zc8 ns lo hi)):=rfl
theorem zyu (ns:List Int):zqt [L ns]=some (.int ns.sum):=by simp only [L,zqt,z29,Option.map_some]
theorem zem (ns:List Int):(L ns).dep<=1/\(L ns).pl=true:=by
 have:∀ns:List Int,z40 (ns.map D.int)=0/\pls (ns.map D.int)=true:=fun ns=>by
  induction ns with
  | nil=>simp only [List.map_nil,z40,pls,and_self]
  | cons a r ih=>simp only [List.map_cons,z40,pls,D.dep,D.pl,ih.1,ih.2,Bool.and_self,Nat.max_self,and_self]
 simp only [L,D.dep,D.pl,this];exact ⟨by omega,trivial⟩
theorem zh6:∀(a b:List Int),z6d (a.map D.int) (b.map D.int)=decide (a=b)
 | [],[]=>by simp [z6d]
 | [],_::_=>by simp [z6d]
 | _::_,[]=>by simp [z6d]
 | x::a,y::b=>by
  simp only [List.map_cons,z6d,eqD,zh6 a b,List.cons.injEq,Bool.decide_and,z78]
theorem y1r (a b:List Int):dEq (L a) (L b)=some (.bl (decide (a=b))):=by
 unfold dEq
 rw [if_pos ⟨(zem a).2,(zem b).2,by have:=(zem a).1;omega⟩]
 simp only [L,eqD,zh6]
theorem y1s (a b:List Int):dNe (L a) (L b)=some (.bl (!decide (a=b))):=by
 unfold dNe
 rw [if_pos ⟨(zem a).2,(zem b).2,by have:=(zem a).1;omega⟩]
 simp only [L,eqD,zh6]
theorem z9i {tg:Tg} {g:DS->SR} (n:Nat) (en:Nat->D) (P:Nat->DS->Prop) (ρ:DS) (h0:P 0 ρ)
  (hs:∀i,i<n->∀ρ,P i ρ->∃ρ1 ρ2,zl6 tg (en i) ρ=some ρ1/\(g ρ1=.nx ρ2\/g ρ1=.ct ρ2)/\P (i+1) ρ2) :
  ∃ρ',zd5 tg g ((List.range n).map en) ρ=.nx ρ'/\P n ρ':=by
 have key:∀k s ρ,s+k=n->P s ρ->∃ρ',zd5 tg g ((List.range' s k).map en) ρ=.nx ρ'/\P n ρ':=by
  intro k
  induction k with
  | zero=>intro s ρ e h;exact ⟨ρ,rfl,by rwa [<-e]⟩
  | succ k ih=>
   intro s ρ e h
   obtain ⟨ρ1,ρ2,e1,e2,q⟩:=hs s (by omega) ρ h
   obtain ⟨ρ',e',p'⟩:=ih (s+1) ρ2 (by omega) q
   refine ⟨ρ',?_,p'⟩
   rw [List.range'_succ,List.map_cons]
   rcases e2 with e2 | e2<;>simp only [zd5,e1,e2,e']
 rw [List.range_eq_range']
 exact key n 0 ρ (by omega) h0
theorem zjq (n:Nat) (g:Nat->D):((zD 0 ((List.range n).map g).length).zip ((List.range n).map g)).map (fun p=>D.tup [p.1,p.2])=(List.range n).map fun (i:Nat)=>D.tup [.int (i:Int),g i]:=by
 simp only [zD,List.length_map,List.length_range]
 have:∀(l:List Nat),((l.map fun (i:Nat)=>D.int (0+i)).zip (l.map g)).map (fun p=>D.tup [p.1,p.2])=l.map fun (i:Nat)=>D.tup [.int (i:Int),g i]:=fun l=>by
  induction l with
  | nil=>rfl
  | cons a r ih=>simp only [Int.zero_add] at ih ⊢;simp only [List.map_cons,List.zip_cons_cons,ih]
 exact this _
theorem zlz {α:Type} (xs:List α) (d:α):xs=(List.range xs.length).map fun i=>xs.getD i d:=by
 apply List.ext_getElem?
 intro i
 by_cases h:i<xs.length
 . rw [List.getElem?_map,List.getElem?_range h,Option.map_some,List.getD_eq_getElem?_getD,List.getElem?_eq_getElem h];rfl
 . rw [List.getElem?_eq_none (by omega),List.getElem?_eq_none (by simp;omega)]
theorem zyv (ns:List Int):isT "list" (L ns)=true:=by simp only [L,isT,beq_self_eq_true]
theorem zuf (m:List Bool) (ρ:DS):z65 false m ρ=frz m ρ:=rfl
theorem zyw (ρ:DS):frz [] ρ=ρ:=by cases ρ<;>rfl
theorem zyx (m:List Bool):frz m []=[]:=by cases m<;>rfl
theorem zyy (b:Bool) (m:List Bool) (s:Sl) (r:DS):frz (b::m) (s::r)=s.frz b::frz m r:=rfl
theorem zug (b:Bool) (d:D):Sl.frz b (.im d)=.im d:=rfl
theorem zuh (b:Bool):Sl.frz b .em=.em:=rfl
theorem zp2 (d:D):Sl.frz false (.ow d)=.ow d:=rfl
theorem zp3 (d:D):Sl.frz true (.ow d)=.im d:=rfl
theorem zyz {i j:Int} (h:-(2 ^ 64)<j/\j<2 ^ 64):zwc (.int i) (.int j)=some (.int (i * j)):=by
 unfold zwc;rw [zdq,if_pos (show CMul i j from Or.inr h)]
theorem z4n {i j:Int} (h:0<j):zak (.int i) (.int j)=some (.int (i % j)):=by
 unfold zak;rw [zdq,if_pos h]
theorem zp4 {i j:Int} (h:0<j/\j<1073741824):zqp (.int i) (.int j)=some (.int (i / j)):=by
 unfold zqp;rw [zdq,if_pos (show zmy i j from h)]
theorem zui (i:Int):R.of (match D.int i with | .int i=>some (some i) | _=>none)=R.ok (some i):=rfl
theorem zp5 {j:Int} (hj:-100000<=j/\j<=100000):-(2 ^ 62)<=j/\j<2 ^ 62:=by omega
theorem zz0 {fs:DE->R (List D)} {ρ:DE} (j:Int) (hj:-100000<=j/\j<=100000) (h:fs ρ=.ok [.int j]):zsr fs ρ=.ok (zD 0 j.toNat):=by
 unfold zsr;rw [h,R.bind_ok]
 show R.of (if _ then _ else _)=_
 rw [if_pos (zp5 hj)];rfl
theorem zp6 (ds:List D):items (.lst ds)=some ds:=rfl
theorem zp7 (ds:List D):items (.tup ds)=some ds:=rfl
theorem zav (ds:List D):keeps false (.lst ds)=false:=by simp only [keeps,D.noL,Bool.false_eq_true,if_false]
theorem zp8 (ns:List Int):keeps false (L ns)=false:=zav _
noncomputable def T2 (p:Int×Int):D:=.tup [.int p.1,.int p.2]
noncomputable def T3 (p:Int×Int×Int):D:=.tup [.int p.1,.int p.2.1,.int p.2.2]
theorem z7a {l l':List D} (h:ois l'=true) (p:l.Perm l'):z1w l=z1w l':=
 z3h (z4j ((z0j l).trans p) h) (((z0j l).trans p).trans (z0j l').symm) (z1r (z4j p h)) (z1r h)
noncomputable def zm0 {α:Type} (lt:α->α->Bool) (d:α):List α->List α
 | []=>[d]
 | e::r=>if lt e d=true then e::zm0 lt d r else d::e::r
noncomputable def z7t {α:Type} (lt:α->α->Bool):List α->List α
 | []=>[]
 | d::r=>zm0 lt d (z7t lt r)
section
variable {α:Type} (f:α->D)
theorem zdr (d:α):∀l:List α,zje (f d) (l.map f)=(zm0 (fun a b=>ltT (f a) (f b)) d l).map f
 | []=>rfl
 | e::r=>by
  simp only [List.map_cons,zje,zm0]
  split
  . rw [List.map_cons,zdr d r]
  . rfl
theorem z4o:∀l:List α,z1w (l.map f)=(z7t (fun a b=>ltT (f a) (f b)) l).map f
 | []=>rfl
 | d::r=>by simp only [List.map_cons,z1w,z7t,z4o r,zdr]
variable (lt:α->α->Bool)
theorem zaw (d:α):∀l:List α,(zm0 lt d l).Perm (d::l)
 | []=>.refl _
 | e::r=>by
  unfold zm0
  split
  . exact ((zaw d r).cons e).trans (.swap d e r)
  . exact .refl _
theorem z3j:∀l:List α,(z7t lt l).Perm l
 | []=>.refl _
 | d::r=>(zaw lt d (z7t lt r)).trans ((z3j r).cons d)
end
noncomputable def so2 (ls:List (Int×Int)):List (Int×Int):=z7t (fun a b=>ltT (T2 a) (T2 b)) ls
noncomputable def so3 (ls:List (Int×Int×Int)):List (Int×Int×Int):=z7t (fun a b=>ltT (T3 a) (T3 b)) ls
noncomputable def soI (ls:List Int):List Int:=z7t (fun a b=>ltT (.int a) (.int b)) ls
theorem z9j (ls:List (Int×Int)):z1w (ls.map T2)=(so2 ls).map T2:=z4o _ _
theorem z7b (ls:List (Int×Int×Int)):z1w (ls.map T3)=(so3 ls).map T3:=z4o _ _
theorem zh7 (ls:List Int):z1w (ls.map D.int)=(soI ls).map D.int:=z4o _ _
theorem z4p (ls:List (Int×Int)):(so2 ls).Perm ls:=z3j _ _
theorem z0x (ls:List (Int×Int×Int)):(so3 ls).Perm ls:=z3j _ _
theorem zjr (ls:List Int):(soI ls).Perm ls:=z3j _ _
theorem z4q {α:Type} (xs:List α) (f:α->D) (p:D->Bool) (h:∀x,p (f x)=true):(xs.map f).all p=true:=by
 rw [List.all_eq_true];intro d hd;obtain ⟨x,_,rfl⟩:=List.mem_map.mp hd;exact h x
theorem z5q {α:Type} (xs:List α) (f:α->D) (h:∀x,(f x).oi=true):ois (xs.map f)=true:=
 ois_mem.mpr fun d hd=>by obtain ⟨x,_,rfl⟩:=List.mem_map.mp hd;exact h x
theorem z9k {α:Type} (xs:List α) (f:α->D) (n:Nat) (h:∀x,(f x).dep<=n):z40 (xs.map f)<=n:=by
 induction xs with
 | nil=>simp only [List.map_nil,z40,Nat.zero_le]
 | cons a r ih=>simp only [List.map_cons,z40];have:=h a;omega
theorem zuj {α:Type} (xs:List α) (f:α->D) (h:∀x,(f x).pl=true):pls (xs.map f)=true:=by
 induction xs with
 | nil=>simp only [List.map_nil,pls]
 | cons a r ih=>simp only [List.map_cons,pls,h a,ih,Bool.and_self]
theorem zp9 (p:Int×Int):(T2 p).oi=true:=by simp [T2,D.oi,ois]
theorem zpa (p:Int×Int×Int):(T3 p).oi=true:=by simp [T3,D.oi,ois]
theorem y0o (p:Int):(D.int p).oi=true:=by simp [D.oi]
theorem zuk (p:Int×Int):(T2 p).dep<=1:=by simp [T2,D.dep,z40]
theorem zul (p:Int×Int×Int):(T3 p).dep<=1:=by simp [T3,D.dep,z40]
theorem zds (p:Int×Int):(T2 p).noL=true:=by simp [T2,D.noL,z3s]
theorem zm1 (p:Int×Int×Int):(T3 p).noL=true:=by simp [T3,D.noL,z3s]
theorem zum (p q:Int×Int):(z1k (T2 p) (T2 q)).isSome=true:=by
 simp only [T2,z1k,z1v];repeat (first | rfl | split)
theorem zun (p q:Int×Int×Int):(z1k (T3 p) (T3 q)).isSome=true:=by
 simp only [T3,z1k,z1v];repeat (first | rfl | split)
theorem zz1 (p q:Int):(z1k (.int p) (.int q)).isSome=true:=by simp only [z1k];rfl
theorem zh8 (ls:List (Int×Int)) (h:ls.length<64):z4k (ls.map T2)=true:=by
 unfold z4k
 rw [List.length_map,decide_eq_true h,z5q _ _ zp9,decide_eq_true (Nat.le_trans (z9k ls T2 1 zuk) (by decide)),z4q ls T2 (fun d=>(ls.map T2).all fun e=>(z1k d e).isSome) (fun x=>z4q _ _ _ fun y=>zum x y),z4q ls T2 zln (fun x=>rfl)]
 simp
theorem zh9 (ls:List (Int×Int×Int)) (h:ls.length<64):z4k (ls.map T3)=true:=by
 unfold z4k
 rw [List.length_map,decide_eq_true h,z5q _ _ zpa,decide_eq_true (Nat.le_trans (z9k ls T3 1 zul) (by decide)),z4q ls T3 (fun d=>(ls.map T3).all fun e=>(z1k d e).isSome) (fun x=>z4q _ _ _ fun y=>zun x y),z4q ls T3 zln (fun x=>rfl)]
 simp
theorem zjs (ls:List Int) (h:ls.length<64):z4k (ls.map D.int)=true:=by
 unfold z4k
 rw [List.length_map,decide_eq_true h,z5q _ _ y0o,decide_eq_true (Nat.le_trans (z9k ls D.int 1 (fun x=>by simp [D.dep])) (by decide)),z4q ls D.int (fun d=>(ls.map D.int).all fun e=>(z1k d e).isSome) (fun x=>z4q _ _ _ fun y=>zz1 x y),z4q ls D.int isI (fun x=>rfl)]
 simp
theorem zha (ls:List (Int×Int)) (h:ls.length<64):z1s [.lst (ls.map T2)]=some (.lst ((so2 ls).map T2)):=by
 simp only [z1s,zh8 ls h,if_true,z9j]
theorem zhb (ls:List (Int×Int×Int)) (h:ls.length<64):z1s [.lst (ls.map T3)]=some (.lst ((so3 ls).map T3)):=by
 simp only [z1s,zh9 ls h,if_true,z7b]
theorem zjt (ls:List Int) (h:ls.length<64):z1s [L ls]=some (L (soI ls)):=by
 simp only [L,z1s,zjs ls h,if_true,zh7]
theorem zm2 {p q:Int×Int×Int} (h:T3 p=T3 q):p=q:=by
 obtain ⟨a,b,c⟩:=p;obtain ⟨a',b',c'⟩:=q
 simp only [T3,D.tup.injEq,List.cons.injEq,D.int.injEq,and_true] at h
 simp only [Prod.mk.injEq];exact h
theorem zm3 {p q:Int×Int} (h:T2 p=T2 q):p=q:=by
 obtain ⟨a,b⟩:=p;obtain ⟨a',b'⟩:=q
 simp only [T2,D.tup.injEq,List.cons.injEq,D.int.injEq,and_true] at h
 simp only [Prod.mk.injEq];exact h
theorem z3k {α β:Type} {f:α->β} (hf:∀x y,f x=f y->x=y):∀{a b:List α},a.map f=b.map f->a=b
 | [],[],_=>rfl
 | [],_::_,h=>by simp at h
 | _::_,[],h=>by simp at h
 | x::a,y::b,h=>by
  simp only [List.map_cons,List.cons.injEq] at h
  rw [hf _ _ h.1,z3k hf h.2]
theorem z9l {a b:List (Int×Int×Int)} (p:a.Perm b):so3 a=so3 b:=by
 have:=z7a (z5q b T3 zpa) (p.map T3)
 rw [z7b,z7b] at this
 exact z3k (fun _ _=>zm2) this
theorem z9m {a b:List (Int×Int)} (p:a.Perm b):so2 a=so2 b:=by
 have:=z7a (z5q b T2 zp9) (p.map T2)
 rw [z9j,z9j] at this
 exact z3k (fun _ _=>zm3) this
theorem zhc {d m:Int} {ys:List Int} (h1:∀y∈ys,y<=m) (h2:m∈ys\/(ys=[]/\d=m)):mxD d ys=m:=by
 cases ys with
 | nil=>
  rcases h2 with h2 | h2
  . cases h2
  . exact h2.2
 | cons n ns=>
  rcases h2 with h2 | h2
  . obtain ⟨a,b⟩:=zcb ns n
    exact Int.le_antisymm (h1 _ a) (b _ h2)
  . cases h2.1
theorem zz2 (ds:List D):isT "list" (.lst ds)=true:=by simp only [isT,beq_self_eq_true]
theorem zz3 (b:Bool):y0k [.bl b]=some (.int (if b then 1 else 0)):=rfl
theorem zz4 (i:Int):y0k [.int i]=some (.int i):=rfl
theorem zuo (ds:List D):zeh [.tup ds]=some (.lst ds):=rfl
theorem zup (ds:List D):zeh [.lst ds]=some (.lst ds):=rfl
theorem zpb (ds:List D):z87 [.lst ds]=some (.tup ds):=rfl
theorem zpc (ds:List D):z87 [.tup ds]=some (.tup ds):=rfl
theorem zju (ls:List (Int×Int)):z3s (ls.map T2)=true:=z2q _ _ fun x _=>zds x
theorem zjv (ls:List (Int×Int×Int)):z3s (ls.map T3)=true:=z2q _ _ fun x _=>zm1 x
theorem zuq (t:Int×Int×Int):zqt [T3 t]=some (.int (t.1+(t.2.1+(t.2.2+0)))):=by
 simp only [T3,zqt,z1y,Option.map_some,List.sum_cons,List.sum_nil]
theorem zur (t:Int×Int):zqt [T2 t]=some (.int (t.1+(t.2+0))):=by
 simp only [T2,zqt,z1y,Option.map_some,List.sum_cons,List.sum_nil]
theorem zus (t:Int×Int×Int):z57 "tuple" (T3 t)=some (.bl true):=zh4 _
theorem zut (t:Int×Int):z57 "tuple" (T2 t)=some (.bl true):=zh4 _
theorem zuu (t:Int×Int):zeg [T2 t]=some (.int 2):=rfl
theorem zz5 (t:Int×Int):dIx (T2 t) (.int 0)=some (.int t.1):=zh3 _ _
theorem zz6 (t:Int×Int):dIx (T2 t) (.int 1)=some (.int t.2):=zlw _ _ _
theorem zjw (t:Int×Int×Int):items (T3 t)=some [.int t.1,.int t.2.1,.int t.2.2]:=rfl
noncomputable def y0p:D->D->Option D
 | .lst ds,.int k=>match z1y ds with
  | some ns=>if k∈ns/\ns.length<=100000 then some (.int (ns.idxOf k:Int)) else none
  | none=>none
 | _,_=>none
theorem zce:∀{xs:List V} {us:List Value},xs.length=us.length->(∀(i:Nat) x u,xs[i]?=some x->us[i]?=some u->RelV x u)->Vals xs us
 | [],[],_,_=>.nil
 | [],_::_,h,_=>by simp at h
 | _::_,[],h,_=>by simp at h
 | x::xs,u::us,h,k=>.cons (k 0 x u rfl rfl) (zce (by simpa using h) fun i y v a b=>k (i+1) y v (by simpa using a) (by simpa using b))
noncomputable def tLR (ta:TA):TE:=fun σ H Q=>ta σ H fun vs H1=>∃j:Int,vs=[.int j]/\0<=j/\j<=100000/\∀l,H1 l=none->Q (.ref l) (upd H1 l (.lst ((List.range j.toNat).map fun (k:Nat)=>V.int (k:Int))))
section
variable {X:Cx} {σ:St} {H:Hp} {Q:VK}
theorem zax {a:Expr} {ta:TA} {p p' pos pos':Pos} (hc:X.calm=true) (hgl:Gl X "list") (hml:X.mg "list"=none) (hg:Gl X "range") (hm:X.mg "range"=none) (ha:PA X [a] ta) (hs:starEach [a] X.env=[(false,eval a X.env)]:=by rfl)
  (hs2:starEach [.Call (.Name "range" p') [a] [] pos'] X.env=(false,eval (.Call (.Name "range" p') [a] [] pos') X.env)::starEach [] X.env:=by rfl) (hpl:(backTo pos (starEach [] X.env)).any (·.1)=false:=by rfl) :
  PE X (.Call (.Name "list" p) [.Call (.Name "range" p') [a] [] pos'] [] pos) (tLR ta):=by
 intro pins s σ H Q I h
 refine wpAny_Call_Name_kw (z4a I hgl hml boot_list ?_)
 refine PyProof.Rows.callWith_type1 ?_ hs2 hpl
 rw [hs2]
 show wpAny _ _ (spliced ((false,eval (.Call (.Name "range" p') [a] [] pos') X.env)::backTo pos (starEach [] X.env))) _ _ s
 refine Calls.spliced_cons ?_
 refine Call_ (z4a I hg hm boot_range (PyProof.Rows.callWith_type1 (thn (ha pos' pins s σ H _ I h) fun us s1 ⟨vs,H1,I1,r1,q1⟩=>?_) hs rfl))
 obtain ⟨j,e,j0,j1,q⟩:=q1
 subst e
 cases r1 with
 | cons r rr=>
  cases rr
  obtain ⟨t,rfl⟩:=r
  refine call_range_1 ?_
  refine Calls.spliced_nil ?_
  obtain ⟨hp,hhp⟩:∃hp,hp=s1.heap.push { cls:=.type "range",data:=.fields #[.int 0 s1.toks,.int j t,.int 1 (s1.toks+1)] }:=⟨_,rfl⟩
  have I2:Inv X pins σ H1 { s1 with heap:=hp,toks:=s1.toks+1+1 }:=I1.kept fun b o e=>by rw [hhp];exact Heap.get?_push_of_some _ e
  have hr:IsRange hp s1.heap.objs.size 0 j 1 s1.toks t (s1.toks+1):=by rw [hhp];exact IsRange.new ..
  rw [<-hhp]
  refine call_list_range (n:=j.toNat) (I2.ok.hd hc) hr (small_one (by omega) (by omega) (by omega) (by omega)) (by rw [rangeSize_one];split<;>omega) (by omega) fun h' tk acc c' kp hl hit=>?_
  have hz:((List.range j.toNat).map fun (k:Nat)=>V.int (k:Int)).length<=sizeLine:=by rw [List.length_map,List.length_range];exact zla (by omega)
  have rv:Vals ((List.range j.toNat).map fun (k:Nat)=>V.int (k:Int)) acc.toList:=by
   refine zce (by rw [List.length_map,List.length_range,Array.length_toList];exact hit.1.symm) fun i x u hx hu=>?_
   rw [Array.getElem?_toList] at hu
   obtain ⟨t',rfl⟩:=hit.2 i u hu
   rw [List.getElem?_map] at hx
   cases hr:(List.range j.toNat)[i]? with
   | none=>rw [hr] at hx;cases hx
   | some k=>
    rw [hr] at hx
    cases hx
    have:=List.getElem?_range (i:=i) (n:=j.toNat) (by
     apply Classical.byContradiction;intro hn
     rw [List.getElem?_eq_none (by rw [List.length_range];omega)] at hr;cases hr)
    rw [this] at hr;cases hr
    exact ⟨t',by simp⟩
  exact ⟨.ref hp.objs.size,_,I2.laid (t':=tk) kp (Nat.le_refl _) (show ObjOk X.prog X.w _ h' _ (.lst _) from ⟨hz,acc.toList,c',rv,by simpa using hl⟩),rfl,q _ (I2.hok.fresh (Nat.le_refl _))⟩
end
noncomputable def eLR (fs:DE->R (List D)):DE->R D:=fun ρ=>(fs ρ).bind fun ds=>match ds with
 | [.int j]=>if 0<=j/\j<=100000 then .ok (L ((List.range j.toNat).map fun (k:Nat)=>(k:Int))) else .st
 | _=>.st
section
variable {X:Cx} {EX:XW} {σ:St} {H:Hp} {Q:VK}
theorem y1t {K:Frag} {fs:DE->R (List D)} (h:TEd K EX true (eLR fs) σ H Q):tLR (TAd K EX fs) σ H Q:=by
 obtain ⟨sx,ρ,H0,s,e,h⟩:=h
 unfold eLR at h
 rw [Rk.bind] at h
 refine TAd.go sx s e h fun ds h vs H1 H1' s1 e1 r1=>?_
 split at h
 . rename_i j
   split at h
   . rename_i hj
     obtain ⟨x,rfl,q1⟩:=r1.uno
     cases q1.int
     refine ⟨j,rfl,hj.1,hj.2,fun l hl=>h _ _ (Out.after s1 e1 (.new e1.2.1 hl fun H' hH=>?_))⟩
     simp only [OB,L]
     refine ⟨_,hH,?_⟩
     rw [show (List.range j.toNat).map (fun (k:Nat)=>V.int (k:Int))=((List.range j.toNat).map fun (k:Nat)=>(k:Int)).map V.int by rw [List.map_map];rfl]
     exact RDs.ofInts _
   . exact h.elim
 . exact h.elim
theorem y1u {a:Expr} {fs:DE->R (List D)} {p p' pos pos':Pos} (hc:X.calm=true) (hgl:Gl X "list") (hml:X.mg "list"=none) (hg:Gl X "range") (hm:X.mg "range"=none) (ha:QA X EX [a] fs) (hs:starEach [a] X.env=[(false,eval a X.env)]:=by rfl)
 (hs2:starEach [.Call (.Name "range" p') [a] [] pos'] X.env=(false,eval (.Call (.Name "range" p') [a] [] pos') X.env)::starEach [] X.env:=by rfl) (hpl:(backTo pos (starEach [] X.env)).any (·.1)=false:=by rfl) :
 QE X EX true (.Call (.Name "list" p) [.Call (.Name "range" p') [a] [] pos'] [] pos) (eLR fs):=⟨(zax hc hgl hml hg hm ha.h hs hs2 hpl).imp fun _ _ _ q=>y1t q⟩
end
def zuv (i j:Int):Prop:=0<j/\j<2 ^ 200
instance (i j:Int):Decidable (zuv i j):=by unfold zuv;infer_instance
mutual
noncomputable def nkD:D->Option NK
 | .int n=>some (.i n)
 | .tup ds=>(zqv ds).map .t
 | _=>none
noncomputable def zqv:List D->Option (List NK)
 | []=>some []
 | d::ds=>match nkD d,zqv ds with
  | some k,some ks=>some (k::ks)
  | _,_=>none
end
mutual
theorem zm4 {K:Frag} {H:Hp}:∀{d:D} {k:NK} {x:V},nkD d=some k->RD K H d x->NKr H k x
 | .int n,k,x,e,r=>by
  simp only [nkD,Option.some.injEq] at e;subst e
  cases r.int;simp only [NKr]
 | .tup ds,k,x,e,r=>by
  simp only [nkD,Option.map_eq_some_iff] at e
  obtain ⟨ks,e,rfl⟩:=e
  obtain ⟨a,xs,rfl,ha,ra⟩:=r.tup
  simp only [NKr]
  exact ⟨a,xs,rfl,ha,zhd e ra⟩
 | .non,_,_,e,_=>by simp [nkD] at e
 | .bl _,_,_,e,_=>by simp [nkD] at e
 | .str _,_,_,e,_=>by simp [nkD] at e
 | .lst _,_,_,e,_=>by simp [nkD] at e
 | .dk _ _,_,_,e,_=>by simp [nkD] at e
 | .dt _ _,_,_,e,_=>by simp [nkD] at e
 | .dn _ _,_,_,e,_=>by simp [nkD] at e
 | .scr _,_,_,e,_=>by simp [nkD] at e
 | .exc _ _,_,_,e,_=>by simp [nkD] at e
theorem zhd {K:Frag} {H:Hp}:∀{ds:List D} {ks:List NK} {xs:List V},zqv ds=some ks->RDs K H ds xs->NKrs H ks xs
 | [],ks,xs,e,r=>by
  simp only [zqv,Option.some.injEq] at e;subst e
  simp only [RDs] at r;subst r;simp only [NKrs]
 | d::ds,ks,xs,e,r=>by
  simp only [RDs] at r
  obtain ⟨x,r,rfl,r1,r2⟩:=r
  simp only [zqv] at e
  split at e
  . rename_i k ks' e1 e2
    cases e
    simp only [NKrs]
    exact ⟨x,_,rfl,zm4 e1 r1,zhd e2 r2⟩
  . cases e
end
noncomputable def putQ (qs:List (NK×Addr)) (k:NK) (b:Addr):List (NK×Addr):=if k∈qs.map (·.1) then qs else qs++[(k,b)]
noncomputable def z3 (qs:List (NK×Addr)) (vs:List Value):List (NK×Addr×Value):=(qs.zip vs).map fun q=>(q.1.1,q.1.2,q.2)
theorem zhe:∀(qs:List (NK×Addr)) (vs:List Value),qs.length=vs.length->(z3 qs vs).map (·.1)=qs.map (·.1)
 | [],_,_=>rfl
 | q::qs,[],h=>by simp at h
 | q::qs,v::vs,h=>by
  have:=zhe qs vs (by simpa using h)
  simp only [z3,List.zip_cons_cons,List.map_cons] at this ⊢
  rw [this]
theorem zm5 (qs:List (NK×Addr)) (vs:List Value) (h:qs.length=vs.length):(z3 qs vs).length=qs.length:=by
 simp only [z3,List.length_map,List.length_zip];omega
theorem zpd {α:Type} (xs:List (NK×Addr×α)) (k:NK):((xs.find? fun x=>decide (x.1=k)).map (·.2)).isSome=decide (k∈xs.map (·.1)):=by
 rw [Option.isSome_map,Bool.eq_iff_iff,List.find?_isSome,decide_eq_true_eq,List.mem_map]
 constructor
 . rintro ⟨x,hx,e⟩;exact ⟨x,hx,by simpa using e⟩
 . rintro ⟨x,hx,e⟩;exact ⟨x,hx,by simpa using e⟩
theorem zuw (qs:List (NK×Addr)) (vs:List Value) (h:qs.length=vs.length) (k:NK) (b:Addr) (u:Value):storedH (z3 qs vs) k b u=z3 (putQ qs k b) (z7o (qs.map (·.1)) vs k u)/\(putQ qs k b).length=(z7o (qs.map (·.1)) vs k u).length:=by
 unfold storedH putQ z7o
 have e:=zpd (z3 qs vs) k
 rw [zhe qs vs h] at e
 rw [show (atKey (z3 qs vs) k).isSome=decide (k∈qs.map (·.1)) from e]
 by_cases hk:k∈qs.map (·.1)
 . rw [if_pos (decide_eq_true hk),if_pos hk,if_pos hk]
   have go:∀(qs:List (NK×Addr)) (vs:List Value),qs.length=vs.length->(z3 qs vs).map (putAt k u)=z3 qs (List.zipWith (fun k' d'=>if k'=k then u else d') (qs.map (·.1)) vs)/\qs.length=(List.zipWith (fun k' d'=>if k'=k then u else d') (qs.map (·.1)) vs).length:=by
    intro qs
    induction qs with
    | nil=>intro vs _;exact ⟨rfl,rfl⟩
    | cons q qs ih=>
     intro vs h
     cases vs with
     | nil=>simp at h
     | cons v vs=>
      obtain ⟨i1,i2⟩:=ih vs (by simpa using h)
      simp only [z3,List.zip_cons_cons,List.map_cons,List.zipWith_cons_cons,List.length_cons] at i1 i2 ⊢
      refine ⟨?_,by omega⟩
      rw [i1]
      congr 1
      unfold putAt
      by_cases z:q.1=k
      . simp only [if_pos z]
      . simp only [if_neg z]
   exact go qs vs h
 . rw [if_neg (by simpa using hk),if_neg hk,if_neg hk]
   refine ⟨?_,by simp;omega⟩
   unfold z3
   rw [List.zip_append h,List.map_append];rfl
section
variable {X:Cx} {pins:List (Addr×Obj)} {σ:St} {H:Hp} {s:Shared}
theorem zhf {ks:List NK} {k:NK} {v:V} {u:Value} (ru:RelV v u) {xs:List V} {vs:List Value} (r:Vals xs vs):Vals (z7o ks xs k v) (z7o ks vs k u):=by
 unfold z7o
 split
 . have go:∀(ks:List NK) (xs:List V) (vs:List Value),Vals xs vs->Vals (List.zipWith (fun k' d'=>if k'=k then v else d') ks xs) (List.zipWith (fun k' d'=>if k'=k then u else d') ks vs):=by
    intro ks
    induction ks with
    | nil=>intro xs vs _;exact .nil
    | cons k' ks ih=>
     intro xs vs r
     cases r with
     | nil=>exact .nil
     | cons a1 a2=>
      simp only [List.zipWith_cons_cons]
      refine .cons ?_ (ih _ _ a2)
      split
      . exact ru
      . exact a1
   exact go ks xs vs r
 . exact r.append (.cons ru .nil)
theorem zhg (I:Inv X pins σ H s) {a:Addr} {qs:List (NK×Addr)} {xs:List V} {ob:Obj} (e:H a=some (.ext (dnP a qs xs ob))) (n:DN H a qs):s.heap.get? a=some ob/\∃vs,Vals xs vs/\qs.length=vs.length/\Heap.DictOfH (deepKind X.prog X.w) s.heap a (z3 qs vs):=by
 obtain ⟨p,_,_⟩:=(show ObjOk X.prog X.w H s.heap a (.ext (dnP a qs xs ob)) from I.hok a _ e)
 obtain ⟨p3,vs,es,ep,p1,p2,p4,p5,p6⟩:=p
 refine ⟨p3,vs,p1,p2,ob,es,ep,p3,p4,p5,p6,fun x hx=>?_,by rw [zhe qs vs p2];exact n.1⟩
 obtain ⟨q,hq,rfl⟩:=List.mem_map.mp hx
 have hq':=(List.of_mem_zip hq).1
 exact ⟨znj I (n.2.1 _ hq').1 rfl,(n.2.1 _ hq').2⟩
end
noncomputable def zux:zmw:=fun o i v H Q=>∃(a:Addr) (qs:List (NK×Addr)) (xs:List V) (k:NK) (b:Addr) (ob:Obj),o=.ref a/\i=.ref b/\H a=some (.ext (dnP a qs xs ob))/\DN H a qs/\NKr H k (.ref b)/\k.dep<=8/\qs.length<sizeLine/\∀ob',Q (upd H a (.ext (dnP a (putQ qs k b) (z7o (qs.map (·.1)) xs k v) ob')))
theorem zz7 {X:Cx} (hu:X.A.units+64<cLine):zw7 X zux:=by
 intro pins s σ H o i v ov iv u Q I ro ri rv h
 obtain ⟨a,qs,xs,k,b,ob,rfl,rfl,e,n,hk,hd,hl,q⟩:=h
 cases ro;cases ri
 obtain ⟨_,vs,p1,p2,dd⟩:=zhg I e n
 have hz:(z3 qs vs).length<=sizeLine:=by rw [zm5 qs vs p2];omega
 refine wpAny_setItem_heap (knd:=deepKind X.prog X.w) (hsz:=hz) (by show X.A.units+1+8<cLine;omega) ⟨znj I hk rfl,hd⟩ dd fun h' dd' hs=>?_
 obtain ⟨e1,e2⟩:=zuw qs vs p2 k b u
 rw [e1] at dd'
 obtain ⟨o',es,ep,d1,d2,d3,d4,_⟩:=dd'
 refine ⟨_,?_,q o'⟩
 exact zbu I (by rw [e];exact True.intro) hs ⟨o',d1⟩ ⟨⟨d1,_,es,ep,zhf rv p1,e2,d2,d3,d4⟩,⟨o',d1⟩,dnP.stay⟩
noncomputable def dSetN:D->D->D->Option D
 | .dn ks ds,.tup es,v=>match nkD (.tup es) with
  | some k=>if ks.length<100000/\k.dep<=8 then some (.dn (z4h ks k) (z7o ks ds k v)) else none
  | none=>none
 | _,_,_=>none
theorem zpe {K:Frag}:zxr K dSetN zux:=by
 intro H0 H a d d' dk dv y v Q s h0 ob rk rv hm k
 cases d<;>simp only [dSetN] at hm<;>first | cases hm | skip
 cases dk<;>simp only [dSetN] at hm<;>first | cases hm | skip
 rename_i ks ds es
 split at hm
 . rename_i kk hkk
   split at hm
   . rename_i hl
     cases hm
     simp only [OB] at ob
     obtain ⟨qs,xs,ob0,hx,hk,n,rx⟩:=ob
     have rk':=rk
     obtain ⟨b,ys,rfl,hb,rb⟩:=rk.tup
     have nk:=zm4 hkk rk'
     have hlen:qs.length=ks.length:=by rw [<-hk,List.length_map]
     have mono:∀a ys,H0 a=some (.tup ys)->H a=some (.tup ys):=fun c ys q=>s _ _ q
     refine ⟨a,qs,xs,kk,b,ob0,rfl,rfl,hx,n.tk mono,NKr.mono mono nk,hl.2,by rw [hlen];exact z1p hl.1,fun ob'=>k _ ?_⟩
     simp only [OB]
     refine ⟨_,_,ob',z05,?_,?_,by rw [hk];exact zc6 kk rv rx⟩
     . unfold putQ z4h
       rw [hk]
       split
       . exact hk
       . rw [List.map_append,hk];rfl
     . obtain ⟨n1,n2,n3,n4⟩:=n
       unfold putQ
       split
       . exact ⟨n1,n2,n3,n4⟩
       . rename_i hn
         refine ⟨?_,fun q hq=>?_,n3,?_⟩
         . rw [List.map_append,List.map_cons,List.map_nil]
           exact List.nodup_append.mpr ⟨n1,by simp,fun x hx y hy e=>hn (by rw [List.mem_singleton.mp hy] at e;have e':x=kk:=e;rw [<-e'];exact hx)⟩
         . rcases List.mem_append.mp hq with z | z
           . exact n2 q z
           . rw [List.mem_singleton.mp z];exact ⟨nk,hl.2⟩
         . have:=z1p hl.1
           rw [List.length_append,List.length_singleton];omega
   . cases hm
 . cases hm
section
variable {X:Cx} {EX:XW} {fr:Bool} {m:List Bool} {pos:Pos} {e:Expr} {fk fv:DE->R D}
theorem zuy {i:Nat} {o ix:Expr} {tpos:Pos} (hu:X.A.units+64<cLine) (ho:PE X o (zbw i)) (hk:QE X EX false ix fk) (hv:QE X EX false e fv)
 (ha:∀v,assign (.Subscript o ix tpos) X.env v=(do
  let ov <-holding [v] (eval o X.env)
  let iv <-holding [v,ov] (eval ix X.env)
  standAt tpos
  holding [v,ov,iv] (setItem ov iv v)
  release [v,ov,iv] []):=by intro _;rfl) (hs:swapsWithSole [.Subscript o ix tpos] e pos.line X.env=pure false:=by rfl) (hw:swappedStores [.Subscript o ix tpos] e X.env=pure none:=by rfl)
 (h1:(assignEach [.Subscript o ix tpos] X.env).map (·.2)=[assign (.Subscript o ix tpos) X.env]:=by rfl):QS X EX fr (.Assign [.Subscript o ix tpos] e pos) (zij dSetN i m fk fv):=⟨(zkw hv.h (zku ho hk.h (zz7 hu) ha) hs hw h1).imp fun _ _ _ q=>zs7 zpe q⟩
noncomputable def zpf:DE->R D:=fun _=>.ok (.dn [] [])
theorem pe_dnewN:PE X (.Dict [] [] pos) (fun _ H Q=>∀p ob,H p=none->(p==sysModules)=false->Q (.ref p) (upd H p (.ext (dnP p [] [] ob)))):=fun pins s σ H Q I h=>
 wpAny_Dict_empty ⟨.ref s.heap.objs.size,_,I.laid (a:=s.heap.objs.size) (o:=.ext (dnP s.heap.objs.size [] [] { cls:=.type "dict",data:=.dict #[] })) (t':=s.toks) (fun _ _ q=>Heap.get?_push_of_some _ q) (Nat.le_refl _) ⟨⟨Heap.get?_push_size _ rfl,[],#[],0,.nil,rfl,⟨rfl,rfl,rfl⟩,rfl,rfl⟩,⟨_,Heap.get?_push_size _ rfl⟩,dnP.stay⟩,rfl,h _ _ (I.hok.fresh (Nat.le_refl _)) (beq_eq_false_iff_ne.mpr (Ne.symm (Nat.ne_of_lt I.big)))⟩
theorem zuz:QE X EX true (.Dict [] [] pos) zpf:=⟨pe_dnewN.imp fun σ H Q ⟨sx,ρ,H0,s,e,h⟩ p ob hp hq=>h _ _ (.new s hp fun H' hH=>by simp only [OB];exact ⟨[],[],ob,hH,rfl,⟨List.nodup_nil,fun q hq=>(by simp at hq),hq,Nat.zero_le _⟩,.nil⟩)⟩
end
def zv0 (i j:Int):Prop:=Builtin.Int.intBits i<=2 ^ 20/\Builtin.Int.intBits j<=2 ^ 20
instance (i j:Int):Decidable (zv0 i j):=by unfold zv0;infer_instance
section
open PySem.SeqAt
open PySem.AutoSeq1 (wpAny_loadPart')
open PySem.MeetsSeq PySem.MeetsSeq2 PySem.MeetsSeq3
theorem zjx (l b:Addr) (items items2:Array Value) (n n2:Nat) (dd dd2:Option Addr) (sl sl2:Array (Option Value)) (r:Bool) (k:Nat) :
  ∀i:Nat,items.size - i=k->i<=items.size->i<=items2.size->Meets (Builtin.«list.__eq__.loop» ⟨[.ref l,.ref b,rawInt i,rawInt 0],[]⟩)
   (fun A R s=>s.heap.get? l=some { cls:=.type "list",dict:=dd,data:=.seq items n,slots:=sl }/\s.heap.get? b=some { cls:=.type "list",dict:=dd2,data:=.seq items2 n2,slots:=sl2 } /\
    LexR A.in1 s (items.toList.drop i) (items2.toList.drop i) r/\R (.ok (.ret (.bool r))) s):=by
 induction k with
 | zero=>
  intro i hk hi hi2 prog w A R s h
  obtain ⟨hp,g,d,tk,os⟩:=s;obtain ⟨hl,hb,hL,h⟩:=h
  wp_walk using wpAny_loadPart' hl,wpAny_loadPart' hb
  have hi1:items[((i:Nat):Int).toNat]?=none:=by simp;omega
  have hd:items.toList.drop i=[]:=by simp;omega
  rw [hd] at hL
  rw [hi1]
  wp_walk using wpAny_loadPart' hl,wpAny_loadPart' hb
  show R (.ok (.ret (.bool (decide (items.size<items2.size))))) _
  have e:r=decide (items.size<items2.size):=by
   generalize hw:items2.toList.drop i=ws at hL
   have hlen:ws.length=items2.size - i:=by rw [<-hw];simp
   cases hL with
   | nn=>rw [List.length_nil] at hlen;exact (decide_eq_false (by omega)).symm
   | nc=>rw [List.length_cons] at hlen;exact (decide_eq_true (by omega)).symm
  rw [<-e];exact h
 | succ k ih=>
  intro i hk hi hi2 prog w A R s h
  obtain ⟨hp,g,d,tk,os⟩:=s;obtain ⟨hl,hb,hL,h⟩:=h
  have hlt:i<items.size:=by omega
  have hi1:items[((i:Nat):Int).toNat]?=some items[i]:=by simp [hlt]
  have hd:items.toList.drop i=items[i]::items.toList.drop (i+1):=by rw [List.drop_eq_getElem_cons (by simpa using hlt)];simp
  have hc:((i:Int)+1)=((i+1:Nat):Int):=by push_cast;rfl
  by_cases hlt2:i<items2.size
  . have hi2':items2[((i:Nat):Int).toNat]?=some items2[i]:=by simp [hlt2]
    have hd2:items2.toList.drop i=items2[i]::items2.toList.drop (i+1):=by rw [List.drop_eq_getElem_cons (by simpa using hlt2)];simp
    rw [hd,hd2] at hL
    wp_walk using wpAny_loadPart' hl,wpAny_loadPart' hb
    rw [hi1,hi2']
    generalize hx:items[i]=x at *
    generalize hy:items2[i]=y at *
    cases hL with
    | eq he hr=>
     refine wpAny_bind (he prog w _ _ ?_)
     wp_walk
     rw [hc]
     exact ⟨plainId_quiet plain_eq_loop _,codeAny_builtin entry_eq_loop (by
      rw [Around.under_plainId plain_eq_loop _]
      exact ih (i+1) (by omega) (by omega) (by omega) prog w A R _ ⟨hl,hb,hr,h⟩)⟩
    | lt he hr=>
     refine wpAny_bind (he prog w _ _ ?_)
     wp_walk using wpAny_loadPart' hl,wpAny_loadPart' hb
     rw [hi1,hi2']
     have hri:=hr prog w
     wp_walk using hri
     exact h
  . have hi2':items2[((i:Nat):Int).toNat]?=none:=by simp;omega
    have hd2:items2.toList.drop i=[]:=by simp;omega
    rw [hd,hd2] at hL
    wp_walk using wpAny_loadPart' hl,wpAny_loadPart' hb
    rw [hi1,hi2']
    wp_walk using wpAny_loadPart' hl,wpAny_loadPart' hb
    show R (.ok (.ret (.bool (decide (items.size<items2.size))))) _
    cases hL
    rw [decide_eq_false (by omega)];exact h
theorem zhh (l b:Addr) (items items2:Array Value) (n n2:Nat) (dd dd2:Option Addr) (sl sl2:Array (Option Value)) (r:Bool) :
  Meets (Builtin.«list.__lt__» ⟨[.ref l,.ref b],[]⟩)
   (fun A R s=>s.heap.get? l=some { cls:=.type "list",dict:=dd,data:=.seq items n,slots:=sl }/\s.heap.get? b=some { cls:=.type "list",dict:=dd2,data:=.seq items2 n2,slots:=sl2 } /\
    LexR A.in1 s items.toList items2.toList r/\R (.ok (.ret (.bool r))) s):=by
 intro prog w A R s h
 obtain ⟨hp,g,d,tk,os⟩:=s;obtain ⟨hl,hb,hL,h⟩:=h
 have f3:=AutoSeq1.sub_list_list
 wp_walk using wpAny_loadPart' hl,wpAny_loadPart' hb
 exact ⟨plainId_quiet plain_eq_loop _,codeAny_builtin entry_eq_loop (by
  rw [Around.under_plainId plain_eq_loop _]
  exact zjx l b items items2 n n2 dd dd2 sl sl2 r _ 0 rfl (Nat.zero_le _) (Nat.zero_le _) prog w A R _ ⟨hl,hb,hL,h⟩)⟩
end
section
variable {prog:Program} {w:World} {A:Around} {E:Value->Shared->Prop} {s:Shared}
theorem zcf {l b:Addr} {items items2:Array Value} {r:Bool} {Q:Bool->Shared->Prop} (hl:s.heap.IsList l items) (hb:s.heap.IsList b items2) (hL:LexR A.in1 s items.toList items2.toList r) (hu:A.units<cLine) (h:Q r s) :
  wpAny (model prog w) A (keyLt' oneType' (.ref l) (.ref b)) Q E s:=by
 rw [keyLt'_oneType,oneLt'_eq]
 simp only [if_true]
 refine wpAny_bind (wpAny_cRoomFor hu ?_)
 obtain ⟨⟨cls,dd,data,sl⟩,ho,hc,n,hd⟩:=id hl
 obtain ⟨⟨cls2,dd2,data2,sl2⟩,ho2,hc2,n2,hd2⟩:=id hb
 simp only at hc hd hc2 hd2
 subst hc hd hc2 hd2
 refine wpAny_bind (wpAny_callSpecialIfBound?_slot (T:="list") ⟨_,ho,rfl⟩ PySem.F.slot_list_lt (call_meets PySem.F.slot_list_lt ⟨_,ho,rfl⟩ PySem.F.entry_list_lt (PySem.F.args_list_lt_2 _ _) (zhh l b items items2 n n2 dd dd2 sl sl2 r) ⟨ho,ho2,hL,?_⟩))
 exact wpAny_truthy_bool h
end
noncomputable def toT:D->D
 | .lst ds=>.tup ds
 | d=>d
noncomputable def toL:D->D
 | .tup ds=>.lst ds
 | d=>d
noncomputable def zv1:D->Bool
 | .lst ds=>ds.all isI
 | _=>false
noncomputable def z4r:List D->Option D
 | [.lst ds]=>if ds.length<64/\ds.all zv1=true then some (.lst ((z1w (ds.map toT)).map toL)) else none
 | _=>none
theorem zpg {d:D} (h:zv1 d=true):∃ns:List Int,d=L ns:=by
 cases d<;>simp only [zv1] at h<;>first | cases h | skip
 rename_i ds
 have asInts:∀ds:List D,ds.all isI=true->∃ns:List Int,ds=ns.map D.int:=by
  intro ds hI
  induction ds with
  | nil=>exact ⟨[],rfl⟩
  | cons d ds ih=>
   simp only [List.all_cons,Bool.and_eq_true] at hI
   obtain ⟨ns,e⟩:=ih hI.2
   cases d<;>simp [isI] at hI
   exact ⟨_::ns,by rw [e];rfl⟩
 obtain ⟨ns,e⟩:=asInts ds h
 exact ⟨ns,by rw [e];rfl⟩
theorem zv2:∀{ds:List D},ds.all zv1=true->∃xss:List (List Int),ds=xss.map L
 | [],_=>⟨[],rfl⟩
 | d::ds,h=>by
  simp only [List.all_cons,Bool.and_eq_true] at h
  obtain ⟨xss,e⟩:=zv2 h.2
  obtain ⟨ns,e1⟩:=zpg h.1
  exact ⟨ns::xss,by rw [e,e1];rfl⟩
noncomputable def TuI (ns:List Int):D:=.tup (ns.map .int)
theorem z4s:∀ns:List Int,ois (ns.map D.int)=true/\z40 (ns.map D.int)=0
 | []=>by simp [ois,z40]
 | n::ns=>by
  have:=z4s ns
  simp only [List.map_cons,ois,z40,D.oi,D.dep,this.1,this.2,Bool.and_self,Nat.max_self,and_self]
theorem zv3 (ns:List Int):(TuI ns).oi=true:=by simp only [TuI,D.oi];exact (z4s ns).1
theorem zhi:∀xss:List (List Int),ois (xss.map TuI)=true
 | []=>by simp [ois]
 | x::xss=>by simp only [List.map_cons,ois,zv3,zhi xss,Bool.and_self]
theorem zay:∀a b:List Int,∃r,z1v (a.map D.int) (b.map D.int)=some r
 | [],[]=>⟨_,rfl⟩
 | [],_::_=>⟨_,rfl⟩
 | _::_,[]=>⟨_,rfl⟩
 | x::a,y::b=>by
  simp only [List.map_cons,z1v]
  split
  . exact zay a b
  . exact ⟨_,rfl⟩
def zdt (K:Frag):List V->Hp->VK->Prop:=fun xs H Q=>∃(p:Addr) (ys:List V) (xss:List (List Int)),xs=[.ref p]/\H p=some (.lst ys)/\RDs K H (xss.map L) ys/\xss.length<64/\∀(l:Addr) (is:List Nat),H l=none->(∀i∈is,i<ys.length)->z1w (xss.map TuI)=is.map (fun i=>(xss.map TuI).getD i (.int 0))->Q (.ref l) (upd H l (.lst (is.map fun i=>ys.getD i .non)))
theorem zen {K:Frag}:z7r K true z4r (zdt K):=by
 intro H0 H xs ds z Q s r ho k
 unfold z4r at ho
 split at ho<;>first | cases ho | skip
 split at ho<;>cases ho
 rename_i es hok
 obtain ⟨xss,e⟩:=zv2 hok.2
 subst e
 obtain ⟨x,rfl,q1⟩:=r.uno
 obtain ⟨p,ys,rfl,hp,ry⟩:=q1.lst
 refine ⟨p,ys,xss,rfl,s _ _ hp,ry.mono s,by simpa using hok.1,fun l is hl hi he=>k _ _ (.new s hl fun H' hH=>?_)⟩
 simp only [OB]
 refine ⟨_,hH,?_⟩
 have hlen:=ry.length
 rw [List.map_map,show toT∘L=TuI from rfl,he,List.map_map]
 have:is.map (toL∘fun i=>(xss.map TuI).getD i (.int 0))=is.map fun i=>(xss.map L).getD i (.int 0):=List.map_congr_left fun i hi'=>by
  have hb:i<xss.length:=by have:=hi i hi';rw [<-hlen,List.length_map] at this;exact this
  simp only [Function.comp,List.getD_eq_getElem?_getD,List.getElem?_map,List.getElem?_eq_getElem hb,Option.map_some,Option.getD_some]
  rfl
 rw [this]
 exact ry.pick hi
section
variable {X:Cx} {pins:List (Addr×Obj)} {σ:St} {H:Hp} {s:Shared}
theorem zph {ns:List Int} {y:V} {u:Value} (I:Inv X pins σ H s) (r:RD X.K H (L ns) y) (ru:RelV y u):∃(a:Addr) (its:List Value),u=.ref a/\s.heap.IsList a its.toArray/\Vals (ns.map V.int) its:=by
 obtain ⟨a,xs,rfl,ha,rs⟩:=r.lst
 cases ru
 have ex:xs=ns.map V.int:=z4i (z29 ns) rs
 subst ex
 obtain ⟨its,rv,pl,hz⟩:=I.list (.of ha)
 exact ⟨a,its,rfl,pl.isList,rv⟩
theorem zhj (hc:X.calm=true) (hu:X.A.units+64<cLine):CallR X (.builtin "sorted") (zdt X.K):=by
 intro pins s σ H xs us Q I r h
 obtain ⟨p,ys,xss,rfl,hp,rd,h64,k⟩:=h
 obtain ⟨u,rfl,ru⟩:=z63 r
 cases ru
 obtain ⟨its,rv,pl,hz⟩:=I.list (.of hp)
 obtain ⟨m,hn,_⟩:=id I.loc
 have F:=Att.fr_all hn
 have N:=z6c (g:=Att.noObjs s.heap) (h:=s.heap) (L:=X.env.locals)
 have hl1:=rd.length
 rw [List.length_map] at hl1
 have hl2:=rv.length
 have hoi:=zhi xss
 have fin:∀{D:Addr} {h':Heap} {tk:Nat} {e:Nat} {is:List Nat},(∀i∈is,i<ys.length)->z1w (xss.map TuI)=is.map (fun i=>(xss.map TuI).getD i (.int 0))->Fr (Att.noObjs s.heap) X.env.locals h' m->News (Att.noObjs s.heap) X.env.locals h' ((D,seqObj "list" (is.map fun i=>its.getD i Value.none).toArray e)::zbx s X.env.locals)->s.heap.get? D=none ->
   EP X pins σ Q (.ref D) { s with heap:=h',toks:=tk }:=fun {D h' tk e is} hi he F' N' hD=>by
  have hlen:(is.map fun i=>ys.getD i .non).length<=sizeLine:=by
   have e1:is.length=xss.length:=by have:=congrArg List.length he;rw [List.length_map,(z0j _).length_eq,List.length_map] at this;exact this.symm
   rw [List.length_map,e1,hl1];exact hz
  obtain ⟨HD,I'⟩:=I.frnew (tk:=tk) (o:=.lst (is.map fun i=>ys.getD i .non)) hn F' N' hD ⟨hlen,_,e,rv.pick hi,(N' _ (.head _)).1⟩
  exact ⟨.ref D,_,I',rfl,k D is HD hi he⟩
 by_cases h2:2<=its.length
 . refine PySem.W.kat_sorted F N pl.isList h2 (by omega) fun D e1 h' F' N' hlt=>?_
   have N'':News (Att.noObjs s.heap) X.env.locals h' (zbx s X.env.locals):=fun p hp=>N' p (.tail _ hp)
   have I':Inv X pins σ H { s with heap:=h' }:=I.frn (tk:=s.toks) hn F' N''
   have hDL:D≠X.env.locals:=(N' _ (.head _)).2.1
   have hD:s.heap.get? D=none:=by
    cases q:s.heap.get? D with
    | none=>rfl
    | some o=>exact absurd (hlt (D,o) (z2j hDL (Att.noObjs_get _ _) q)) (Nat.lt_irrefl _)
   have at':∀i,i<its.length->∃(a:Addr) (vs:List Value),its.getD i Value.none=.ref a/\({ s with heap:=h' }:Shared).heap.IsList a vs.toArray/\Vals ((xss.getD i []).map V.int) vs:=fun i hi=>by
    have r1:=rd.getD (i:=i) (by omega)
    rw [show (xss.map L).getD i (.int 0)=L (xss.getD i []) by
     rw [List.getD_eq_getElem?_getD,List.getD_eq_getElem?_getD,List.getElem?_map,List.getElem?_eq_getElem (show i<xss.length by omega)];rfl] at r1
    exact zph I' r1 (rv.getD (by omega))
   have huu:X.A.in1.in1.units+20<cLine:=by show X.A.units+1+1+20<cLine;omega
   refine PySem.W.kas_kind (T:=.type "list") h2 (fun v hv=>?_) (by decide) (by decide) ?_
   . obtain ⟨i,hi,rfl⟩:=List.mem_iff_getElem.mp hv
     obtain ⟨a,vs,e,⟨o,ho,hcl,_⟩,_⟩:=at' i hi
     rw [List.getD_eq_getElem?_getD,List.getElem?_eq_getElem hi,Option.getD_some] at e
     rw [e]
     have lk:Looks (model X.prog X.w) h' (typeOf (.ref a)) o.cls:=(PySem.W.Looks.ld ho).andThen .now
     rw [hcl] at lk
     exact lk
   have h0:0<its.length:=by omega
   refine zdk (n:=its.length) (lt:=ltI (xss.map TuI)) ?_ (zca h0) ?_
   . intro i j C hi hj hC
     show wpAny (model X.prog X.w) X.A.in1.in1 (keyLt' _ (its.getD i Value.none) (its.getD j Value.none)) C _ _
     obtain ⟨a,vs,e1,l1,v1⟩:=at' i hi
     obtain ⟨c,ws,e2,l2,v2⟩:=at' j hj
     rw [e1,e2]
     obtain ⟨b,hb⟩:=zay (xss.getD i []) (xss.getD j [])
     have hbl:b=ltI (xss.map TuI) i j:=by
      have:z1k ((xss.map TuI).getD i (.int 0)) ((xss.map TuI).getD j (.int 0))=some b:=by
       rw [List.getD_eq_getElem?_getD,List.getD_eq_getElem?_getD,List.getElem?_map,List.getElem?_map,List.getElem?_eq_getElem (show i<xss.length by omega),List.getElem?_eq_getElem (show j<xss.length by omega)]
       rw [List.getD_eq_getElem?_getD,List.getD_eq_getElem?_getD,List.getElem?_eq_getElem (show i<xss.length by omega),List.getElem?_eq_getElem (show j<xss.length by omega)] at hb
       simp only [Option.map_some,Option.getD_some,TuI,z1k] at hb ⊢
       exact hb
      exact zgj this
     rw [<-hbl] at hC
     have hu1:X.A.in1.in1.in1.units+1<cLine:=by show X.A.units+1+1+1+1<cLine;omega
     refine zcf l1 l2 ?_ (by omega) hC
     exact zgq (n:=1) I' hu1 (fun {d e x y u v b} q1 q2 q3 q4 q5 q6 q7 q8=>zlm I' 1 hu1 q1 q2 q3 q4 q5 q6 q7 q8) (z4s _).1 (z4s _).1 (by rw [(z4s _).2];omega) (.ofInts _) (.ofInts _) v1 v2 hb
   . refine PySem.W.KasFin.intro F' N' (.head fun p hp=>Nat.ne_of_lt (hlt p hp)) fun h'' c F3 N3=>?_
     have hl3:its.length=(xss.map TuI).length:=by rw [List.length_map];omega
     rw [hl3] at N3
     have pm:=(z43 (zc9 hoi) (n:=(xss.map TuI).length) (by omega)).1
     refine fin (is:=(z0q (ltI (xss.map TuI)) (PySem.W.kas_sort (xss.map TuI).length)).toList) (fun i hi=>?_) (z88 hoi (by omega)).symm F3 N3 hD
     have:=pm.toList.mem_iff.mp hi
     simp at this
     omega
 . have hs1:z1w (xss.map TuI)=xss.map TuI:=by
    match xss,hl1,hl2 with
    | [],_,_=>rfl
    | [d],_,_=>rfl
    | _::_::_,a,b=>simp at a;omega
   refine z5n pl.isList (by omega) ?_
   obtain ⟨e,he⟩:=sortedAll_at s.heap its ((pairsOf its).map (·.2))
   have kp:∀b o,s.heap.get? b=some o->(sortedAll s.heap its ((pairsOf its).map (·.2))).get? b=some o:=fun b o q=>sortedAll_old q
   have hout:(pairsOf its).map (·.2)=(List.map (fun i=>its.getD i Value.none) (List.range its.length)).toArray:=by
    have pz:∀l:List Value,l.length<2->(pairsOf l).map (·.2)=(List.map (fun i=>l.getD i Value.none) (List.range l.length)).toArray:=fun l hl=>by
     match l,hl with
     | [],_=>simp [pairsOf]
     | [v],_=>simp [pairsOf]
     | _::_::_,z=>simp at z;omega
    exact pz its (by omega)
   rw [hout] at he kp ⊢
   have hN:=N.kept_cons F kp (Nat.le_succ _) he
   refine fin (is:=List.range its.length) (fun i hi=>by simp at hi;omega) ?_ (F.kept kp) hN (Heap.get?_none_of_le (Nat.le_succ _))
   rw [hs1]
   have hzl:(xss.map TuI).length=its.length:=by rw [List.length_map];omega
   clear fin k hs1 hoi
   generalize xss.map TuI=zs at hzl
   apply List.ext_getElem?
   intro i
   rw [List.getElem?_map]
   by_cases hi:i<its.length
   . rw [List.getElem?_range hi]
     simp [show i<zs.length by omega]
   . rw [List.getElem?_eq_none (show (List.range its.length).length<=i by simpa using hi),List.getElem?_eq_none (by omega)];rfl
end
end L2
namespace L2
open PySem PySem.Spec PyProof.Rows
section
variable {X:Cx}
noncomputable def zeo:D->D->Option D
 | .tup ds,.tup es=>if ds.length+es.length<=100000 then some (.tup (ds++es)) else none
 | _,_=>none
noncomputable def zv4 (K:Frag):R2:=fun x y H Q=>∃a b xs ys,x=.ref a/\y=.ref b/\SqT K H a xs/\SqT K H b ys/\xs.length+ys.length<=sizeLine /\
 (xs=[]->Q (.ref b) H)/\(xs≠[]->ys=[]->Q (.ref a) H)/\(xs≠[]->ys≠[]->∀p,H p=none->Q (.ref p) (upd H p (.tup (xs++ys))))
theorem zpi:OpR X (binaryOp .Add) (zv4 X.K):=by
 intro pins s σ H x y v u Q I rx ry h
 obtain ⟨a,b,xs,ys,rfl,rfl,ha,hb,hz,q0,q1,q2⟩:=h
 by_cases hx:xs=[]
 . cases rx
   cases ry
   obtain ⟨its,r1,p1,_⟩:=I.tuple ha
   obtain ⟨its2,r2,p2,_⟩:=I.tuple hb
   obtain ⟨⟨cls,dd,data,sl⟩,ho,hc,n,hd⟩:=id p1
   obtain ⟨⟨cls2,dd2,data2,sl2⟩,ho2,hc2,n2,hd2⟩:=id p2
   simp only at hc hd hc2 hd2
   subst hc hd hc2 hd2
   have he:its=[]:=r1.nil_iff.mpr hx
   exact concat_meets ⟨_,ho,rfl⟩ ⟨_,ho2,rfl⟩ noFill_tuple_add seq_tuple_add PySem.F.slot_tuple_add PySem.F.entry_tuple_add (PySem.F.args_tuple_add_2 _ _)
    (tuple_addW0 a b its.toArray its2.toArray n n2 dd dd2 sl sl2 (by simp [he])) ⟨ho,ho2,⟨.ref b,H,I,rfl,q0 hx⟩⟩
 . exact zn5 pins s σ H _ _ v u Q I rx ry ⟨a,b,xs,ys,rfl,rfl,ha,hb,hx,hz,q1 hx,q2 hx⟩
theorem zpj {K:Frag}:OpD K false zeo (zv4 K):=by
 intro H0 H x y d e z Q s rx ry ho k
 cases d<;>simp only [zeo] at ho<;>first | cases ho | skip
 cases e<;>simp only [zeo] at ho<;>first | cases ho | skip
 rename_i ds es
 split at ho<;>cases ho
 rename_i hl
 obtain ⟨a,xs,rfl,ha,ra⟩:=rx.tup
 obtain ⟨b,ys,rfl,hb,rb⟩:=ry.tup
 refine ⟨a,b,xs,ys,rfl,rfl,.of (s _ _ ha),.of (s _ _ hb),by rw [<-ra.length,<-rb.length];exact zla hl,fun e=>?_,fun _ e=>?_,fun _ _ p hp=>?_⟩
 . have:ds=[]:=by have:=ra.length;rw [e] at this;exact List.eq_nil_of_length_eq_zero this
   subst this
   refine k _ _ (.pure s ?_)
   simp only [RD,List.nil_append]
   exact ⟨b,ys,rfl,hb,rb⟩
 . have:es=[]:=by have:=rb.length;rw [e] at this;exact List.eq_nil_of_length_eq_zero this
   subst this
   refine k _ _ (.pure s ?_)
   simp only [RD,List.append_nil]
   exact ⟨a,xs,rfl,ha,ra⟩
 . refine k _ _ (.val (Same.upd_new hp) (.new s hp) ?_)
   simp only [RD]
   have s0:Same H0 (upd H0 p (.tup (xs++ys))):=Same.upd_new (s.none hp)
   exact ⟨p,xs++ys,rfl,z05,(ra.append rb).mono s0⟩
end
noncomputable def y0q (fa fx fb fy:DE->R D):DE->R D:=fun ρ=>(fa ρ).bind fun a=>(fx ρ).bind fun x=>(fb ρ).bind fun b=>(fy ρ).bind fun y=>R.of (match zg8 a,zg8 b with
 | some k,some l=>some (.dk (z4h [k] l) (z7o [k] [x] l y))
 | _,_=>none)
noncomputable def zhk (T:String) (mt:D->List D->Option D) (i:Nat) (m:List Bool) (f:DE->R D):DS->SR:=fun ρ=>match ρ[i]? with
 | some (.ow d0)=>if isT T d0=true then (f (vis m ρ)).toS fun d=>match (z65 (keeps true d) m ρ)[i]? with
  | some (.ow dx)=>(R.of (mt dx [d])).toS fun d'=>.nx ((z65 (keeps true d) m ρ).set i (.ow d'))
  | _=>.st
  else .st
 | _=>.st
section
variable {K:Frag} {EX:XW} {fr:Bool} {Hc Hb H0 H H':Hp} {ρ:DS} {σ:St} {De:Ends} {m:List Bool}
theorem RS.seeF (R:RS K Hc Hb H0 ρ σ H) {d:D} {v:V} (a:Apt K true Hb H0 ρ σ H d v):∃H1,RS K Hc Hb H1 ρ σ H/\RD K H1 d v:=by
 unfold Apt at a
 rw [if_pos rfl] at a
 obtain ⟨p,rfl,h0,hb,ob,no⟩:=a
 obtain ⟨u,hu,_⟩:=ob.some
 have s0:Same H0 (upd H0 p u):=Same.upd_new h0
 refine ⟨upd H0 p u,⟨R.sb,⟨R.ext.1.trans s0,fun c o q=>?_,fun c h1 h2=>?_⟩,R.len,fun i d q=>?_,fun i d q=>?_,R.ap⟩,ob.rd s0 (by rw [z05,hu])⟩
 . by_cases hc:c=p
   . subst hc;rw [z05] at q;cases q;exact hu
   . rw [z02 hc] at q;exact R.ext.2.1 c o q
 . rw [z02 (fun z=>h1 (by rw [z];exact hb))];exact R.ext.2.2 c h1 h2
 . obtain ⟨v,h1,h2⟩:=R.im i d q
   exact ⟨v,h1,h2.mono s0⟩
 . obtain ⟨c,h1,h2,h3,h4⟩:=R.ow i d q
   have hc:c≠p:=fun z=>no i d q (by rw [<-z];exact h1)
   exact ⟨c,h1,by rw [z02 hc];exact h2,h3,h4.mono s0 (Same.refl _)⟩
theorem zv5 {T:String} {mt:D->List D->Option D} {r:V->List V->Hp->VK->Prop} {i:Nat} {f:DE->R D} (hm:znp K mt r) (hT:TyD K T) (h:TSd K EX fr (zhk T mt i m f) De σ H) :
  ze4 (tBM K T r (zbw i) (z8l (TEd K EX true f) zqj)) De σ H:=by
 obtain ⟨Hc,Hb,H0,ρ,sb,R,h⟩:=h
 unfold zhk at h
 split at h
 . rename_i d0 q0
   split at h
   . rename_i hty
     rw [SK.toS] at h
     obtain ⟨a,h1,h2,h3,h4⟩:=R.ow i d0 q0
     unfold ze4 tBM zbw
     rw [h1]
     refine ⟨hT H0 H a d0 h4 hty,sb.trans R.sb,vis m ρ,HeOf m ρ σ H0 H,R.heH m,R.re m,h.mono fun d h v H' o=>?_⟩
     obtain ⟨H0n,R',apt⟩:=R.out o
     obtain ⟨H1n,R'',rd'⟩:=R'.seeF apt
     split at h
     . rename_i dx q
       rw [SK.toS] at h
       obtain ⟨d',hd',h⟩:=h.of
       obtain ⟨a',z1,z2,z3,z4⟩:=R''.ow i dx q
       rw [h1] at z1;cases z1
       exact hm H1n H' a dx d' [d] [v] _ R''.ext.2.1 z2 z4 (RDs.one rd') hd' fun v o ob=>h σ _ H1n (R''.mutate q h1 ob)
     . exact h.elim
   . exact h.elim
 . exact h.elim
end
theorem zv6 {X:Cx} {EX:XW} {fr:Bool} {e:Expr} {f:DE->R D} {pos:Pos} {m:List Bool} {T id:String} {name:Str} {i:Nat} {x:Str} {xp apos cpos:Pos} {mt:D->List D->Option D} {rr:V->List V->Hp->VK->Prop} (pa:PlainAttrs T) (slot:Slot T name id) (hty:typeOf (.builtin id)=pure (.type "method_descriptor")) (hm:MtM X id rr) (od:znp X.K mt rr) (hT:TyD X.K T)
 (ho:PE X (.Name x xp) (zbw i)) (ha:QE X EX true e f)
 (hbase:attributeBase (.Name x xp) name X.env (eval (.Name x xp) X.env)=eval (.Name x xp) X.env:=by rfl)
 (hfew:((backTo cpos (starEach [e] X.env)).all (fun x=>!x.1)&&(backToKw cpos (keywordEach [] X.env)).all (fun x=>x.1.isSome)
  && decide ([e].length+([]:List Keyword).length+(if ([]:List Keyword).isEmpty then 0 else 1)<30))=true:=by rfl)
 (hline:(apos.endLine==cpos.line)=true:=by rfl) (hs:starEach [e] X.env=(false,eval e X.env)::starEach [] X.env:=by rfl) (hplain:(backTo cpos (starEach [] X.env)).any (·.1)=false:=by rfl)
 (hsw:swapsWith (.Call (.Attribute (.Name x xp) name apos) [e] [] cpos) none pos.line X.env=pure false:=by rfl) :
 QS X EX fr (.Expr (.Call (.Attribute (.Name x xp) name apos) [e] [] cpos) pos) (zhk T mt i m f):=⟨(zbo (zrg pa slot hty hm ho (z2z ha.h pa_nil hs) hbase hfew hline hs hplain) hsw).imp fun _ _ _ q=>zv5 od hT q⟩
noncomputable def z69 (es:Array DictEntry) (ep:Nat):Obj:={ cls:=.type "dict",data:=.dict es ep }
noncomputable def z2u (d:Addr) (i n ep:Nat):Obj:={ cls:=.type "dict_keyiterator",data:=.fields #[.ref d,.int i 0,.int n 0,.int ep 0] }
section
open PySem.SeqAt
open PySem.AutoSeq1 (wpAny_loadPart')
theorem zv7 (d:Addr) (es:Array DictEntry) (ep:Nat) (hd:(d==sysModules)=false) :
  Meets (Builtin.«dict.__iter__» ⟨[.ref d],[]⟩) (fun _ R s=>s.heap.get? d=some (z69 es ep)/\R (.ok (.ret (.ref s.heap.objs.size))) { s with heap:=s.heap.push (z2u d 0 es.size ep) }):=
 .of_wp fun prog w A R s h=>by
  obtain ⟨hp,g,dr,tk,os⟩:=s;obtain ⟨hl,h⟩:=h
  unfold z69 at hl
  wp_walk using wpAny_loadPart' hl
  exact ⟨_,rfl,h⟩
theorem zv8 (it d:Addr) (es:Array DictEntry) (ep i:Nat) (hi:i<es.size) :
  Meets (Builtin.«dict_keyiterator.__next__» ⟨[.ref it],[]⟩) (fun _ R s=>s.heap.get? it=some (z2u d i es.size ep)/\s.heap.get? d=some (z69 es ep) /\
   R (.ok (.ret es[i].key)) { s with heap:=s.heap.update it (Obj.mapFields (·.setIfInBounds 1 (rawInt ((i:Int)+1)))) }):=
 .of_wp fun prog w A R s h=>by
  obtain ⟨hp,g,dr,tk,os⟩:=s;obtain ⟨hl,hd,h⟩:=h
  unfold z69 at hd
  unfold z2u at hl
  have hsz:(((es.size:Int) != (es.size:Int))=true)=False:=by simp
  have hep:(((ep:Int) != (ep:Int))=true)=False:=by simp
  have hat:(if (i:Int)<0 then none else es[((i:Nat):Int).toNat]?)=some es[i]:=by rw [if_neg (by omega)];simp [hi]
  wp_walk using wpAny_loadPart' hl,wpAny_loadPart' hd
  rw [hat]
  wp_walk using wpAny_loadPart' hl,wpAny_loadPart' hd
  exact ⟨_,rfl,h⟩
theorem zz8 (it d:Addr) (es:Array DictEntry) (ep i:Nat) (hi:es.size<=i) :
  Meets (Builtin.«dict_keyiterator.__next__» ⟨[.ref it],[]⟩) (fun A R s=>s.heap.get? it=some (z2u d i es.size ep)/\s.heap.get? d=some (z69 es ep)/\A.in1.handled=none /\
   ∀h' e,(∀c o,c≠it->s.heap.get? c=some o->h'.get? c=some o)->(∃o,h'.get? e=some o/\o.cls=.type "StopIteration")->R (.error (.ref e)) { s with heap:=h' }):=
 .of_wp fun prog w A R s h=>by
  obtain ⟨hp,g,dr,tk,os⟩:=s;obtain ⟨hl,hd,hh,h⟩:=h
  unfold z69 at hd
  unfold z2u at hl
  have hsz:(((es.size:Int) != (es.size:Int))=true)=False:=by simp
  have hep:(((ep:Int) != (ep:Int))=true)=False:=by simp
  have hat:(if (i:Int)<0 then none else es[((i:Nat):Int).toNat]?)=none:=by rw [if_neg (by omega)];simp [hi]
  wp_walk using wpAny_loadPart' hl,wpAny_loadPart' hd
  rw [hat]
  wp_walk using wpAny_loadPart' hl,wpAny_loadPart' hd
  unfold raiseNew
  refine wpAny_bind (wpAny_handled ?_)
  rw [hh]
  refine wpAny_bind (wpAny_pure (wpAny_throw (h _ _ (fun c o hc e=>?_) ⟨_,Heap.get?_push_size _ rfl,rfl⟩)))
  refine Heap.get?_push_of_some _ (Heap.get?_push_of_some _ ?_)
  rw [Heap.get?_update_ne _ _ _ _ hc]
  exact e
end
section
variable {prog:Program} {w:World} {A:Around} {E:Value->Shared->Prop} {s:Shared} {d it:Addr} {es:Array DictEntry} {ep i:Nat}
theorem zhl {Q:Value->Shared->Prop} (lo:(d==sysModules)=false) (hm:s.heap.get? d=some (z69 es ep)) (hQ:Q (.ref s.heap.objs.size) { s with heap:=s.heap.push (z2u d 0 es.size ep) }) :
  wpAny (model prog w) A (pyIter (.ref d)) Q E s:=
 wpAny_pyIter_slot ⟨_,hm,rfl⟩ F.slot_dict_iter (call_meets F.slot_dict_iter ⟨_,hm,rfl⟩ F.entry_dict_iter (F.args_dict_iter_1 _) (zv7 d es ep lo)
  ⟨hm,⟨"dict_keyiterator",_,⟨_,Heap.get?_push_size _ rfl,rfl⟩,F.slot_dict_keyiterator_next.lookup,hQ⟩⟩)
theorem zjy {h:Heap} (hi:h.get? it=some (z2u d i es.size ep)):(h.update it (Obj.mapFields (·.setIfInBounds 1 (rawInt ((i:Int)+1))))).get? it=some (z2u d (i+1) es.size ep):=by
 rw [Heap.get?_update_self _ hi rfl]
 simp [z2u,Obj.mapFields,rawInt]
theorem zhm {Q:Option Value->Shared->Prop} (hit:s.heap.get? it=some (z2u d i es.size ep)) (hm:s.heap.get? d=some (z69 es ep)) (hi:i<es.size)
  (hQ:Q (some es[i].key) { s with heap:=s.heap.update it (Obj.mapFields (·.setIfInBounds 1 (rawInt ((i:Int)+1)))) }):wpAny (model prog w) A (pyNext (.ref it)) Q E s:=by
 unfold pyNext
 exact wpAny_bind (wpAny_attempt (wpAny_callSpecial?_slot (name:=Str.ofString "__next__") ⟨_,hit,rfl⟩ F.slot_dict_keyiterator_next
  (call_meets F.slot_dict_keyiterator_next ⟨_,hit,rfl⟩ F.entry_dict_keyiterator_next (F.args_dict_keyiterator_next_1 _) (zv8 it d es ep i hi) ⟨hit,hm,wpAny_pure hQ⟩)))
theorem zjz {Q:Option Value->Shared->Prop} (hh:A.handled=none) (hit:s.heap.get? it=some (z2u d i es.size ep)) (hm:s.heap.get? d=some (z69 es ep)) (hi:es.size<=i)
  (hQ:∀h',(∀c o,c≠it->s.heap.get? c=some o->h'.get? c=some o)->Q none { s with heap:=h' }):wpAny (model prog w) A (pyNext (.ref it)) Q E s:=by
 unfold pyNext
 refine wpAny_bind (wpAny_attempt (wpAny_callSpecial?_slot (name:=Str.ofString "__next__") ⟨_,hit,rfl⟩ F.slot_dict_keyiterator_next
  (call_meets F.slot_dict_keyiterator_next ⟨_,hit,rfl⟩ F.entry_dict_keyiterator_next (F.args_dict_keyiterator_next_1 _) (zz8 it d es ep i hi) ⟨hit,hm,hh,fun h' e kp he=>?_⟩)))
 obtain ⟨o,ho,hc⟩:=he
 exact wpAny_bind (wpAny_isInstance (T:="StopIteration") (b:=true) ⟨o,ho,hc⟩ isSubtype_stop (wpAny_pure (hQ h' kp)))
theorem zep (hh:A.handled=none) (I:Addr) (hne:d≠I) :
  Walks prog w A I [I,d] [I] es.size (fun i v=>∃e,es[i]?=some e/\v=e.key) (fun i h=>h.get? I=some (z2u d i es.size ep)/\h.get? d=some (z69 es ep)) where
 sub:=fun b hb=>by simp at hb;simp [hb]
 frame:=fun _ _ _ st kp=>⟨kp I (by simp) _ st.1,kp d (by simp) _ st.2⟩
 item:=fun i s Q E hi st k=>zhm st.1 st.2 hi (k _ _ s.toks ⟨es[i],by simp [hi],rfl⟩ ⟨zjy st.1,by rw [Heap.get?_update_ne _ _ _ _ hne];exact st.2⟩ fun b o hb e=>by
  rw [Heap.get?_update_ne _ _ _ _ (fun z=>hb (by simp [z]))];exact e)
 done:=fun s Q E st k=>zjz hh st.1 st.2 (Nat.le_refl _) fun h' kp=>k h' s.toks fun b o hb e=>kp b o (fun z=>hb (by simp [z])) e
 self:=fun _ _ _ _ st k=>wpAny_pyIter_keyiter ⟨_,st.1,rfl,rfl⟩ k
theorem zk0 (lo:(d==sysModules)=false):PySem.W.KdlSrc prog w "dict" d d es.size (fun i v=>∃e,es[i]?=some e/\v=e.key) (fun h=>h.get? d=some (z69 es ep)) where
 type:=fun _ hm=>⟨_,hm,rfl⟩
 there:=fun _ hm=>⟨Heap.lt_size hm,Heap.lt_size hm⟩
 keep:=fun _ _ hm kp=>kp d (.inl rfl) _ hm
 notList:=by decide
 notTuple:=by decide
 hint:=fun _ _ _ _ hm hq=>PySem.W.kdl_hint_dict ⟨_,hm,rfl⟩ hq
 iter:=fun _ _ hh hm=>⟨_,_,(fun _ _ hq=>zhl lo hm hq),zep hh _ (Nat.ne_of_lt (Heap.lt_size hm)),Heap.get?_push_size _ rfl,Heap.get?_push_of_some _ hm⟩
end
mutual
noncomputable def zeq:NK->D
 | .i n=>.int n
 | .t ks=>.tup (zaz ks)
noncomputable def zaz:List NK->List D
 | []=>[]
 | k::ks=>zeq k::zaz ks
end
mutual
theorem zv9 {K:Frag} {H:Hp}:∀{k:NK} {x:V},NKr H k x->RD K H (zeq k) x
 | .i n,x,h=>by simp only [NKr] at h;subst h;simp only [zeq,RD]
 | .t ks,x,h=>by
  simp only [NKr] at h
  obtain ⟨a,xs,rfl,ha,hs⟩:=h
  simp only [zeq,RD]
  exact ⟨a,xs,rfl,ha,zm6 hs⟩
theorem zm6 {K:Frag} {H:Hp}:∀{ks:List NK} {xs:List V},NKrs H ks xs->RDs K H (zaz ks) xs
 | [],xs,h=>by simp only [NKrs] at h;subst h;simp only [zaz,RDs]
 | k::ks,xs,h=>by
  simp only [NKrs] at h
  obtain ⟨x,r,rfl,h1,h2⟩:=h
  simp only [zaz,RDs]
  exact ⟨x,r,rfl,zv9 h1,zm6 h2⟩
end
noncomputable def zb0:List D->Option D
 | [.dn ks _]=>some (.lst (ks.map zeq))
 | _=>none
def zm7:List V->Hp->VK->Prop:=fun xs H Q=>∃(a:Addr) (qs:List (NK×Addr)) (ys:List V) (ob:Obj),xs=[V.ref a]/\H a=some (.ext (dnP a qs ys ob))/\DN H a qs/\∀l,H l=none->Q (.ref l) (upd H l (.lst (qs.map fun q=>V.ref q.2)))
theorem zk1 {K:Frag}:z7r K true zb0 zm7:=by
 intro H0 H xs ds z Q s r ho k
 unfold zb0 at ho
 split at ho<;>cases ho
 obtain ⟨x,rfl,q1⟩:=r.uno
 simp only [RD] at q1
 obtain ⟨a,qs,ys,ob,rfl,h1,hk,n,ra⟩:=q1
 refine ⟨a,qs,ys,ob,rfl,s _ _ h1,n.tk fun b ys q=>s _ _ q,fun l hl=>k _ _ (.new s hl fun H' hH=>?_)⟩
 simp only [OB]
 refine ⟨_,hH,?_⟩
 rw [<-hk,List.map_map]
 have key:∀qs:List (NK×Addr),(∀q∈qs,NKr H0 q.1 (.ref q.2))->RDs K H0 (qs.map (zeq∘fun x=>x.1)) (qs.map fun q=>V.ref q.2):=by
  intro qs
  induction qs with
  | nil=>intro _;simp only [List.map_nil,RDs]
  | cons q qs ih=>
   intro h
   simp only [List.map_cons,RDs]
   exact ⟨_,_,rfl,zv9 (h q (by simp)),ih fun p hp=>h p (by simp [hp])⟩
 exact key qs fun q hq=>(n.2.1 q hq).1
theorem zpk {X:Cx} (hc:X.calm=true):CallR X (.type "list") zm7:=by
 intro pins s σ H xs us Q I r h
 obtain ⟨a,qs,ys,ob,rfl,ha,n,q⟩:=h
 obtain ⟨u,rfl,ru⟩:=z63 r
 cases ru
 obtain ⟨_,vs,p1,p2,o,es,ep,d1,d2,d3,d4,_⟩:=zhg I ha n
 have hsz:es.size=qs.length:=by rw [<-Array.length_toList,d4,List.length_map,zm5 qs vs p2]
 have hz:=n.2.2.2
 have d5:s.heap.get? a=some (z69 es ep):=by
  rw [d1]
  obtain ⟨cl,di,da,sl⟩:=o
  obtain ⟨q1,q2,q3⟩:=d2
  simp only at q1 q2 q3 d3
  subst q1 q2 q3 d3
  rfl
 refine PySem.W.kdl_call (zk0 (es:=es) (ep:=ep) n.2.2.1) (I.ok.hd hc) d5 (by rw [hsz];exact hz) fun h' tk acc' c' kp hl hit=>?_
 have hl2:acc'.size=qs.length:=by rw [hit.1,hsz]
 have hv:Vals (qs.map fun q=>V.ref q.2) acc'.toList:=by
  refine zce (by simp [hl2]) fun i x u hx hu=>?_
  rw [List.getElem?_map] at hx
  cases hq:qs[i]? with
  | none=>rw [hq] at hx;cases hx
  | some p=>
   rw [hq] at hx
   cases hx
   obtain ⟨e,he,rfl⟩:=hit.2 i u (by simpa using hu)
   have:es.toList[i]?=some e:=by simpa using he
   rw [d4,List.getElem?_map] at this
   have hz3:(z3 qs vs)[i]?=some (p.1,p.2,vs.getD i Value.none):=by
    unfold z3
    rw [List.getElem?_map,(List.getElem?_zip_eq_some (z:=(p,vs.getD i Value.none))).mpr ⟨hq,(by
     have hi:i<qs.length:=(List.getElem?_eq_some_iff.mp hq).1
     show vs[i]?=some (vs.getD i Value.none)
     rw [List.getD_eq_getElem?_getD,List.getElem?_eq_getElem (by omega)];rfl)⟩]
    rfl
   rw [hz3] at this
   cases this
   rfl
 exact ⟨.ref s.heap.objs.size,_,I.laid (t':=tk) (o:=.lst (qs.map fun q=>V.ref q.2)) kp (Nat.le_refl _) ⟨by rw [List.length_map];exact hz,acc'.toList,c',hv,by rw [hl]⟩,rfl,q _ (I.hok.fresh (Nat.le_refl _))⟩
end L2
namespace L2
open PySem PySem.Spec PyProof.Rows
section
open PySem.SeqAt
open PySem.AutoSeq1 (wpAny_loadPart')
end
end L2
namespace L2
open PySem PySem.Spec PyProof.Rows
section
open PySem.SeqAt
open PySem.AutoSeq1 (wpAny_loadPart')
end
end L2
namespace L2
open PySem PySem.Spec PyProof.Rows
section
open PySem.SeqAt
open PySem.AutoSeq1 (wpAny_loadPart')
end
section
open PySem.SeqAt
open PySem.AutoSeq1 (wpAny_loadPart')
end
end L2
namespace L2
open PySem PySem.Spec PyProof.Rows
def zz9 (i j:Int):Prop:=0<j/\j.natAbs<2 ^ 9000
noncomputable instance (i j:Int):Decidable (zz9 i j):=Classical.propDecidable _
section
open PySem.SeqAt
open PySem.AutoSeq1 (wpAny_loadPart')
end
end L2
namespace L2
open PySem PySem.Spec PyProof.Rows
section
open HT
open PySem.SeqAt
open PySem.AutoSeq1 (wpAny_loadPart')
open PySem.MeetsSeq PySem.MeetsSeq2 PySem.MeetsSeq3
end
end L2
namespace L2
open PySem PySem.Spec PyProof.Rows
structure FnAt (K:Frag) (x:Str) (st:Stmt) (f:Addr):Prop where
 ns:nsIn K mainGlobals x=some (some (.ref f))
 fn:∃fd,Fun K x x st f fd
section
variable {P:Program} {w:World} {K:Frag} {mg:Str->Option Value} {base h:Heap} {x:Str} {st:Stmt} {f:Addr} {ps:List Str} {k:Nat} {sp:Sp}
theorem fat {oc:Value} {od an:Option Addr} {osl:Array (Option Value)} {kV doc pm cdv ct:Value} (a:nsIn K mainGlobals x=some (some (.ref f))) (l:K.lookup f=some ⟨oc,od,.func (PySem.W.fnOf x x (z2l st) (z0u st) (z03 st) .none kV doc pm an cdv ct),osl⟩)
 (c:codeIn K cdv x=true) (k:keepIn K (.ref f)=true):FnAt K x st f:=⟨a,_,zrl l c k⟩
theorem zva {us:List Value} (h:us.length=1):∃a,us=[a]:=match us,h with | [a],_=>⟨a,rfl⟩
theorem zvb {us:List Value} (h:us.length=2):∃a b,us=[a,b]:=match us,h with | [a,b],_=>⟨a,b,rfl⟩
theorem zza {us:List Value} (h:us.length=3):∃a b c,us=[a,b,c]:=match us,h with | [a,b,c],_=>⟨a,b,c,rfl⟩
theorem zzb {us:List Value} (h:us.length=4):∃a b c d,us=[a,b,c,d]:=match us,h with | [a,b,c,d],_=>⟨a,b,c,d,rfl⟩
theorem got (X:K.In h) (G:h.Ns mainGlobals mg) (A:FnAt K x st f) (ok:∀{fd},Fun K x x st f fd->FnOk P w K mg base (CX1 P w) k f fd ps sp)
  (hb:∀(kV doc pm:Value) (an:Option Addr) (cdv ct:Value) (us:List Value),us.length=ps.length->bindArgs (PySem.W.fnOf x x (z2l st) (z0u st) (z03 st) .none kV doc pm an cdv ct) ⟨us,[]⟩=pure (ps.zip us):=by
   intro _ _ _ _ _ _ us hl
   first | (obtain ⟨_,rfl⟩:=zva hl;rfl) | (obtain ⟨_,_,rfl⟩:=zvb hl;rfl) | (obtain ⟨_,_,_,rfl⟩:=zza hl;rfl) | (obtain ⟨_,_,_,_,rfl⟩:=zzb hl;rfl)):z68 P w K mg base x ps k sp:=by
 obtain ⟨fd,F⟩:=A.fn
 exact ⟨f,fd,ok F,F.binds hb,PySem.W.mg_of X G A.ns,F.kp⟩
theorem fsc {N ps:List Str} {sc:Scope} (a:sc.kind=.function:=by rfl) (b:sc.isCoroutine=false:=by rfl) (c:sc.isGenerator=false:=by rfl) (d:N.Nodup:=by decide +kernel) (e:N.take ps.length=ps:=by rfl)
 (f:∀x∈ps,sc.names.lookup x=some .local\/sc.names.lookup x=some .cell:=by decide +kernel) (g:∀y∈sc.names,y.2≠.free:=by decide +kernel):FnScope N ps sc:=⟨a,b,c,d,e,f,g⟩
end
section
variable {X:Cx} {EX:XW} {fr fr':Bool} {a b e:Expr} {f g:DE->R D} {pos p:Pos} {m:List Bool} {j:Nat}
theorem qI (hr:Room j X.A) (ha:QE X EX false a f) (hb:QE X EX false b g) (hs:zbs b:=by exact fun _ _=>rfl):QE X EX false (.Subscript a b pos) (eOp dIx f g):=zy0 (y1h hr.units) zxy ha hb hs
theorem qL (hm:X.mg "len"=none) (ha:QE X EX false e f) (hg:Gl X "len":=by rfl) (he:starEach [e] X.env=(false,eval e X.env)::starEach [] X.env:=by rfl) (hpl:(backTo pos (starEach [] X.env)).any (·.1)=false:=by rfl) :
 QE X EX false (.Call (.Name "len" p) [e] [] pos) (eCB zeg (z01 f z0e)):=zsm zsp zsq hg hm PySem.boot_len (z00 ha z06 he) (he:=he) (hpl:=hpl)
theorem sA (i:Nat) {x:Str} {pos':Pos} (hN:X.N.Nodup) (he:QE X EX fr' e f) (hi:X.N[i]?=some x:=by rfl) (hx:Loc X.env.scope x:=by first | exact .inl rfl | exact .inr rfl) (hs:swapsWith e (some (.Name x pos')) pos.line X.env=pure false:=by rfl) (hf:X.fn x=true\/X.env.scope.names.lookup x=some .local:=by first | exact .inl rfl | exact .inr rfl | assumption) :
 QS X EX fr (.Assign [.Name x pos'] e pos) (z30 fr' i m f):=zy6 hN hi hx he hs hf
theorem tE (hr:Room j X.A) (ha:QE X EX false a f) (hb:QE X EX false b g) (hm:behindInMarks .Eq b=false):QT X EX (.Compare a [.Eq] [b] pos) (z2i asB (eOp dEq f g)):=z70 (znu hr.units) znv ha hb hm
theorem tN (hr:Room j X.A) (ha:QE X EX false a f) (hb:QE X EX false b g) (hm:behindInMarks .NotEq b=false):QT X EX (.Compare a [.NotEq] [b] pos) (z2i asB (eOp dNe f g)):=z70 (zxu hr.units) zxv ha hb hm
end
section
variable {rk:Keyed->Nat}
noncomputable def tk (rk:Keyed->Nat) (xs:Array Keyed) (i:Nat):Nat:=match xs[i]? with
 | some p=>rk p
 | none=>0
end
section
noncomputable def z31 (h:Heap) (a:Addr) (vs:List Value):Heap:=((h.update a (Obj.mapSeq fun _=>#[])).push (seqObj "tuple" vs.toArray 0)).push (seqObj "list" #[] 0)
theorem zer {h:Heap} {a:Addr} {vs:List Value} {n:Nat} (ho:h.get? a=some (seqObj "list" vs.toArray n)) :
  ∃k,(h.update a (Obj.mapSeq fun _=>#[])).get? a=some (seqObj "list" #[] k)/\(z31 h a vs).get? a=some (seqObj "list" #[] k):=
 ⟨_,get?_update_seq ho fun _=>#[],Heap.get?_push_of_some _ (Heap.get?_push_of_some _ (get?_update_seq ho fun _=>#[]))⟩
noncomputable def z32 (h:Heap) (vs:List Value):Heap:=((h.push (seqObj "list" #[] 0)).update h.objs.size (Obj.mapSeq (·++vs.toArray))).push (seqObj "list" vs.toArray 0)
theorem z4t (h:Heap) (vs:List Value):(z32 h vs).get? (h.objs.size+1)=some (seqObj "list" vs.toArray 0):=by
 have e:((h.push (seqObj "list" #[] 0)).update h.objs.size (Obj.mapSeq (·++vs.toArray))).objs.size=h.objs.size+1:=(Heap.size_update _ _ _).trans (size_push' _ _)
 unfold z32
 conv=>lhs;arg 2;rw [<-e]
 exact Heap.get?_push_size _ rfl
theorem zes {h:Heap} {vs:List Value} {b:Addr} {o:Obj} (q:h.get? b=some o):(z31 (z32 h vs) (h.objs.size+1) vs).get? b=some o:=by
 have lt:b<h.objs.size:=Heap.lt_size q
 refine Heap.get?_push_of_some _ (Heap.get?_push_of_some _ ?_)
 rw [Heap.get?_update_ne _ _ _ _ (Nat.ne_of_lt (Nat.lt_add_right 1 lt))]
 refine Heap.get?_push_of_some _ ?_
 rw [Heap.get?_update_ne _ _ _ _ (Nat.ne_of_lt lt)]
 exact Heap.get?_push_of_some _ q
end
end L2
set_option maxHeartbeats 1000000
namespace L2
open PySem PySem.Spec PyProof.Rows
abbrev zzc (X:Cx) (sc:Scope) (qual:Str) (f c L:Addr):Env:=PySem.W.envX qual sc L f (.ref c) (z0d X.env.cells sc.names [])
noncomputable def zb1 (X:Cx) (sc:Scope) (N':List Str) (qual:Str) (f c:Addr) (A:Around) (s:Shared) (H:Hp):Cx:=
 { X with A:=A.deeper (zzc X sc qual f c s.heap.objs.size),env:=zzc X sc qual f c s.heap.objs.size,N:=N',s₀:=s,H₀:=H,outer:=X.stack,stack:=zzc X sc qual f c s.heap.objs.size::X.stack,ex:=[],fn:=fun _=>false,pn:=[],xe:=fun _ _=>False }
section
variable {X:Cx} {sc:Scope} {caps:List Str} {ix:List Nat} {pins:List (Addr×Obj)} {σ:St} {H:Hp} {s:Shared}
theorem zhn {p qual:Str} {f c:Addr} {A:Around} {x:V} {u:Value} (C:CompOk X sc caps ix) (I:Inv X pins σ H s) (hA:A.frames=some X.stack) (hd:A.handled=none) (hp:sc.names.lookup p=some .local) (hc:p∉caps) (r:RelV x u)
  {h':Heap} {t':Nat} {m:Str->Option Value} (hn:h'.Ns s.heap.objs.size m) (hm:m p=some u) (hk:∀b o,s.heap.get? b=some o->h'.get? b=some o) :
  Inv (zb1 X sc (p::caps) qual f c A s H) [] (some x::z6r ix σ) H { s with heap:=h',toks:=t' }:=by
 have sub:∀{x c},(z0d X.env.cells sc.names []).lookup x=some c->X.env.cells.lookup x=some c:=fun h=>C.sub I h
 have noA:∀b:Addr,b∉(zb1 X sc (p::caps) qual f c A s H).ex:=fun b z=>absurd (show b∈([]:List Addr) from z) (by simp)
 refine ⟨⟨I.ok.mod,C.kind,rfl,rfl,Nat.le_refl _,fun x y c h1 h2=>I.ok.inj x y c (sub h1) (sub h2),fun y hy=>?_,fun y c hfn _=>absurd (show false=true from hfn) Bool.false_ne_true,fun _=>hd,Around.frames_deeper hA,.inr ⟨rfl,rfl⟩,fun b hb=>absurd hb (noA b),I.bs,Nat.le_trans I.ok.bsz I.sz,fun b o e=>noA b,fun b hb=>absurd hb (noA b),I.stack,I.stkFree⟩,
  rfl,I.bare,Un.kept hk,⟨m,hn,fun i y v e1 e2 e3=>?_⟩,fun y c h=>?_,I.hok.fresh (Nat.le_refl _),fun y c h=>I.freeC y c (sub h),fun q hq=>absurd (show q∈([]:List (Addr×Obj)) from hq) (by simp),I.hok.kept hk,?_⟩
 . have hy:sc.names.lookup y=some .cell\/sc.names.lookup y=some .free:=hy
   rcases hy with z | z
   . exact absurd rfl (C.ncell _ (PySem.mem_of_lookup z))
   . exact z1o (.inr ⟨_,PySem.mem_of_lookup z,rfl,rfl⟩)
 . cases i with
   | zero=>
    have e1:p=y:=by simpa using (show (p::caps)[0]?=some y from e1)
    have e2:x=v:=by simpa using e2
    subst e1;subst e2
    exact ⟨u,r,.inl ⟨hp,hm⟩⟩
   | succ j=>
    have e1:caps[j]?=some y:=by simpa using (show (p::caps)[j+1]?=some y from e1)
    have e2:(z6r ix σ)[j]?=some (some v):=by simpa using e2
    obtain ⟨hfr,k,hj,hkN⟩:=C.cap _ y e1
    have e2':σ[k]?=some (some v):=by
     unfold z6r at e2
     rw [List.getElem?_map,hj] at e2
     simp only [Option.map_some] at e2
     have e2:=Option.some.inj e2
     cases q:σ[k]? with
     | none=>rw [q] at e2;cases e2
     | some o=>rw [q] at e2;exact congrArg some e2
    have hmem:(y,NameKind.free)∈sc.names:=PySem.mem_of_lookup hfr
    have hkind:=C.free _ hmem rfl
    obtain ⟨m0,hn0,hl0⟩:=I.loc
    obtain ⟨u',r',look⟩:=hl0 k y v hkN e2' (hkind.elim (fun z=>.inr (.inl z)) fun z=>.inr (.inr z))
    refine ⟨u',r',?_⟩
    rcases look with ⟨z,_⟩ | ⟨_,c1,hc1,o,ho,hdo⟩
    . rcases hkind with q | q
      . rw [show X.env.kindOf y=some .cell from q] at z;cases z
      . rw [show X.env.kindOf y=some .free from q] at z;cases z
    . obtain ⟨c2,hc2⟩:=z1o (cells:=X.env.cells) (names:=sc.names) (acc:=[]) (x:=y) (.inr ⟨_,hmem,rfl,rfl⟩)
      have hcc:c2=c1:=by have:=sub hc2;rw [hc1] at this;exact (Option.some.inj this).symm
      subst hcc
      exact .inr ⟨.inr hfr,c2,hc2,o,hk _ o ho,hdo⟩
 . obtain ⟨v,o,ho,hdo⟩:=I.cell y c (sub h)
   exact ⟨v,o,hk _ o ho,hdo⟩
 . show (some x::z6r ix σ).length=(p::caps).length
   unfold z6r
   rw [List.length_cons,List.length_map,List.length_cons,C.len]
theorem zpl {p nm qual:Str} {f c:Addr} {A:Around} {x:V} {u pm ctv:Value} {params:Arguments} {body:Expr} {t:TE} {Q:VK} (C:CompOk X sc caps ix) (I:Inv X pins σ H s) (hA:A.frames=some X.stack) (hd:A.handled=none) (hr:A.depth<recursionLimit)
  (hf:s.heap.get? f=some (PySem.W.kla_obj nm qual params body sc (z0d X.env.cells sc.names []) pm c ctv)) (hcd:s.heap.CodeRec (.ref c) qual)
  (hb:bindArgs (kla_fn nm qual params body sc (z0d X.env.cells sc.names []) pm (.ref c) ctv) ⟨[u],[]⟩=pure [(p,u)])
  (hp:sc.names.lookup p=some .local) (hc:p∉caps) (hco:sc.isCoroutine=false) (hgen:sc.isGenerator=false) (r:RelV x u)
  (he:PE (zb1 X sc (p::caps) qual f c A s H) body t) (ht:t (some x::z6r ix σ) H Q):wpAny (model X.prog X.w) A (call (.ref f) [u]) (CE X.stack X.prog X.w H s Q) (fun _ _=>False) s:=by
 refine wpAny_call (codeAny_mono (R:=fun r s'=>match r with
  | .ok (.ret v)=>CE X.stack X.prog X.w H s Q v s'
  | _=>False) ?_ fun r s' h=>?_)
 . refine PySem.W.kla_callFunE hr hf rfl hco hgen rfl hcd ?_
   rw [hb]
   refine wpAny_pure (wpAny_newFunctionEnv C.ncell (fun y hy=>by rw [List.mem_singleton.mp hy];exact hp) (fun h1 hns hsb=>⟨I.nolimit.fresh _ hsb,?_⟩) C.kind)
   have hk:∀b o,s.heap.get? b=some o->h1.get? b=some o:=fun b o e=>hsb.extBut b o (Nat.ne_of_lt (Heap.lt_size e)) (Heap.get?_push_of_some _ e)
   refine PySem.W.kla_codeExpr (wpAny_mono (he [] _ _ H Q (zhn C I hA hd hp hc r hns (by simp [List.lookup]) hk) ht) (fun v s' hs=>?_) fun _ _ z=>z.elim)
   obtain ⟨v',H',J,rv,q⟩:=hs
   exact ⟨v',H',J.os,J.bare,J.base,J.hok,rv,q⟩
 . cases r with
   | error e=>exact h.elim
   | ok fl=>
    cases fl with
    | ret v=>exact h
    | next=>exact h.elim
    | brk=>exact h.elim
    | cont=>exact h.elim
end
theorem zho {pos:Pos} {a b:Int} {c v:Value} (l:List Value) (h:TriplesOk l) (e:codeAmong pos (l++[rawInt a,rawInt b,c])=some v):codeAmong pos l=some v\/v=c:=by
 fun_induction TriplesOk l with
 | case1=>
  simp only [List.nil_append,codeAmong,rawInt] at e
  split at e
  . exact .inr (Option.some.inj e).symm
  . cases e
 | case2 a' t b' u x rest ih=>
  simp only [List.cons_append,codeAmong] at e ⊢
  split at e
  . rename_i hc;rw [if_pos hc];exact .inl e
  . rename_i hc;rw [if_neg hc];exact ih h e
 | case3 l h1 h2=>exact h.elim
section
variable {X:Cx} {sc:Scope} {caps:List Str} {ix:List Nat} {pins:List (Addr×Obj)} {σ:St} {H:Hp} {s:Shared}
theorem Inv.word {P:Addr} {o o':HO} (I:Inv X pins σ H s) (e:H P=some o) (n1:∀y,o≠.own y) (n2:∀xs,o≠.tup xs) (n3:∀b u,o≠.frz b u\/X.H₀ P≠some (.frz b u)) (n4:∀ps,o≠.tbl ps) (h:ObjOk X.prog X.w (upd H P o') s.heap P o'):Inv X pins σ (upd H P o') s:=by
 have ne:∀{b:Addr} {u:HO},H b=some u->u≠o->b≠P:=fun {b u} q z y=>by
  rw [y,e] at q;exact z (Option.some.inj q).symm
 have nn:∀{b:Addr},H b=none->b≠P:=fun {b} q y=>by rw [y,e] at q;cases q
 refine ⟨I.ok,I.os,I.bare,⟨I.base.keep,I.base.slot,fun b ob q z y=>?_,I.base.there,fun b xs q=>?_,fun b ob u q=>?_,fun b ps q=>?_⟩,I.loc,I.cell,?_,fun x c q=>?_,fun p hp=>?_,fun b u q=>?_,I.len⟩
 . have:=I.base.free b ob q z y
   rw [z02 (nn this)];exact this
 . have:=I.base.tups b xs q
   rw [z02 (ne this fun z=>n2 xs z.symm)];exact this
 . have:=I.base.frzs b ob u q
   rw [z02 fun z=>?_]
   . exact this
   . rw [z] at this q
     rw [e] at this
     rcases n3 ob u with y | y
     . exact y (Option.some.inj this)
     . exact y q
 . obtain ⟨m,this⟩:=I.base.tbls b ps q
   exact ⟨m,by rw [z02 (ne this fun z=>n4 _ z.symm)];exact this⟩
 . rw [z02 (nn I.free)];exact I.free
 . have:=I.freeC x c q
   rw [z02 (nn this)];exact this
 . obtain ⟨a,b,c⟩:=I.pin p hp
   exact ⟨a,by rw [z02 (nn b)];exact b,c⟩
 . by_cases hb:b=P
   . subst hb
     rw [z05] at q;cases q
     exact h
   . rw [z02 hb] at q
     refine (I.hok b u q).stay (fun _ _ _ z=>z) (fun c z=>?_) fun c xs z=>?_
     . rw [z02 (ne z fun y=>n1 _ y.symm)];exact z
     . rw [z02 (ne z fun y=>n2 _ y.symm)];exact z
theorem Inv.tab {P:Addr} {q:Str} {H':Hp} {h':Heap} {t':Nat} (I:Inv X pins σ H s) (e:H P=some (.ctb q)) (hH:∀b o,H b=some o->H' b=some o) (hN:∀b,b<s.heap.objs.size->H b=none->H' b=none) (hx:Heap.ExtBut P s.heap h')
  (hP:ObjOk X.prog X.w H' h' P (.ctb q)) (hnew:∀b o,H' b=some o->H b=none->ObjOk X.prog X.w H' h' b o):Inv X pins σ H' { s with heap:=h',toks:=t' }:=by
 have nn:∀{b:Addr},H b=none->b≠P:=fun {b} q y=>by rw [y,e] at q;cases q
 have un:Un X.fs X.ex H H' s.heap h':=⟨fun b o q z _ _=>hx b o (nn z) q,fun b o q z _ _=>⟨o.slots,hx b o (nn z) q⟩,fun b o q z _=>hN b (Heap.lt_size q) z,fun b o q _=>by
  by_cases hb:b=P
  . subst hb
    obtain ⟨ps,z,_⟩:=hP
    exact ⟨_,z⟩
  . exact ⟨o,hx b o hb q⟩,fun b xs q=>hH b _ q,fun b o u q=>hH b _ q,fun b ps q=>⟨#[],by rw [hH b _ q];simp⟩⟩
 obtain ⟨m,hn,hl⟩:=I.loc
 refine ⟨I.ok,I.os,I.bare,I.base.trans un,⟨m,hn.extBut hx (nn I.free),fun i y v e1 e2 e3=>?_⟩,fun y c hc=>?_,hN _ I.lt I.free,fun y c hc=>?_,fun p hp=>?_,fun b u q=>?_,I.len⟩
 . obtain ⟨u,r,look⟩:=hl i y v e1 e2 e3
   refine ⟨u,r,?_⟩
   rcases look with z | ⟨k,c,hc,o,ho,hd⟩
   . exact .inl z
   . exact .inr ⟨k,c,hc,o,hx _ _ (nn (I.freeC y c hc)) ho,hd⟩
 . obtain ⟨v,o,ho,hd⟩:=I.cell y c hc
   exact ⟨v,o,hx _ _ (nn (I.freeC y c hc)) ho,hd⟩
 . obtain ⟨v,o,ho,hd⟩:=I.cell y c hc
   exact hN _ (Heap.lt_size ho) (I.freeC y c hc)
 . obtain ⟨a,b,c⟩:=I.pin p hp
   exact ⟨hx _ _ (nn b) a,hN _ (Heap.lt_size a) b,c⟩
 . cases z:H b with
   | none=>exact hnew b u q z
   | some o=>
    have:o=u:=by rw [hH b o z] at q;exact Option.some.inj q
    subst this
    by_cases hb:b=P
    . subst hb;rw [e] at z;cases z;exact hP
    . refine (I.hok b o z).stay (fun c v hc r=>hx c v (fun y=>?_) r) (fun c r=>hH c _ r) fun c xs r=>hH c _ r
      rcases hc with rfl | hc
      . exact hb y
      . rw [y,e] at hc;cases hc
structure LamAt (X:Cx) (c P:Addr):Prop where
 code:X.env.code=.ref c
 hd:PySem.W.CodeHd X.base c P
 bb:X.base.BuiltinsAt X.mg P
abbrev z7c (X:Cx):Str:=X.env.qual++"<lambda>"
abbrev zf1 (X:Cx) (params:Arguments) (body:Expr) (sc:Scope) (pm:Value) (c:Addr) (ctv:Value):Obj:=PySem.W.kla_obj "<lambda>" (z7c X) params body sc (z0d X.env.cells sc.names []) pm c ctv
theorem Inv.hold {f:Addr} {o:Obj} (I:Inv X pins σ H s) (h1:s.heap.get? f=some o) (h2:H f=none) (h3:f≠X.env.locals) (h4:f∉X.fs) (h5:∀v,o.data≠.cell v):Inv X ((f,o)::pins) σ H s:=
 ⟨I.ok,I.os,I.bare,I.base,I.loc,I.cell,I.free,I.freeC,fun p hp=>by
  rcases List.mem_append.mp hp with hp | hp
  . exact I.pin p (List.mem_append_left _ hp)
  . rcases List.mem_cons.mp hp with rfl | hp
    . exact ⟨h1,h2,h3,h4,h5⟩
    . exact I.pin p (List.mem_append_right _ hp),I.hok,I.len⟩
theorem zk2 {c P:Addr} {params:Arguments} {body:Expr} {pos:Pos} {Q:Value->Shared->Prop} (A:LamAt X c P) (C:CompOk X sc caps ix) (I:Inv X pins σ H s) (hP:H P=some (.ctb (z7c X))) (hdef:defaultsOf params X.env=([],[]))
  (h:∀(f c':Addr) (pm ctv:Value) (H':Hp) (ps:Array Value) (s':Shared),(∀b o,H b=some o->H' b=some o)->X.env.locals<f->Inv X ((f,zf1 X params body sc pm c' ctv)::pins) σ H' s'->s'.heap.get? P=some { cls:=.none,data:=.fields ps }->codeAmong pos ps.toList=some (.ref c')->Q (.ref f) s') :
  wpAny (model X.prog X.w) X.A (eval (.Lambda params body sc pos) X.env) Q X.xe s:=by
 obtain ⟨ps,e1,tr,all⟩:=I.hok P _ hP
 have hcl:closureFor sc X.env=pure (z0d X.env.cells sc.names []):=z2m (C.free_cell I)
 have hgs:s.heap.Ns mainGlobals X.mg:=I.mod.glob.keeps I.bk
 have hgP:mainGlobals≠P:=fun z=>by
  obtain ⟨o,es,ep,e,hd,_⟩:=hgs
  rw [z,e1] at e;cases e;cases hd
 have hbb:s.heap.BuiltinsAt X.mg P:=by
  obtain ⟨bm,o,b1,b2,b3,b4,b5,b6⟩:=A.bb
  exact ⟨bm,o,b1,b2,b3,b4,I.bk _ _ b5,b6⟩
 refine PySem.W.kla_eval hdef ?_
 cases ca:codeAmong pos ps.toList with
 | some cv=>
  obtain ⟨c',rfl,hc1,hc2⟩:=all pos cv ca
  refine PySem.W.kla_makeFunctionHit (mg:=X.mg) hcl I.ok.glob hgs A.code (A.hd.keeps I.bk) e1 tr ca hbb fun ctv h' tk hk hsz=>?_
  have hx:Heap.ExtBut P s.heap (h'.push (zf1 X params body sc ((X.mg "__name__").getD .none) c' ctv)):=fun b o _ q=>Heap.get?_push_of_some _ (hk b o q)
  have eP:(h'.push (zf1 X params body sc ((X.mg "__name__").getD .none) c' ctv)).get? P=some { cls:=.none,data:=.fields ps }:=Heap.get?_push_of_some _ (hk _ _ e1)
  have I':Inv X pins σ H { s with heap:=h'.push (zf1 X params body sc ((X.mg "__name__").getD .none) c' ctv),toks:=tk }:=I.tab hP (fun _ _ q=>q) (fun _ _ q=>q) hx
   ((I.hok P _ hP).stay (fun b u _ q=>Heap.get?_push_of_some _ (hk b u q)) (fun _ q=>q) fun _ _ q=>q) fun b o q z=>by rw [z] at q;cases q
  refine h h'.objs.size c' _ ctv H ps _ (fun _ _ q=>q) (Nat.lt_of_lt_of_le I.lt hsz) (I'.hold (Heap.get?_push_size _ rfl) (I.hok.fresh hsz) (Nat.ne_of_gt (Nat.lt_of_lt_of_le I.lt hsz)) (I.nofs hsz) fun v z=>nomatch z) eP ca
 | none=>
  refine PySem.W.kla_makeFunction (mg:=X.mg) hcl I.ok.glob hgs A.code (A.hd.keeps I.bk) e1 tr ca hgP hbb fun c' ctv h' tk hx hge hlt hrec htb=>?_
  have hsz:s.heap.objs.size<=h'.objs.size:=Nat.le_trans hge (Nat.le_of_lt hlt)
  have hc0:H c'=none:=I.hok.fresh hge
  have hsame:∀b o,H b=some o->upd H c' (.own P) b=some o:=fun b o q=>by rw [z02 (z0b q hc0)];exact q
  obtain ⟨c2,oc,vs,tq,er,ho,hd,hv⟩:=hrec
  cases er
  have eP:(h'.push (zf1 X params body sc ((X.mg "__name__").getD .none) c' ctv)).get? P=some { cls:=.none,data:=.fields (ps++#[rawInt pos.line,rawInt pos.col,.ref c']) }:=Heap.get?_push_of_some _ htb
  have hl:(ps++#[rawInt pos.line,rawInt pos.col,Value.ref c']).toList=ps.toList++[rawInt pos.line,rawInt pos.col,.ref c']:=by simp
  have hx':Heap.ExtBut P s.heap (h'.push (zf1 X params body sc ((X.mg "__name__").getD .none) c' ctv)):=fun b o n q=>Heap.get?_push_of_some _ (hx b o n q)
  have ok:ObjOk X.prog X.w (upd H c' (.own P)) (h'.push (zf1 X params body sc ((X.mg "__name__").getD .none) c' ctv)) P (.ctb (z7c X)):=by
   refine ⟨_,eP,by rw [hl];exact TriplesOk_snoc _ _ _ _ tr,fun pos' v hv'=>?_⟩
   rw [hl] at hv'
   rcases zho _ tr hv' with z | z
   . obtain ⟨c3,rfl,y1,c4,oc4,vs4,tq4,y2,y3,y4⟩:=all pos' v z
     cases y2
     exact ⟨c3,rfl,hsame _ _ y1,c3,oc4,vs4,tq4,rfl,hx' _ _ (fun w'=>by rw [w',hP] at y1;cases y1) y3,y4⟩
   . subst z
     exact ⟨c',rfl,z05,c',oc,vs,tq,rfl,Heap.get?_push_of_some _ ho,hd,hv⟩
  have I':Inv X pins σ (upd H c' (.own P)) { s with heap:=h'.push (zf1 X params body sc ((X.mg "__name__").getD .none) c' ctv),toks:=tk }:=I.tab hP hsame (fun b hb q=>by rw [z02 (Nat.ne_of_lt (Nat.lt_of_lt_of_le hb hge))];exact q) hx' ok fun b o q z=>by
   by_cases hb:b=c'
   . subst hb;rw [z05] at q;cases q
     exact ⟨oc,Heap.get?_push_of_some _ ho⟩
   . rw [z02 hb,z] at q;cases q
  refine h h'.objs.size c' _ ctv _ _ _ hsame (Nat.lt_of_lt_of_le I.lt hsz) (I'.hold (Heap.get?_push_size _ rfl) (by rw [z02 (Nat.ne_of_gt hlt)];exact I.hok.fresh hsz) (Nat.ne_of_gt (Nat.lt_of_lt_of_le I.lt hsz)) (I.nofs hsz) fun v z=>nomatch z) eP ?_
  rw [hl]
  exact codeAmong_snoc _ tr ca
end
section
variable {X:Cx} {sc:Scope} {caps:List Str} {ix:List Nat} {pins:List (Addr×Obj)} {σ:St} {H:Hp} {s:Shared}
theorem Inv.drop {p:Addr×Obj} (I:Inv X (p::pins) σ H s):Inv X pins σ H s:=
 ⟨I.ok,I.os,I.bare,I.base,I.loc,I.cell,I.free,I.freeC,fun q hq=>I.pin q (by
  rcases List.mem_append.mp hq with z | z
  . exact List.mem_append_left _ z
  . exact List.mem_append_right _ (List.mem_cons_of_mem _ z)),I.hok,I.len⟩
theorem Inv.pinAt {p:Addr×Obj} (I:Inv X (p::pins) σ H s):s.heap.get? p.1=some p.2/\H p.1=none/\p.1≠X.env.locals/\p.1∉X.fs/\∀v,p.2.data≠.cell v:=I.pin p (List.mem_append_right _ List.mem_cons_self)
theorem Inv.chg {d:Addr} {o o':Obj} {h':Heap} {m:Str->Option Value} (I:Inv X ((d,o)::pins) σ H s) (hx:X.pn=[]) (hp:∀p∈pins,p.1≠d) (hs:X.s₀.heap.objs.size<=d) (hn:s.heap.Ns X.env.locals m) (hn':h'.Ns X.env.locals m)
  (kept:∀b ob,b≠X.env.locals->b≠d->s.heap.get? b=some ob->h'.get? b=some ob) (e:h'.get? d=some o') (hd:∀v,o'.data≠.cell v):Inv X ((d,o')::pins) σ H { s with heap:=h' }:=by
 obtain ⟨p1,p2,p3,p4,p5⟩:=I.pinAt
 have J:=I.drop
 have nc:∀{b u},H b=some u->b≠d:=fun {b u} q z=>by rw [z,p2] at q;cases q
 have nL:∀{b u},H b=some u->b≠X.env.locals:=fun {b u} q z=>by rw [z,I.free] at q;cases q
 refine Inv.hold (J.step (g':=s.gens) (t':=s.toks) (d':=s.drawn) (ch:=[d]) (fun b hb=>?_) (fun b o hL _ hc e _=>kept b o hL (fun z=>hc (by rw [z];exact List.mem_singleton.mpr rfl)) e) (fun b o hL _ hc e _=>⟨o.slots,kept b o hL (fun z=>hc (by rw [z];exact List.mem_singleton.mpr rfl)) e⟩) (fun _ _ _ _ n=>n) (fun b o hc e=>?_) (fun _ _ e=>e) (fun _ _ _ e=>e) (fun b ps e=>⟨#[],by rw [e];simp⟩) (fun m' hm=>?_) (fun b u e=>?_) I.bare) e p2 p3 p4 hd
 . rw [List.mem_singleton.mp hb]
   refine ⟨.inr hs,p3,fun x c q z=>?_,fun p hq=>?_⟩
   . obtain ⟨v,oc,ho,hdc⟩:=I.cell x c q
     rw [z,p1] at ho;cases ho
     exact p5 v hdc
   . rw [hx,List.nil_append] at hq
     exact hp p hq
 . by_cases hb:b=X.env.locals
   . subst hb
     obtain ⟨o',_,_,ho',_⟩:=hn'
     exact ⟨o',ho'⟩
   . exact ⟨o,kept b o hb (fun z=>hc (by rw [z];exact List.mem_singleton.mpr rfl)) e⟩
 . rw [hm.eq_nsMap,<-hn.eq_nsMap];exact hn'
 . refine (I.hok b u e).stay (fun c v hc q=>kept c v ?_ ?_ q) (fun _ q=>q) fun _ _ q=>q
   . rcases hc with rfl | hc
     . exact nL e
     . exact nL hc
   . rcases hc with rfl | hc
     . exact nc e
     . exact nc hc
structure LamOn (X:Cx) (sc:Scope) (caps:List Str) (ix:List Nat) (p:Str) (params:Arguments) (body:Expr) (P f c:Addr) (pm ctv:Value) (ps:Array Value) (pos:Pos) (H:Hp):Prop where
 C:CompOk X sc caps ix
 tab:H P=some (.frz { cls:=.none,data:=.fields ps } (.ctb (z7c X)))
 at_:codeAmong pos ps.toList=some (.ref c)
 bind:∀u,bindArgs (kla_fn "<lambda>" (z7c X) params body sc (z0d X.env.cells sc.names []) pm (.ref c) ctv) ⟨[u],[]⟩=pure [(p,u)]
 par:sc.names.lookup p=some .local
 own:p∉caps
 co:sc.isCoroutine=false
 gen:sc.isGenerator=false
theorem LamOn.mono {p:Str} {params:Arguments} {body:Expr} {P f c:Addr} {pm ctv:Value} {ps:Array Value} {pos:Pos} {H':Hp} (O:LamOn X sc caps ix p params body P f c pm ctv ps pos H) (h:Same H H'):LamOn X sc caps ix p params body P f c pm ctv ps pos H':=
 ⟨O.C,h _ _ O.tab,O.at_,O.bind,O.par,O.own,O.co,O.gen⟩
theorem zk3 {p:Str} {params:Arguments} {body:Expr} {P f c:Addr} {pm ctv:Value} {ps:Array Value} {pos:Pos} {A:Around} {x:V} {u:Value} {k:Int} {m:Str->Option Value} (O:LamOn X sc caps ix p params body P f c pm ctv ps pos H) (I:Inv X pins σ H s) (hn:s.heap.Ns X.env.locals m)
  (hf:(f,zf1 X params body sc pm c ctv)∈pins) (hA:A.frames=some X.stack) (hd:A.handled=none) (hr:A.depth<recursionLimit) (r:RelV x u)
  (hb:∃t,PE (zb1 X sc (p::caps) (z7c X) f c A s H) body t/\t (some x::z6r ix σ) H fun y H'=>y=.int k/\Same H H') :
  wpAny (model X.prog X.w) A (call (.ref f) [u]) (fun v s'=>(∃t,v=.int k t)/\∃H',Same H H'/\Inv X pins σ H' s'/\s'.heap.Ns X.env.locals m) (fun _ _=>False) s:=by
 obtain ⟨t,he,ht⟩:=hb
 obtain ⟨e1,ps2,e2,tr,all⟩:=I.hok P _ O.tab
 have z:=e1.symm.trans e2
 cases z
 obtain ⟨c2,hc2,_,rec⟩:=all pos _ O.at_
 cases hc2
 refine wpAny_mono (zpl O.C I hA hd hr (I.pin _ (List.mem_append_right _ hf)).1 rec (O.bind u) O.par O.own O.co O.gen r he ht) (fun v s' h=>?_) fun _ _ z=>z
 obtain ⟨v',H',os,bare,un,hok,rv,rfl,sm⟩:=h
 obtain ⟨v2,H2,J,_,rfl⟩:=I.after (Q:=fun _ H2=>H2=H') ⟨_,H',os,bare,un,hok,rv,rfl⟩
 refine ⟨?_,H2,sm,J,?_⟩
 . exact rv
 . obtain ⟨o,es,ep,ho,hdd,hk,hfd⟩:=hn
   obtain ⟨sl,e⟩:=un.any ho I.free (by simp)
   exact ⟨_,es,ep,e,hdd,hk,hfd⟩
end
theorem zb2 {n:Int} {t:Tok}:∀{vs:List Value} {ns:List Int},IntsAre vs ns->IntsAre (vs++[.int n t]) (ns++[n])
 | _,_,.nil=>.cons n t .nil
 | _,_,.cons k u r=>.cons k u (zb2 r)
theorem z6g {i:Nat}:∀{vs:List Value} {ns:List Int},IntsAre vs ns->i<vs.length->∃t,vs.getD i Value.none=.int (ns.getD i 0) t
 | _,_,.nil,h=>absurd h (Nat.not_lt_zero _)
 | _,_,.cons k u r,h=>by
  cases i with
  | zero=>exact ⟨u,rfl⟩
  | succ j=>exact z6g (i:=j) r (by simpa using h)
theorem z9n:∀{vs:List Value} {ns:List Int},IntsAre vs ns->vs.length=ns.length
 | _,_,.nil=>rfl
 | _,_,.cons k u r=>by rw [List.length_cons,List.length_cons,z9n r]
section
variable {X:Cx} {sc:Scope} {caps:List Str} {ix:List Nat} {pins:List (Addr×Obj)} {σ:St} {H:Hp} {s s0:Shared} {p:Str} {params:Arguments} {body:Expr} {P f c kS D:Addr} {pm ctv:Value} {ps:Array Value} {pos:Pos} {A:Around} {m:Str->Option Value} {e1:Nat}
theorem zpm (hn:s.heap.Ns X.env.locals m):Fr (Att.noObjs s0.heap) X.env.locals s.heap m:=⟨hn,fun b o e=>(by rw [Att.noObjs_get] at e;cases e),Nat.zero_le _⟩
theorem zdu (hx:X.pn=[]) (hf:(f,zf1 X params body sc pm c ctv)∈pins) (hA:A.frames=some X.stack) (hd:A.handled=none) (hr:A.depth<recursionLimit)
  (hk:X.s₀.heap.objs.size<=kS) (hp:∀p∈pins,p.1≠kS) (hD:D≠kS) {Fin:List Value->Nat->Shared->Prop} :
  ∀(r:List Value) (xs:List V) (kr:List Int) (ks:List Value) (kd:List Int) (e:Nat) (s:Shared) (H:Hp),LamOn X sc caps ix p params body P f c pm ctv ps pos H->Vals xs r->kr.length=xs.length->IntsAre ks kd->Inv X ((kS,seqObj "list" ks.toArray e)::(D,seqObj "list" #[] e1)::pins) σ H s->s.heap.Ns X.env.locals m ->
   (∀(i:Nat) x k,xs[i]?=some x->kr[i]?=some k->∀s H2,Same H H2->∃t,PE (zb1 X sc (p::caps) (z7c X) f c A s H2) body t/\t (some x::z6r ix σ) H2 fun y H'=>y=.int k/\Same H2 H') ->
   (∀ks' e' s' H2,Same H H2->IntsAre ks' (kd++kr)->Inv X ((kS,seqObj "list" ks'.toArray e')::(D,seqObj "list" #[] e1)::pins) σ H2 s'->s'.heap.Ns X.env.locals m->Fin ks' e' s') ->
   PySem.W.KatKeys X.prog X.w A (Att.noObjs s0.heap) X.env.locals m kS (.ref f) Fin r ks e s
 | [],xs,kr,ks,kd,e,s,H,O,rv,hl,hi,I,hn,hb,fin=>by
  cases rv
  have:kr=[]:=List.length_eq_zero_iff.mp hl
  subst this
  exact fin ks e s H (Same.refl _) (by rw [List.append_nil];exact hi) I hn
 | v::r,xs,kr,ks,kd,e,s,H,O,rv,hl,hi,I,hn,hb,fin=>by
  cases rv with
  | cons rx rr=>
   rename_i x xs
   cases kr with
   | nil=>simp at hl
   | cons k kr=>
    refine PySem.W.KatKeys.cons (wpAny_mono (zk3 O I hn (List.mem_cons_of_mem _ (List.mem_cons_of_mem _ hf)) hA hd hr rx (hb 0 x k rfl rfl s H (Same.refl _))) (fun w s' ⟨⟨t,ew⟩,H',sm,I',hn'⟩=>?_) fun _ _ z=>z)
    subst ew
    obtain ⟨q1,q2,q3,q4,q5⟩:=I'.pinAt
    refine PySem.W.KatBack.intro (zpm hn') (zbm q3 (Att.noObjs_get _ _) q1) (.head zbl) fun h' c' F' N'=>?_
    have kept:=z2y (fun b o z=>by rw [Att.noObjs_get] at z;cases z) F' (fun p hp=>N' p (List.mem_cons_of_mem _ hp))
    refine zdu hx hf hA hd hr hk hp hD r xs kr (ks++[.int k t]) (kd++[k]) c' _ H' (O.mono sm) rr (by simpa using hl) (zb2 hi)
     (I'.chg hx (fun p' hp'=>?_) hk hn' F'.ns kept (N' _ List.mem_cons_self).1 fun v z=>nomatch z) F'.ns (fun i x' k' h1 h2 s2 H2 h3=>hb (i+1) x' k' h1 h2 s2 H2 (sm.trans h3)) fun ks' e' s' H2 h0 h1 h2 h3=>fin ks' e' s' H2 (sm.trans h0) (by rw [List.append_assoc] at h1;exact h1) h2 h3
    rcases List.mem_cons.mp hp' with rfl | hp'
    . exact hD
    . exact hp p' hp'
end
section
variable {X:Cx} {pins:List (Addr×Obj)} {σ:St} {H:Hp} {s s0:Shared} {p:Str} {c kS D:Addr} {ps:Array Value} {m:Str->Option Value} {e e1:Nat}
theorem Inv.track {ob:Obj} {o:HO} (I:Inv X ((D,ob)::pins) σ H s) (hx:X.pn=[]) (hp:∀p∈pins,p.1≠D) (hs:X.s₀.heap.objs.size<=D) (new:ObjOk X.prog X.w (upd H D o) s.heap D o):Inv X pins σ (upd H D o) s:=by
 obtain ⟨q1,q2,q3,q4,q5⟩:=I.pinAt
 have ne:∀{b:Addr} {u:HO},H b=some u->b≠D:=fun {b u} q z=>by rw [z,q2] at q;cases q
 refine ⟨I.ok,I.os,I.bare,⟨I.base.keep,I.base.slot,fun b ob q z y=>?_,I.base.there,fun b xs q=>?_,fun b ob u q=>?_,fun b ps q=>?_⟩,I.loc,I.cell,?_,fun x c q=>?_,fun p' hp'=>?_,fun b u q=>?_,I.len⟩
 . rw [z02 (Nat.ne_of_lt (Nat.lt_of_lt_of_le (Heap.lt_size q) hs))]
   exact I.base.free b ob q z y
 . have:=I.base.tups b xs q
   rw [z02 (ne this)];exact this
 . have:=I.base.frzs b ob u q
   rw [z02 (ne this)];exact this
 . obtain ⟨m,this⟩:=I.base.tbls b ps q
   exact ⟨m,by rw [z02 (ne this)];exact this⟩
 . rw [z02 (Ne.symm q3)];exact I.free
 . obtain ⟨v,oc,ho,hd⟩:=I.cell x c q
   rw [z02 fun z=>by rw [z,q1] at ho;cases ho;exact q5 v hd]
   exact I.freeC x c q
 . rw [hx,List.nil_append] at hp'
   obtain ⟨a,b,c⟩:=I.pin p' (List.mem_append_right _ (List.mem_cons_of_mem _ hp'))
   exact ⟨a,by rw [z02 (hp p' hp')];exact b,c⟩
 . by_cases hb:b=D
   . subst hb;rw [z05] at q;cases q;exact new
   . rw [z02 hb] at q
     refine (I.hok b u q).stay (fun _ _ _ z=>z) (fun c z=>?_) fun c xs z=>?_
     . rw [z02 (ne z)];exact z
     . rw [z02 (ne z)];exact z
theorem zpn {ks out:List Value} {ys:List V} {C:Shared->Prop} (I:Inv X ((kS,seqObj "list" ks.toArray e)::(D,seqObj "list" #[] e1)::pins) σ H s) (hn:s.heap.Ns X.env.locals m) (hx:X.pn=[]) (hk:X.s₀.heap.objs.size<=kS) (hD:X.s₀.heap.objs.size<=D) (hDk:D≠kS)
  (hp:∀p∈pins,p.1≠kS) (hp2:∀p∈pins,p.1≠D) (r:Vals ys out) (hz:ys.length<=sizeLine) (hC:∀s',Inv X pins σ (upd H D (.lst ys)) s'->H D=none->C s'):PySem.W.KatFin (Att.noObjs s0.heap) X.env.locals m kS D ks e e1 out C s:=by
 obtain ⟨q1,q2,q3,q4,q5⟩:=I.pinAt
 refine PySem.W.KatFin.intro (zpm hn) (zbm q3 (Att.noObjs_get _ _) q1) (.head zbl) fun h' c' F' N'=>?_
 have kept:=z2y (fun b o z=>by rw [Att.noObjs_get] at z;cases z) F' (fun p hp=>N' p (List.mem_cons_of_mem _ hp))
 have I1:=(I.chg hx (fun p' hp'=>by
  rcases List.mem_cons.mp hp' with rfl | hp'
  . exact hDk
  . exact hp p' hp') hk hn F'.ns kept (N' _ List.mem_cons_self).1 fun v z=>nomatch z).drop
 obtain ⟨d1,d2,d3,d4,d5⟩:=I1.pinAt
 refine PySem.W.KasFin.intro (zpm (s:={ s with heap:=h' }) F'.ns) (zbm d3 (Att.noObjs_get _ _) d1) (.head zbl) fun h2 c2 F2 N2=>?_
 have kept2:=z2y (fun b o z=>by rw [Att.noObjs_get] at z;cases z) F2 (fun p hp=>N2 p (List.mem_cons_of_mem _ hp))
 have I2:=I1.chg hx hp2 hD F'.ns F2.ns kept2 (N2 _ List.mem_cons_self).1 fun v z=>nomatch z
 exact hC _ (I2.track hx hp2 hD ⟨hz,out,c2,r,(N2 _ List.mem_cons_self).1⟩) d2
end
end L2
namespace L2
open PySem PySem.Spec PyProof.Rows
open PySem.W (KatKeys KatFin KatBack kat_tail katRev)
section
variable {prog:Program} {w:World} {A:Around} {E:Value->Shared->Prop} {s:Shared} {h₀:Heap} {L kS a:Addr} {m:Str->Option Value} {f:Value} {e1:Nat} {P:PySem.Fin->Shared->Prop}
theorem zhp {vs ks:List Value} {e:Nat} (hl:vs.length<2) (hk:ks.length=vs.length) (h:KatFin h₀ L m kS a ks e e1 vs (fun s'=>P (.done (.ret .none)) s') s):wpAny (model prog w) A (ksk_end a false vs.toArray e1 (.ref kS) ks.toArray) P E s:=by
 have n2:vs.toArray.size<2:=by rw [List.size_toArray];exact hl
 unfold ksk_end
 simp only [Bool.false_eq_true,if_false]
 rw [if_pos n2,if_pos n2]
 refine wpAny_bind (wpAny_pure (wpAny_bind ?_))
 rw [StateT.run_pure]
 refine wpAny_pure (kat_tail (out:=vs) (b:=false) ?_ (by omega) (by omega) rfl h)
 show ((ks.toArray.zip vs.toArray)).map (·.2)=vs.toArray
 match ks,vs,hk,hl with
 | [],[],_,_=>simp
 | [k],[v],_,_=>simp
 | _::_::_,_,hk,hl=>simp at hk;omega
theorem zhq {vs:List Value} (hl:vs.length<2) (hk:s.heap.get? kS=some (seqObj "list" #[] 0))
  (h:KatKeys prog w A h₀ L m kS f (fun ks e s'=>ks.length=vs.length/\KatFin h₀ L m kS a ks e e1 vs (fun s4=>P (.done (.ret .none)) s4) s') vs [] 0 s):wpAny (model prog w) A (ksk_rest a f false vs.toArray e1 (.ref kS)) P E s:=by
 unfold ksk_rest
 refine wpAny_bind (wpAny_rule ?_)
 rw [List.forIn_toArray]
 match vs,hl,h with
 | [],hl,h=>
  rw [List.forIn_nil]
  refine wpAny_bind (wpAny_pure (wpAny_bind (listItems_at hk rfl ?_)))
  exact zhp (vs:=[]) (ks:=[]) (by simp) rfl h.2
 | [v],hl,h=>
  rw [List.forIn_cons]
  have h':wpAny (model prog w) A (call f [v]) (KatBack h₀ L m kS [] 0 (fun k c s'=>KatKeys prog w A h₀ L m kS f (fun ks e s'=>ks.length=[v].length/\KatFin h₀ L m kS a ks e e1 [v] (fun s4=>P (.done (.ret .none)) s4) s') [] ([]++[k]) c s')) (fun _ _=>False) s:=h
  refine wpAny_bind (wpAny_bind (wpAny_bind (wpAny_attempt (wpAny_mono h' (fun k s1 hb=>?_) fun _ _ z=>z.elim))))
  obtain ⟨news,g,F,N,U,go⟩:=hb
  obtain ⟨pre,post,e0,hg,x1,x2⟩:=U.split
  rw [e0] at N
  have nk:=N (kS,seqObj "list" (List.toArray []) 0) (List.mem_append_right _ (.head _))
  have sb:=Heap.SameBut.update s1.heap kS (Obj.mapSeq (·.push k))
  obtain ⟨c2,hc2⟩:∃c2,(s1.heap.update kS (Obj.mapSeq (·.push k))).get? kS=some (seqObj "list" (List.toArray ([]++[k])) c2):=⟨_,get?_update_seq nk.1 (·.push k)⟩
  have K:=go _ c2 (PySem.W.kas_fr F sb nk.2.1 nk.2.2) (by rw [hg];exact PySem.W.news_set N x1 x2 sb hc2)
  refine wpAny_bind (listUpdate_at nk.1 rfl ?_ (by rw [List.size_toArray,sizeLine_eq];simp) (by rw [Array.size_push,List.size_toArray,sizeLine_eq];simp))
  refine wpAny_pure (wpAny_pure (wpAny_bind (listItems_at hc2 rfl ?_)))
  exact zhp (vs:=[v]) (ks:=[]++[k]) (by simp) rfl K.2
 | _::_::_,hl,_=>simp only [List.length_cons] at hl;omega
end
end L2
namespace L2
open PySem PySem.Spec PyProof.Rows
open PySem.W (KatKeys KatFin KatBack katRev)
section
variable {prog:Program} {w:World} {A:Around} {E:Value->Shared->Prop} {s:Shared}
def zdv (h:Heap) (l:Addr) (vs:List Value):Prop:=∃o,h.get? l=some o/\(o.cls=.type "list"\/o.cls=.type "tuple")/\∃n,o.data=.seq vs.toArray n
theorem zvc {α:Type} {c:Prop} [Decidable c] {a b:Sem α} {Q:α->Shared->Prop} (e:c) (h:wpAny (model prog w) A a Q E s):wpAny (model prog w) A (if c then a else b) Q E s:=(if_pos e:ite c a b=a).symm ▸ h
theorem zzd {α:Type} {c:Prop} [Decidable c] {a b:Sem α} {Q:α->Shared->Prop} (e:¬c) (h:wpAny (model prog w) A b Q E s):wpAny (model prog w) A (if c then a else b) Q E s:=(if_neg e:ite c a b=b).symm ▸ h
theorem zet {l d:Addr} {o:Obj} {T:String} {vs:List Value} {n:Nat} {Q:PySem.Fin->Shared->Prop} (hT:o.cls=.type T) (h2:T="list"\/T="tuple") (hl:s.heap.get? l=some o) (hd:o.data=.seq vs.toArray n) (he:s.heap.get? d=some (seqObj "list" #[] 0)) (hz:vs.length<=sizeLine)
  (h:Q (.done (.ret (.ref d))) { s with heap:=s.heap.update d (Obj.mapSeq (·++vs.toArray)) }):wpAny (model prog w) A (Builtin.List.listExtendWith (.ref d) (.ref l) (.ref d)) Q E s:=
 wpAny_bind (wpAny_typeOf ⟨o,hl,hT⟩ (zvc (by rcases h2 with rfl | rfl<;>simp) (wpAny_bind (listItems_at hl hd (wpAny_bind (listItems_at he rfl (zzd (by simp) (wpAny_bind (listUpdate_at he rfl (wpAny_pure h) (Nat.zero_le _) (by simp;omega))))))))))
theorem zcg {l:Addr} {vs:List Value} {Q:List Value->Shared->Prop} (hl:zdv s.heap l vs) (hz:vs.length<=sizeLine)
  (h:Q vs { s with heap:=(s.heap.push (seqObj "list" #[] 0)).update s.heap.objs.size (Obj.mapSeq (·++vs.toArray)) }):wpAny (model prog w) A (collect (.ref l)) Q E s:=by
 obtain ⟨o,ho,hc,n,hd⟩:=hl
 obtain ⟨T,hT,h2⟩:∃T,o.cls=.type T/\(T="list"\/T="tuple"):=hc.elim (fun z=>⟨_,z,.inl rfl⟩) fun z=>⟨_,z,.inr rfl⟩
 have he:(s.heap.push (seqObj "list" #[] 0)).get? s.heap.objs.size=some (seqObj "list" #[] 0):=Heap.get?_push_size _ rfl
 have fin:∀v,v=Value.ref s.heap.objs.size->wpAny (model prog w) A (match v with
   | .ref a=>do match (<-load a).data with
    | .seq xs _=>pure xs.toList
    | _=>unsupported "internal:collect"
   | _=>unsupported "internal:collect") Q E { s with heap:=(s.heap.push (seqObj "list" #[] 0)).update s.heap.objs.size (Obj.mapSeq (·++vs.toArray)) }:=fun v e=>by
  subst e
  exact wpAny_bind (wpAny_load (get?_update_seq he (·++vs.toArray)) (wpAny_pure (by simpa using h)))
 have run:=fun (B:Around) (E':Value->Shared->Prop)=>zet (s:={ s with heap:=s.heap.push (seqObj "list" #[] 0) }) (prog:=prog) (w:=w) (A:=B) (E:=E') hT h2 (Heap.get?_push_of_some _ ho) hd he hz (Q:=fun r s'=>r=.done (.ret (.ref s.heap.objs.size))/\s'={ s with heap:=(s.heap.push (seqObj "list" #[] 0)).update s.heap.objs.size (Obj.mapSeq (·++vs.toArray)) }) ⟨rfl,rfl⟩
 wp_walk
 refine codeAny_builtin entry_proto_collect' (wpAny_bind (wpAny_newList (wpAny_pure ⟨Code.quiet_builtin _ (by decide +kernel),codeAny_builtin entry_list_iadd' (wpAny_mono (run _ _) (fun r s' hq=>?_) fun _ _ z=>z)⟩)))
 obtain ⟨rfl,rfl⟩:=hq
 exact fin _ rfl
theorem zeu {l f:Addr} {vs:List Value} {Q:Value->Shared->Prop} (hl:zdv s.heap l vs) (h64:vs.length<64)
  (h:∀e1,(z31 (z32 s.heap vs) (s.heap.objs.size+1) vs).get? (s.heap.objs.size+1)=some (seqObj "list" #[] e1)->∀kS,s.heap.objs.size+1<kS->(z31 (z32 s.heap vs) (s.heap.objs.size+1) vs).get? kS=some (seqObj "list" #[] 0) ->
   wpAny (model prog w) A.in1.in1 (ksk_rest (s.heap.objs.size+1) (.ref f) false vs.toArray e1 (.ref kS)) (fun fl s'=>fl=.done (.ret .none)/\Q (.ref (s.heap.objs.size+1)) s') (fun _ _=>False) { s with heap:=z31 (z32 s.heap vs) (s.heap.objs.size+1) vs }) :
  wpAny (model prog w) A (call (.builtin "sorted") [.ref l] [(Str.ofString "key",.ref f)]) Q E s:=by
 have hz:vs.length<=sizeLine:=by rw [sizeLine_eq];omega
 have e:((s.heap.push (seqObj "list" #[] 0)).update s.heap.objs.size (Obj.mapSeq (·++vs.toArray))).objs.size=s.heap.objs.size+1:=(Heap.size_update _ _ _).trans (size_push' _ _)
 obtain ⟨k,k1,k2⟩:=zer (z4t s.heap vs)
 refine call_function_entry_kw kind_sorted plain_sorted entry_sorted (ksk_s1 _ _) ?_
 unfold Builtin.«sorted»
 refine wpAny_bind (m:=checkCount "sorted" 1 1 _) (wpAny_pure (wpAny_bind (zcg hl hz (wpAny_bind (wpAny_newList ?_ hz)))))
 show wpAny _ _ _ _ _ { s with heap:=z32 s.heap vs }
 rw [e]
 refine wpAny_bind (wpAny_holding (wpAny_call_entry_kw slot_list_sort ⟨_,z4t s.heap vs,rfl⟩ entry_list_sort ?body (ksk_l1 _ _)))
 case body=>
  rw [ksk_t1]
  unfold ksk_tree
  refine wpAny_bind (listItems_at (z4t s.heap vs) rfl (wpAny_bind (listUpdate_at (z4t s.heap vs) rfl (wpAny_bind (seqEpoch_at k1 rfl (wpAny_bind (wpAny_newTuple (wpAny_bind (wpAny_newList (wpAny_holding ?_) (Nat.zero_le _))) hz)))) (by rw [List.size_toArray];exact hz) (Nat.zero_le _))))
  refine wpAny_mono (h k k2 _ ?_ (Heap.get?_push_size _ rfl)) (fun fl s' q=>?_) fun _ _ z=>z.elim
  . rw [size_push',Heap.size_update]
    unfold z32
    rw [size_push',e]
    omega
  . exact ⟨_,q.1,wpAny_pure ⟨_,rfl,q.2⟩⟩
end
section
variable {X:Cx} {sc:Scope} {caps:List Str} {ix:List Nat} {pins:List (Addr×Obj)} {σ:St} {H:Hp} {s:Shared} {p:Str} {params:Arguments} {body:Expr} {P f c:Addr} {pm ctv:Value} {ps:Array Value} {pos:Pos}
noncomputable def z5r (kz:List Int):List Nat:=if kz.length<2 then List.range kz.length else (z0q (fun i j=>decide (kz.getD i 0<kz.getD j 0)) (PySem.W.kas_sort kz.length)).toList
theorem zhr {kz:List Int}:∀i∈z5r kz,i<kz.length:=fun i hi=>by
 unfold z5r at hi
 split at hi
 . exact List.mem_range.mp hi
 . have pm:=(z43 (lt:=fun i j=>decide (kz.getD i 0<kz.getD j 0)) ⟨fun a=>by simp,fun {a b c}=>by simp;omega,fun {a b}=>by simp;omega⟩ (n:=kz.length) (by omega)).1
   have:=pm.toList.mem_iff.mp hi
   simpa using this
theorem zk4 {kz:List Int}:(z5r kz).length=kz.length:=by
 unfold z5r
 split
 . simp
 . have pm:=(z43 (lt:=fun i j=>decide (kz.getD i 0<kz.getD j 0)) ⟨fun a=>by simp,fun {a b c}=>by simp;omega,fun {a b}=>by simp;omega⟩ (n:=kz.length) (by omega)).1
   have:=pm.size_eq
   rw [Array.length_toList,this]
   simp
theorem zvd:∀(vs:List Value),vs.length<2->(List.range vs.length).map (fun i=>vs.getD i Value.none)=vs
 | [],_=>rfl
 | [v],_=>rfl
 | _::_::_,h=>by simp only [List.length_cons] at h;omega
theorem zk5 {l:Addr} {vs:List Value} {xs:List V} {kz:List Int} {Q:Value->Shared->Prop} (O:LamOn X sc caps ix p params body P f c pm ctv ps pos H) (I:Inv X pins σ H s) (hx:X.pn=[]) (hf:(f,zf1 X params body sc pm c ctv)∈pins)
  (hc:X.calm=true) (hr:X.A.depth<recursionLimit) (hl:zdv s.heap l vs) (r:Vals xs vs) (hkz:kz.length=xs.length) (h64:vs.length<64)
  (hb:∀(i:Nat) x k,xs[i]?=some x->kz[i]?=some k->∀s H2,Same H H2->∃t,PE (zb1 X sc (p::caps) (z7c X) f c X.A.in1.in1 s H2) body t/\t (some x::z6r ix σ) H2 fun y H'=>y=.int k/\Same H2 H')
  (hQ:∀D s' H2,Same H H2->H2 D=none->Inv X pins σ (upd H2 D (.lst ((z5r kz).map fun i=>xs.getD i .non))) s'->Q (.ref D) s') :
  wpAny (model X.prog X.w) X.A (call (.builtin "sorted") [.ref l] [(Str.ofString "key",.ref f)]) Q X.xe s:=by
 obtain ⟨m,hn,_⟩:=id I.loc
 have hlv:=r.length
 refine zeu hl h64 fun e1 eD kS hDk ek=>?_
 have old:∀b o,s.heap.get? b=some o->(z31 (z32 s.heap vs) (s.heap.objs.size+1) vs).get? b=some o:=fun b o q=>zes q
 have hn':(z31 (z32 s.heap vs) (s.heap.objs.size+1) vs).Ns X.env.locals m:=hn.keeps old
 have hLD:X.s₀.heap.objs.size<=s.heap.objs.size+1:=Nat.le_succ_of_le I.sz
 have hLk:X.s₀.heap.objs.size<=kS:=Nat.le_trans hLD (Nat.le_of_lt hDk)
 have I0:Inv X pins σ H { s with heap:=z31 (z32 s.heap vs) (s.heap.objs.size+1) vs }:=I.frn (tk:=s.toks) hn ⟨hn',fun b o e=>(by rw [Att.noObjs_get] at e;cases e),Nat.zero_le _⟩ fun q hq=>let ⟨a,b,z⟩:=z3p hq;⟨old _ _ z,a,b⟩
 have nofs:∀{d:Addr},X.s₀.heap.objs.size<=d->d∉X.fs:=fun {d} h z=>by
  obtain ⟨_,o,ho,_⟩:=I.ok.funs.mem z
  exact absurd (Nat.lt_of_lt_of_le (Heap.lt_size ho) h) (Nat.lt_irrefl _)
 have npin:∀{d:Addr},s.heap.objs.size<=d->∀q∈pins,q.1≠d:=fun {d} h q hq z=>by
  have:=Heap.lt_size (I.pin q (List.mem_append_right _ hq)).1
  rw [z] at this
  exact absurd (Nat.lt_of_lt_of_le this h) (Nat.lt_irrefl _)
 have hsk:s.heap.objs.size<=kS:=by omega
 have I1:=(I0.hold eD (I.hok.fresh (Nat.le_succ _)) (Nat.ne_of_gt (Nat.lt_succ_of_lt I.lt)) (nofs hLD) fun v z=>nomatch z).hold ek (I.hok.fresh hsk) (Nat.ne_of_gt (Nat.lt_of_lt_of_le I.lt hsk)) (nofs hLk) fun v z=>nomatch z
 have out:∀{ks:List Value} {e':Nat} {s':Shared} {res:List Value} {H2:Hp},Same H H2->Inv X ((kS,seqObj "list" ks.toArray e')::(s.heap.objs.size+1,seqObj "list" #[] e1)::pins) σ H2 s'->s'.heap.Ns X.env.locals m->Vals ((z5r kz).map fun i=>xs.getD i .non) res ->
   KatFin (Att.noObjs s.heap) X.env.locals m kS (s.heap.objs.size+1) ks e' e1 res (fun s4=>PySem.Fin.done (.ret .none)=.done (.ret .none)/\Q (.ref (s.heap.objs.size+1)) s4) s':=fun {ks e' s' res H2} sm J hJ rr=>
  zpn J hJ hx hLk hLD (Nat.ne_of_lt hDk) (npin hsk) (npin (Nat.le_succ _)) rr (by rw [List.length_map,zk4,sizeLine_eq];omega) fun s4 I4 hH=>⟨rfl,hQ _ s4 H2 sm hH I4⟩
 have pick:Vals ((z5r kz).map fun i=>xs.getD i .non) ((z5r kz).map fun i=>vs.getD i Value.none):=r.pick fun i hi=>by rw [<-hkz];exact zhr i hi
 have keys:=fun (Fin:List Value->Nat->Shared->Prop)=>zdu (s0:=s) (A:=X.A.in1.in1) (Fin:=Fin) hx hf (show X.A.in1.in1.frames=some X.stack from I.ok.frames) (I.ok.hd hc) (show X.A.in1.in1.depth<recursionLimit from hr) hLk (npin hsk) (Nat.ne_of_lt hDk) vs xs kz [] [] 0 _ H O r hkz .nil I1 hn' hb
 by_cases h2:vs.length<2
 . refine zhq (h₀:=Att.noObjs s.heap) (L:=X.env.locals) (m:=m) h2 ek (keys _ fun ks e' s' H2 sm hi J hJ=>?_)
   rw [List.nil_append] at hi
   refine ⟨by rw [z9n hi,hkz,hlv],out sm J hJ ?_⟩
   have:(z5r kz).map (fun i=>vs.getD i Value.none)=vs:=by
    unfold z5r
    rw [if_pos (by omega),show kz.length=vs.length by omega]
    exact zvd vs h2
   rw [this] at pick
   exact pick
 . refine PySem.W.kat_rest (h₀:=Att.noObjs s.heap) (L:=X.env.locals) (m:=m) ek (by omega) h64 (keys _ fun ks e' s' H2 sm hi J hJ=>?_)
   rw [List.nil_append] at hi
   have hlk:ks.length=vs.length:=by rw [z9n hi,hkz,hlv]
   refine PySem.W.kas_kind (T:=.type "int") (by omega) (fun v hv=>?_) (by decide) (by decide) ?_
   . obtain ⟨i,hi',rfl⟩:=List.mem_iff_getElem.mp hv
     obtain ⟨t,et⟩:=z6g hi hi'
     rw [List.getD_eq_getElem?_getD,List.getElem?_eq_getElem hi',Option.getD_some] at et
     rw [et]
     exact .now
   refine zdk (n:=vs.length) (lt:=fun i j=>decide (kz.getD i 0<kz.getD j 0)) ?_ (zca (by omega)) ?_
   . intro i j C hi' hj hC
     obtain ⟨t,et⟩:=z6g hi (show i<ks.length by omega)
     obtain ⟨u,eu⟩:=z6g hi (show j<ks.length by omega)
     show wpAny (model X.prog X.w) X.A.in1.in1 (keyLt' _ (ks.getD i Value.none) (ks.getD j Value.none)) C _ _
     rw [et,eu]
     exact PySem.W.kat_lt_int hC
   . refine out sm J hJ ?_
     have:z5r kz=(z0q (fun i j=>decide (kz.getD i 0<kz.getD j 0)) (PySem.W.kas_sort vs.length)).toList:=by
      unfold z5r
      rw [if_neg (by omega),show kz.length=vs.length by omega]
     rw [<-this]
     exact pick
end
end L2
namespace L2
open PySem PySem.Spec PyProof.Rows
def y0r (P:Addr) (H H':Hp):Prop:=∀b o,b≠P->H b=some o->H' b=some o
def zve (P:Addr) (q:Str) (ix:List Nat) (tb:TE) (σ:St) (Q:VK) (v:V) (H1:Hp):Prop:=∃(l:Addr) (xs:List V) (kz:List Int),v=.ref l/\(H1 l=some (.lst xs)\/H1 l=some (.tup xs))/\xs.length<64/\kz.length=xs.length/\H1 P=some (.ctb q) /\
 (∀H2,y0r P H1 H2->∀(i:Nat) x k,xs[i]?=some x->kz[i]?=some k->tb (some x::z6r ix σ) H2 fun y H'=>y=.int k/\Same H2 H') /\
 ∀D H2,Same H1 H2->H2 D=none->Q (.ref D) (upd H2 D (.lst ((z5r kz).map fun i=>xs.getD i .non)))
noncomputable def zm8 (P:Addr) (q:Str) (ix:List Nat) (t1 tb:TE):TE:=fun σ H Q=>t1 σ H (zve P q ix tb σ Q)
theorem zk6 {X:Cx} {x p:Str} {np kp pos lpos:Pos} {e body:Expr} {t1 tb:TE} {c P:Addr} {sc:Scope} {caps:List Str} {ix:List Nat} {params:Arguments} (LA:LamAt X c P) (C:CompOk X sc caps ix) (hx:X.pn=[]) (hr:X.A.depth<recursionLimit)
  (hg:Gl X x) (hm:X.mg x=none) (hv:bootBuiltins x=some (.builtin "sorted")) (ha:PE X e t1) (hb:∀f c A s H,A.depth<recursionLimit->PE (zb1 X sc (p::caps) (z7c X) f c A s H) body tb)
  (hdef:defaultsOf params X.env=([],[]):=by rfl) (hbind:∀cl pm cd ctv u,bindArgs (kla_fn "<lambda>" (z7c X) params body sc cl pm cd ctv) ⟨[u],[]⟩=pure [(p,u)]:=by intros;rfl)
  (hp:sc.names.lookup p=some .local:=by decide) (hpc:p∉caps:=by decide) (hco:sc.isCoroutine=false:=by rfl) (hgen:sc.isGenerator=false:=by rfl)
  (hn:x≠"__name__":=by decide) (hdb:(x==("__debug__":Str))=false:=by decide) (hs:starEach [e] X.env=(false,eval e X.env)::starEach [] X.env:=by rfl) :
  PE X (.Call (.Name x np) [e] [⟨some (Str.ofString "key"),.Lambda params body sc lpos,kp⟩] pos) (zm8 P (z7c X) ix t1 tb):=by
 intro pins s σ H Q I h
 refine wpAny_Call_Name_kw (z4a I hg hm hv ?_ hn hdb)
 refine callWith_kw ?_ (by rw [hs];rfl) (by rw [hs];rfl)
 refine thn (z2z ha pa_nil hs pos pins s σ H (fun vs H1=>match vs with
  | [v]=>zve P (z7c X) ix tb σ Q v H1
  | _=>False) I h) fun us s1 ⟨vs,H1,I1,r1,q1⟩=>?_
 obtain ⟨v,rfl⟩:∃v,vs=[v]:=by
  match vs,q1 with
  | [v],_=>exact ⟨v,rfl⟩
 obtain ⟨l,xs,kz,rfl,el,h64,hkz,hP,bod,fin⟩:=q1
 obtain ⟨u1,rfl,ru⟩:=z63 r1
 cases ru
 refine kws_cons (zk2 LA C I1 hP hdef fun f c' pm ctv H' ps s2 hsame hLf I2 eP ca=>kws_nil ?_)
 have hP':=hsame _ _ hP
 have I3:Inv X ((f,zf1 X params body sc pm c' ctv)::pins) σ (upd H' P (.frz { cls:=.none,data:=.fields ps } (.ctb (z7c X)))) s2:=I2.word hP' (fun _ z=>nomatch z) (fun _ z=>nomatch z) (fun _ _=>.inl fun z=>nomatch z) (fun _ z=>nomatch z)
  ⟨eP,(I2.hok P _ hP').stay (fun _ _ _ z=>z) (fun b z=>by rw [z02 (fun y=>by rw [y,hP'] at z;cases z)];exact z) fun b xs z=>by rw [z02 (fun y=>by rw [y,hP'] at z;cases z)];exact z⟩
 have hseq:∃vs,zdv s2.heap l vs/\Vals xs vs:=by
  rcases el with z | z
  . obtain ⟨_,its,n,rv,e⟩:=I2.hok l _ (hsame _ _ z)
    exact ⟨its,⟨_,e,.inl rfl,n,rfl⟩,rv⟩
  . obtain ⟨_,its,rv,o,e,hcl,n,hd⟩:=I2.hok l _ (hsame _ _ z)
    exact ⟨its,⟨o,e,.inr hcl,n,hd⟩,rv⟩
 obtain ⟨vs,hl,rv⟩:=hseq
 have hlv:=rv.length
 have but:y0r P H1 (upd H' P (.frz { cls:=.none,data:=.fields ps } (.ctb (z7c X)))):=fun b o hb q=>by rw [z02 hb];exact hsame b o q
 have O:LamOn X sc caps ix p params body P f c' pm ctv ps lpos (upd H' P (.frz { cls:=.none,data:=.fields ps } (.ctb (z7c X)))):=⟨C,z05,ca,fun u=>hbind _ _ _ _ u,hp,hpc,hco,hgen⟩
 refine zk5 O I3 hx List.mem_cons_self C.calm hr hl rv hkz (by omega) (fun i x k h1 h2 s H2 sm=>⟨tb,hb f c' _ s _ hr,bod _ (fun b o n q=>sm _ _ (but b o n q)) i x k h1 h2⟩) fun D s' H4 sm hD I4=>?_
 have hP4:=sm _ _ (show upd H' P (.frz { cls:=.none,data:=.fields ps } (.ctb (z7c X))) P=_ from z05)
 have hDP:D≠P:=fun z=>by rw [z,hP4] at hD;cases hD
 have nfr:∀b u,X.H₀ P≠some (.frz b u):=fun b u z=>by
  have:=I1.base.frzs P b u z
  rw [hP] at this;cases this
 have e4:upd (upd H4 D (.lst ((z5r kz).map fun i=>xs.getD i .non))) P (.ctb (z7c X))=upd (upd H4 P (.ctb (z7c X))) D (.lst ((z5r kz).map fun i=>xs.getD i .non)):=by
  funext b
  by_cases hb:b=P
  . subst hb;rw [z05,z02 (Ne.symm hDP),z05]
  . rw [z02 hb]
    by_cases hb2:b=D
    . subst hb2;rw [z05,z05]
    . rw [z02 hb2,z02 hb2,z02 hb]
 have at4:upd H4 D (.lst ((z5r kz).map fun i=>xs.getD i .non)) P=some (.frz { cls:=.none,data:=.fields ps } (.ctb (z7c X))):=by rw [z02 (Ne.symm hDP),hP4]
 have ok4:=(I4.hok P _ at4).2
 have I5:=I4.drop.word (o':=.ctb (z7c X)) at4 (fun _ z=>nomatch z) (fun _ z=>nomatch z) (fun b u=>.inr (nfr b u)) (fun _ z=>nomatch z)
  (ok4.stay (fun _ _ _ z=>z) (fun b z=>by rw [z02 (fun y=>by rw [y,at4] at z;cases z)];exact z) fun b xs z=>by rw [z02 (fun y=>by rw [y,at4] at z;cases z)];exact z)
 rw [e4] at I5
 refine ⟨.ref D,_,I5,rfl,fin D _ (fun b o q=>?_) (by rw [z02 hDP];exact hD)⟩
 by_cases hb:b=P
 . subst hb;rw [z05];rw [hP] at q;exact q
 . rw [z02 hb];exact sm _ _ (but b o hb q)
noncomputable def z9o:D->Bool
 | .int _=>true
 | .lst ds=>ds.all isI
 | .tup ds=>ds.all isI
 | _=>false
noncomputable def zpo:Option D->Bool
 | none=>true
 | some d=>z9o d
noncomputable def noP (P:Addr) (H:Hp):Hp:=fun b=>if b=P then none else H b
theorem zhs {P b:Addr} {H:Hp} (h:b≠P):noP P H b=H b:=by unfold noP;rw [if_neg h]
theorem zvf {P:Addr} {H:Hp}:noP P H P=none:=by unfold noP;rw [if_pos rfl]
theorem z9p {K:Frag} {H H':Hp}:∀{ds:List D} {xs:List V},ds.all isI=true->RDs K H ds xs->RDs K H' ds xs
 | [],_,_,h=>by simp only [RDs] at h ⊢;exact h
 | d::ds,_,n,h=>by
  simp only [List.all_cons,Bool.and_eq_true] at n
  simp only [RDs] at h ⊢
  obtain ⟨x,r,e,h1,h2⟩:=h
  refine ⟨x,r,e,?_,z9p n.2 h2⟩
  cases d<;>simp [isI] at n
  simp only [RD] at h1 ⊢;exact h1
theorem zht {K:Frag} {H:Hp} {P:Addr} {q:Str} {d:D} {v:V} (hP:∀o,H P=some o->o=.ctb q) (n:z9o d=true) (h:RD K H d v):RD K (noP P H) d v:=by
 cases d<;>simp only [z9o] at n<;>first | cases n | skip
 . simp only [RD] at h ⊢;exact h
 . simp only [RD] at h ⊢
   obtain ⟨a,xs,e,h1,h2⟩:=h
   exact ⟨a,xs,e,by rw [zhs (fun z=>by rw [z] at h1;cases hP _ h1)];exact h1,z9p n h2⟩
 . simp only [RD] at h ⊢
   obtain ⟨a,xs,e,h1,h2⟩:=h
   exact ⟨a,xs,e,by rw [zhs (fun z=>by rw [z] at h1;cases hP _ h1)];exact h1,z9p n h2⟩
noncomputable def zk7 (ix:List Nat) (ρ:DE):DE:=ix.map fun j=>(ρ[j]?).getD none
noncomputable def z3t (fb:DE->R D) (cs:DE):List D->Option (List Int)
 | []=>some []
 | d::ds=>match fb (some d::cs) with
  | .ok (.int i)=>(z3t fb cs ds).map (i::·)
  | _=>none
theorem zb3 {fb:DE->R D} {cs:DE}:∀{ds:List D} {kz:List Int},z3t fb cs ds=some kz->kz.length=ds.length/\∀(i:Nat) d k,ds[i]?=some d->kz[i]?=some k->fb (some d::cs)=.ok (.int k)
 | [],kz,h=>by cases h;exact ⟨rfl,fun i d k e=>by simp at e⟩
 | d::ds,kz,h=>by
  unfold z3t at h
  split at h
  . rename_i j e
    cases q:z3t fb cs ds with
    | none=>rw [q] at h;cases h
    | some r=>
     rw [q] at h;cases h
     obtain ⟨a,b⟩:=zb3 q
     refine ⟨by rw [List.length_cons,List.length_cons,a],fun i d' k h1 h2=>?_⟩
     cases i with
     | zero=>simp at h1 h2;subst h1;subst h2;exact e
     | succ i=>exact b i d' k (by simpa using h1) (by simpa using h2)
  . cases h
noncomputable def zb4:D->Option (List D)
 | .lst ds=>some ds
 | .tup ds=>some ds
 | _=>none
noncomputable def z5s (f1:DE->R D) (ix:List Nat) (fb:DE->R D):DE->R D:=fun ρ=>(f1 ρ).bind fun d=>match zb4 d with
 | some ds=>if ds.length<64/\ds.all z9o=true/\(zk7 ix ρ).all zpo=true then (R.of (z3t fb (zk7 ix ρ) ds)).bind fun kz=>.ok (.lst ((z5r kz).map fun i=>ds.getD i (.int 0))) else .st
 | none=>.st
theorem zk8 {K:Frag} {H:Hp} {d:D} {v:V} {ds:List D} (e:zb4 d=some ds) (r:RD K H d v):∃l xs,v=.ref l/\(H l=some (.lst xs)\/H l=some (.tup xs))/\RDs K H ds xs:=by
 cases d<;>simp only [zb4] at e<;>first | cases e | skip
 . simp only [RD] at r
   obtain ⟨a,xs,e1,h1,h2⟩:=r
   exact ⟨a,xs,e1,.inr h1,h2⟩
 . simp only [RD] at r
   obtain ⟨a,xs,e1,h1,h2⟩:=r
   exact ⟨a,xs,e1,.inl h1,h2⟩
theorem zpp {K:Frag} {EX:XW} {σ:St} {H:Hp} {Q:VK} {P:Addr} {q:Str} {f1 fb:DE->R D} {ix:List Nat} (hT:EX.hb P=some (.ctb q)) (h:TEd K EX true (z5s f1 ix fb) σ H Q):zm8 P q ix (TEd K EX false f1) (TEd K F0 false fb) σ H Q:=by
 obtain ⟨sx,ρ,H0,s,e,h⟩:=h
 unfold z5s at h
 rw [Rk.bind] at h
 refine TEd.go sx s e h fun d z v H1 H0' s1 ex r=>?_
 split at z
 . rename_i ds it
   split at z
   . rename_i hc
     rw [Rk.bind] at z
     obtain ⟨kz,hk,z⟩:=Rk.of z
     obtain ⟨kl,ka⟩:=zb3 hk
     obtain ⟨l,xs,rfl,el,rs⟩:=zk8 it r
     have hP1:H1 P=some (.ctb q):=s1 _ _ (sx _ _ hT)
     have hl:=rs.length
     refine ⟨l,xs,kz,rfl,el.imp (fun y=>ex.2.1 _ _ y) fun y=>ex.2.1 _ _ y,by omega,by omega,hP1,fun H2 but i x k hx hkk=>?_,fun D H2 s2 hD=>?_⟩
     . obtain ⟨di,hdi,rdi⟩:=rs.get hx
       have hPo:∀o,H0' P=some o->o=.ctb q:=fun o y=>by
        have:=ex.2.1 _ _ y
        rw [hP1] at this;exact (Option.some.inj this).symm
       have fl:z9o di=true:=List.all_eq_true.mp hc.2.1 di (List.mem_of_getElem? hdi)
       refine ⟨F0.same _,some di::zk7 ix ρ,noP P H0',fun b o y=>?_,?_,?_⟩
       . by_cases hb:b=P
         . subst hb;rw [zvf] at y;cases y
         . rw [zhs hb] at y;exact but b o hb (ex.2.1 _ _ y)
       . have e':=e.mono ex.1
         refine ⟨by simp [zk7,z6r],fun j d' hj=>?_⟩
         cases j with
         | zero=>
          simp at hj;subst hj
          exact ⟨x,rfl,zht hPo fl rdi⟩
         | succ j=>
          have hj:(zk7 ix ρ)[j]?=some (some d'):=by simpa using hj
          have fl':z9o d'=true:=List.all_eq_true.mp hc.2.2 (some d') (List.mem_of_getElem? hj)
          unfold zk7 at hj
          rw [List.getElem?_map] at hj
          cases q1:ix[j]? with
          | none=>rw [q1] at hj;cases hj
          | some i'=>
           rw [q1] at hj
           simp only [Option.map_some] at hj
           have hj:=Option.some.inj hj
           cases q2:ρ[i']? with
           | none=>rw [q2] at hj;cases hj
           | some o=>
            rw [q2] at hj
            simp only [Option.getD_some] at hj
            subst hj
            obtain ⟨v',hv',rv'⟩:=e'.2 i' d' q2
            refine ⟨v',?_,zht hPo fl' rv'⟩
            show (some x::z6r ix σ)[j+1]?=_
            rw [List.getElem?_cons_succ]
            unfold z6r
            rw [List.getElem?_map,q1]
            simp only [Option.map_some,hv',Option.getD_some]
       . rw [ka i di k hdi hkk]
         intro y H' o
         obtain ⟨sm,H0n,_,ry⟩:=o.rd
         simp only [RD] at ry
         exact ⟨ry,sm⟩
     . refine z _ _ (Out.after (s1.trans s2) (ex.grow s2) (Out.new (ex.2.1.trans s2) hD fun H' hH=>?_))
       simp only [OB]
       refine ⟨_,hH,?_⟩
       exact rs.pick fun i hi=>by have:=zhr i hi;omega
   . exact z.elim
 . exact z.elim
theorem zhu {X:Cx} {EX:XW} {x p:Str} {np kp pos lpos:Pos} {e body:Expr} {f1 fb:DE->R D} {c P:Addr} {sc:Scope} {caps:List Str} {ix:List Nat} {params:Arguments} (hT:EX.hb P=some (.ctb (z7c X))) (LA:LamAt X c P) (C:CompOk X sc caps ix) (hx:X.pn=[]) (hr:X.A.depth<recursionLimit)
  (hg:Gl X x) (hm:X.mg x=none) (hv:bootBuiltins x=some (.builtin "sorted")) (ha:QE X EX false e f1) (hb:∀f c A s H,A.depth<recursionLimit->QE (zb1 X sc (p::caps) (z7c X) f c A s H) F0 false body fb)
  (hdef:defaultsOf params X.env=([],[]):=by rfl) (hbind:∀cl pm cd ctv u,bindArgs (kla_fn "<lambda>" (z7c X) params body sc cl pm cd ctv) ⟨[u],[]⟩=pure [(p,u)]:=by intros;rfl)
  (hp:sc.names.lookup p=some .local:=by decide) (hpc:p∉caps:=by decide) (hco:sc.isCoroutine=false:=by rfl) (hgen:sc.isGenerator=false:=by rfl)
  (hn:x≠"__name__":=by decide) (hdb:(x==("__debug__":Str))=false:=by decide) (hs:starEach [e] X.env=(false,eval e X.env)::starEach [] X.env:=by rfl) :
  QE X EX true (.Call (.Name x np) [e] [⟨some (Str.ofString "key"),.Lambda params body sc lpos,kp⟩] pos) (z5s f1 ix fb):=
 ⟨(zk6 LA C hx hr hg hm hv ha.h (fun f c A s H h=>(hb f c A s H h).h) hdef hbind hp hpc hco hgen hn hdb hs).imp fun _ _ _ h=>zpp hT h⟩
theorem zhv {kz:List Int}:(z5r kz).Perm (List.range kz.length):=by
 unfold z5r
 split
 . exact .refl _
 . have pm:=(z43 (lt:=fun i j=>decide (kz.getD i 0<kz.getD j 0)) ⟨fun a=>by simp,fun {a b c}=>by simp;omega,fun {a b}=>by simp;omega⟩ (n:=kz.length) (by omega)).1
   simpa using pm.toList
def hasT (T:List (Addr×Str)) (H:Hp):Prop:=∀t∈T,H t.1=some (.ctb t.2)
theorem hasT.mono {T:List (Addr×Str)} {H H':Hp} (h:hasT T H) (s:Same H H'):hasT T H':=fun t ht=>s _ _ (h t ht)
noncomputable def spT (T:List (Addr×Str)) (sp:Sp):Sp:=fun vs H Q E=>hasT T H/\sp vs H Q E
theorem zze {P:Program} {w:World} {K:Frag} {mg:Str->Option Value} {base:Heap} {x qual:Str} {st:Stmt} {f:Addr} {fd:FuncData} {N ps:List Str} {k n kk:Nat} {fr:Bool} {g:DS->SR} {T:List (Addr×Str)} (F:Fun K x qual st f fd) (S:FnScope N ps (z03 st)) (hps:ps.length=n) (hN:N.length=n+kk)
  (hbody:∀(cdv:Value) (A:Around) (outer:List Env) (s:Shared) (H:Hp) (E:XK),Room k (A.deeper (envOfC qual (z03 st) s.heap.objs.size f cdv))->hasT T H ->
   QB (zcs (CX1 P w) P w K mg base N qual (z03 st) f cdv A outer s H E) ⟨H,xNm K mg E⟩ fr (z0u st) g):FnOk P w K mg base (CX1 P w) (k+1) f fd ps (spT T (spD K mg fr (mOf fr n kk g) n)):=by
 have len:∀{vs:List V} {H:Hp} {Q:VK} {E:XK},spT T (spD K mg fr (mOf fr n kk g) n) vs H Q E->vs.length=n:=fun {vs H Q E} h=>by
  obtain ⟨_,ds,H0,s,r,hn,_⟩:=h
  rw [<-r.length];exact hn
 refine F.okX S (fun vs H Q E h=>by rw [len h,hps]) fun cdv A outer s H vs Q E hr h=>⟨_,(hbody cdv A outer s H E hr h.1).h,?_⟩
 rw [show z2k N vs=vs.map some++List.replicate kk none by unfold z2k;rw [len h,hN,Nat.add_sub_cancel_left]]
 exact zg1 h.2
section
variable {X:Cx} {EX:XW} {fr:Bool} {x:Str} {p pos:Pos} {e:Expr} {es:List Expr} {fs:DE->R (List D)}
theorem z89 {ps:List Str} {k j n kk:Nat} {gg:DS->SR} {T:List (Addr×Str)} (hT:hasT T EX.hb) (L:Lnd X EX) (G:z68 X.prog X.w X.K X.mg X.base x ps k (spT T (spD X.K X.mg fr (mOf fr n kk gg) n))) (hr:Room j X.A) (hg:Gl X x) (ha:QA X EX (e::es) fs) (hkj:k<=j:=by omega) (hdb:(x==("__debug__":Str))=false:=by decide)
  (he:starEach (e::es) X.env=(false,eval e X.env)::starEach es X.env:=by rfl) (hpl:(backTo pos (starEach es X.env)).any (·.1)=false:=by rfl):QE X EX fr (.Call (.Name x p) (e::es) [] pos) (z0k (mOf fr n kk gg) fs):=
 ⟨(zg5 G L.on hr hg ha.h hkj hdb he hpl).imp fun σ H Q q=>by
  have q':=zl8 (n:=n) (mg:=X.mg) (E:=eOf X.K EX X.mg) (m:=mOf fr n kk gg) z6w (fun x H z=>by obtain ⟨C,hC⟩:=L.nm x H z;exact ⟨C,hC,fun od xf=>⟨x,z,hC,xf⟩⟩) q
  obtain ⟨sx,ρ,H0,s,e,h⟩:=q'
  refine ⟨sx,ρ,H0,s,e,?_⟩
  cases z:fs ρ with
  | ok d=>rw [z] at h;exact fun v H' o s' r q=>⟨hT.mono (sx.trans s'),h v H' o s' r q⟩
  | er x=>rw [z] at h;exact h
  | st=>rw [z] at h;exact h⟩
end
theorem y1v {X:Cx} {hb:Hp}:Lnd X ⟨hb,fun _ _=>False⟩:=⟨fun _ _ z=>z.elim,fun _ _ _ _ _ _ _ ⟨_,_,_,_,_,_,_,z,_⟩=>z.elim,fun _ _ _ _ _ _ _ _ _ _ _ _ _ _ _ _ _ _ z _=>z.elim⟩
section
variable {X:Cx} {sc:Scope} {caps:List Str} {ix:List Nat} {elt iter:Expr} {ifs:List Expr} {pos px:Pos} {x:Str} {kp:Bool} {EX:XW} {fi:DE->R (List D)} {t:DE->R Bool} {f:DE->R D}
theorem zzf {fr:Bool} {m:List Bool} {v:Str} {k:Nat} {spos pv:Pos} (hNX:X.N.Nodup) (hk:X.N[k]?=some v) (hv:X.env.scope.names.lookup v=some .local) (C:CompOk X sc caps ix) (hN:([x]++caps).Nodup) (hx:sc.names.lookup x=some .local) (hi:QI X EX kp (.Name x px) iter fi)
  (ht:PTq X sc ([x]++caps) ifs t) (he:∀fp s H,QE (z0p X sc ([x]++caps) fp s H) ⟨EX.hb,fun _ _=>False⟩ false elt f)
  (hsw:swapsWith (.ListComp elt [⟨.Name x px,iter,ifs,0⟩] sc pos) (some (.Name v pv)) spos.line X.env=pure true:=by rfl) (hs:∀x,foldedSetIterable iter X.env x=pure x:=by intro _;rfl) :
  QS X EX fr (.Assign [.Name v pv] (.ListComp elt [⟨.Name x px,iter,ifs,0⟩] sc pos) spos) (z30 true k m (z4g fi b1 ix t f)):=by
 obtain ⟨tt,h1,h2⟩:=ht.run
 refine ⟨(zcy hNX hk hv C hN hx hi.h h1 (fun fp s H=>(he fp s H).h) hsw hs).imp fun _ _ _ q=>zao (fun _ _ _ q=>zg0 (W:=⟨EX.hb,fun _ _=>False⟩) (EX:=EX) (Same.refl _) zxt h2 q) (zno q)⟩
end
theorem y0s {P:Program} {w:World} {K:Frag} {mg:Str->Option Value} {base:Heap} {x qual:Str} {st:Stmt} {f c:Addr} {fd:FuncData} {N ps:List Str} {k n kk:Nat} {fr:Bool} {g:DS->SR} {T:List (Addr×Str)} (F:Fun K x qual st f fd) (hc:fd.code=.ref c) (S:FnScope N ps (z03 st)) (hps:ps.length=n) (hN:N.length=n+kk)
  (hbody:∀(A:Around) (outer:List Env) (s:Shared) (H:Hp) (E:XK),Room k (A.deeper (envOfC qual (z03 st) s.heap.objs.size f (.ref c)))->hasT T H ->
   QB (zcs (CX1 P w) P w K mg base N qual (z03 st) f (.ref c) A outer s H E) ⟨H,xNm K mg E⟩ fr (z0u st) g):FnOk P w K mg base (CX1 P w) (k+1) f fd ps (spT T (spD K mg fr (mOf fr n kk g) n)):=by
 have len:∀{vs:List V} {H:Hp} {Q:VK} {E:XK},spT T (spD K mg fr (mOf fr n kk g) n) vs H Q E->vs.length=n:=fun {vs H Q E} h=>by
  obtain ⟨_,ds,H0,s,r,hn,_⟩:=h
  rw [<-r.length];exact hn
 obtain ⟨oc,od,kV,doc,pm,an,cdv,ct,osl,rfl,lk,hcd⟩:=F.ex
 have hc':cdv=.ref c:=hc
 subst hc'
 refine zrc lk hcd S (fun vs H Q E h=>by rw [len h,hps]) fun A outer s H vs Q E hr h=>⟨_,(hbody A outer s H E hr h.1).h,?_⟩
 rw [show z2k N vs=vs.map some++List.replicate kk none by unfold z2k;rw [len h,hN,Nat.add_sub_cancel_left]]
 exact zg1 h.2
def z7u (mg:Str->Option Value) (base:Heap) (tb:List (Addr×Addr)):Prop:=∀t∈tb,PySem.W.CodeHd base t.1 t.2/\base.BuiltinsAt mg t.2
def zk9 (T:List (Addr×Str)) (H:Hp):Prop:=∀b,H b=none\/(∃o xs,H b=some (.frz o (.lst xs)))\/∃t∈T,b=t.1/\H b=some (.ctb t.2)
noncomputable def zdw (T:List (Addr×Str)):Hp:=fun b=>(T.lookup b).map .ctb
theorem zdx {T:List (Addr×Str)} (hd:(T.map (·.1)).Nodup):∀t∈T,zdw T t.1=some (.ctb t.2):=by
 induction T with
 | nil=>intro t ht;cases ht
 | cons a r ih=>
  intro t ht
  unfold zdw
  obtain ⟨x,y⟩:=a
  rw [List.lookup_cons]
  rcases List.mem_cons.mp ht with rfl | ht
  . simp
  . have hx:x∉r.map (·.1):=(List.nodup_cons.mp hd).1
    have ne:(t.1==x)=false:=by
     cases h:t.1==x with
     | false=>rfl
     | true=>exact absurd (List.mem_map.mpr ⟨t,ht,eq_of_beq h⟩) hx
    rw [ne]
    exact ih (List.nodup_cons.mp hd).2 t ht
theorem zm9:∀{T:List (Addr×Str)} {b:Addr} {q:Str},T.lookup b=some q->(b,q)∈T
 | [],_,_,e=>by cases e
 | (x,y)::r,b,q,e=>by
  rw [List.lookup_cons] at e
  cases hb:b==x with
  | true=>rw [hb] at e;cases e;rw [eq_of_beq hb];exact .head _
  | false=>rw [hb] at e;exact .tail _ (zm9 e)
theorem z5e {T:List (Addr×Str)} {b:Addr} {u:HO}:zdw T b=some u->∃t∈T,b=t.1/\u=.ctb t.2:=by
 unfold zdw
 intro h
 cases e:T.lookup b with
 | none=>rw [e] at h;cases h
 | some q=>rw [e] at h;cases h;exact ⟨(b,q),zm9 e,rfl,rfl⟩
theorem zhw {P:Program} {w:World} {K:Frag} {mg mb:Str->Option Value} {CX:CXT} {k:Nat} {fa a:Addr} {fd:FuncData} {x:Str} {sp:Sp} {s₁:Shared} {vs:List Value} {ns:List Int} {T:List (Addr×Str)} {tb:List (Addr×Addr)}
  (KX:K.In s₁.heap) (hns:s₁.heap.Ns mainGlobals mg) (hb:s₁.heap.Ns builtinsNs mb) (hbb:∀x:Str,x≠"__name__"->mb x=bootBuiltins x) (hlim:s₁.heap.NoLimit) (hg:s₁.gens=#[])
  (ha:s₁.heap.get? a=some { cls:=.type "list",data:=.seq vs.toArray }) (hi:IntsAre vs ns) (hl:ns.length<=sizeLine) (hr:Room k callerA)
  (hT:∀t∈T,isCodeTable s₁.heap t.1/\s₁.heap.get? t.1=some { cls:=.none,data:=.fields #[] }) (hd:(T.map (·.1)).Nodup) (hKT:∀t∈T,K.lookup t.1=none)
  (htb:∀t∈tb,PySem.W.CodeHd s₁.heap t.1 t.2/\s₁.heap.BuiltinsAt mg t.2)
  (F:∀base:Heap,K.In base->base.Ns mainGlobals mg->z7u mg base tb->FnOk P w K mg base CX k fa fd [x] sp) (hbind:∀(s:Shared) (u:Value),BindsTo s fd ⟨[u],[]⟩ [(x,u)])
  (hsp:∀H:Hp,zk9 T H->hasT T H->SqL K H a (ns.map V.int)->sp [.ref a] H (fun v H'=>v=.bl true/\hasT T H') fun _ _ _=>False)
  (hCX:∀H e s',CX [] H s₁ (fun _ _ _=>False) e s'->False) :
  codeAny (model P w) callerA (.call (.ref fa) ⟨[.ref a],[]⟩) (fun r s'=>r=.ok (.ret (.bool true))/\OldK s₁.heap s'.heap/\s'.os=s₁.os/\AllBare s'.gens) s₁:=by
 have rv:=z6q hi
 have lenV:=hi.length
 have haT:∀t∈T,t.1≠a:=fun t ht z=>by
  have:=(hT t ht).2
  rw [z,ha] at this;cases this
 have core:∀H:Hp,zk9 T H->hasT T H->SqL K H a (ns.map V.int)->HOk P w H s₁.heap->(∀b,H b≠none->b=a\/∃t∈T,b=t.1)->(H a≠none->K.lookup a=none) ->
   codeAny (model P w) callerA (.call (.ref fa) ⟨[.ref a],[]⟩) (fun r s'=>r=.ok (.ret (.bool true))/\OldK s₁.heap s'.heap/\s'.os=s₁.os/\AllBare s'.gens) s₁:=by
  intro H hO hH hS hok hA hK
  have base_of:∀{b:Addr} {o:Obj},s₁.heap.get? b=some o->H b=none->(zii s₁.heap H).get? b=some o:=fun e n=>zik e n
  have noA:∀{b:Addr} {o:Obj},s₁.heap.get? b=some o->(∀vs n,o.data≠.seq vs n)->(∀vs,o.data=.fields vs->o.cls≠.none)->H b=none:=fun {b o} e d1 d2=>by
   cases q:H b with
   | none=>rfl
   | some u=>
    rcases hA b (by rw [q];simp) with rfl | ⟨t,ht,rfl⟩
    . rw [ha] at e;cases e
      exact absurd rfl (d1 _ _)
    . rw [(hT t ht).2] at e;cases e
      exact absurd rfl (d2 _ rfl)
  have nsK:∀{b:Addr} {m:Str->Option Value},s₁.heap.Ns b m->(zii s₁.heap H).Ns b m:=fun {b m} ⟨o,es,ep,e,d,r⟩=>⟨o,es,ep,base_of e (noA e (fun vs n z=>by rw [d] at z;cases z) fun vs z=>by rw [d] at z;cases z),d,r⟩
  have hKb:K.In (zii s₁.heap H):=fun b o e=>base_of (KX b o e) (by
   cases q:H b with
   | none=>rfl
   | some u=>
    rcases hA b (by rw [q];simp) with rfl | ⟨t,ht,rfl⟩
    . rw [hK (by rw [q];simp)] at e;cases e
    . rw [hKT t ht] at e;cases e)
  have hM:Mod K mg (zii s₁.heap H):=⟨hKb,nsK hns,⟨mb,nsK hb,hbb⟩,let ⟨mc,h1,h2⟩:=hlim;⟨mc,nsK h1,h2⟩⟩
  have hB:z7u mg (zii s₁.heap H) tb:=fun t ht=>by
   obtain ⟨⟨o,us,file,tf,flags,tg,inF,text,tt,e1,e2,e3,r⟩,bm,ob,b1,b2,b3,b4,b5,b6,b7,b8⟩:=htb t ht
   refine ⟨⟨o,us,file,tf,flags,tg,inF,text,tt,base_of e1 (noA e1 (fun vs n z=>by rw [e3] at z;cases z) fun vs z y=>by rw [e2] at y;cases y),e2,e3,r⟩,bm,ob,b1,b2,b3,b4,base_of b5 (noA b5 (fun vs n z=>by rw [b8] at z;cases z) fun vs z=>by rw [b8] at z;cases z),b6,b7,b8⟩
  have e0:Env0 P w K mg (zii s₁.heap H) callerA [] s₁ H:=⟨rfl,hM,fun b o e=>zmt e,Nat.le_of_eq (zf4 _ _),trivial,fun b hb=>absurd (show b∈([]:List Addr) from hb) (by simp),hok,.of_eq hg⟩
  refine codeAny_mono ((F _ hKb (nsK hns) hB).run callerA [] s₁ H ⟨[.ref a],[]⟩ [.ref a] [.ref a] _ _ hr e0 (hbind s₁ (.ref a)) (.cons rfl .nil) (hsp H hO hH hS)) fun r s' h=>?_
  cases r with
  | error e=>exact (hCX H e s' h).elim
  | ok fl=>
   cases fl with
   | next=>exact False.elim h
   | brk=>exact False.elim h
   | cont=>exact False.elim h
   | ret u=>
    obtain ⟨v,H',os,bare,un,hok',r',q,qT⟩:=h
    have q':v=.bl true:=q
    subst q'
    obtain rfl:u=Value.bool true:=r'
    have kp:∀b o,s₁.heap.get? b=some o->s'.heap.get? b=some o\/(isCodeTable s₁.heap b/\o={ cls:=.none,data:=.fields #[] }/\∃ps,s'.heap.get? b=some { cls:=.none,data:=.fields ps }):=fun b o e=>by
     cases q:H b with
     | none=>exact .inl (un.keep b o e q (by intro z;exact absurd (show b∈([]:List Addr) from z) (by simp)) (by simp))
     | some u=>
      rcases hO b with z | ⟨ob,xs,z⟩ | ⟨t,ht,rfl,z⟩
      . rw [q] at z;cases z
      . have z2:=un.frzs b ob _ z
        obtain ⟨e1,_⟩:=hok b _ z
        obtain ⟨e2,_⟩:=hok' b _ z2
        rw [e] at e1;cases e1
        exact .inl e2
      . obtain ⟨ps,e2,_⟩:=hok' t.1 _ (qT t ht)
        have e1:=(hT t ht).2
        rw [e] at e1
        exact .inr ⟨(hT t ht).1,Option.some.inj e1,ps,e2⟩
    refine ⟨rfl,⟨fun b o e=>?_,fun b o e=>?_⟩,os,bare⟩
    . rcases kp b o e with z | ⟨z1,rfl,ps,z2⟩
      . exact .inl z
      . exact .inr (.inl ⟨z1,rfl,#[],ps,rfl,by rw [Array.empty_append];exact z2⟩)
    . rcases kp b o e with z | ⟨z1,rfl,ps,z2⟩
      . exact ⟨_,z⟩
      . exact ⟨_,z2⟩
 have okT:∀{b:Addr} {u:HO} {H:Hp},zdw T b=some u->ObjOk P w H s₁.heap b u:=fun {b u H} z=>by
  obtain ⟨t,ht,rfl,rfl⟩:=z5e z
  exact ⟨#[],(hT t ht).2,trivial,fun pos v hv=>nomatch hv⟩
 cases hk:K.lookup a with
 | some o=>
  have e:=KX a o hk
  rw [ha] at e
  cases e
  refine core (zdw T) (fun b=>?_) (zdx hd) (.inr ⟨_,vs.toArray,_,hk,rfl,rfl,rfl,by rw [List.size_toArray,lenV];exact hl,by simpa using rv⟩) (fun b u z=>okT z) (fun b z=>?_) fun z=>?_
  . cases q:zdw T b with
    | none=>exact .inl rfl
    | some u=>obtain ⟨t,ht,h1,rfl⟩:=z5e q;exact .inr (.inr ⟨t,ht,h1,rfl⟩)
  . cases q:zdw T b with
    | none=>exact absurd q z
    | some u=>obtain ⟨t,ht,h1,rfl⟩:=z5e q;exact .inr ⟨t,ht,h1⟩
  . cases q:zdw T a with
    | none=>exact absurd q z
    | some u=>obtain ⟨t,ht,h1,rfl⟩:=z5e q;exact absurd h1.symm (haT t ht)
 | none=>
  refine core (fun b=>if b=a then some (.frz { cls:=.type "list",data:=.seq vs.toArray } (.lst (ns.map V.int))) else zdw T b) (fun b=>?_) (fun t ht=>?_) (.inl (.inr ⟨{ cls:=.type "list",data:=.seq vs.toArray },if_pos rfl⟩)) (fun b u z=>?_) (fun b z=>?_) fun _=>hk
  . by_cases hb:b=a
    . exact .inr (.inl ⟨_,_,if_pos hb⟩)
    . dsimp only
      rw [if_neg hb]
      cases q:zdw T b with
      | none=>exact .inl rfl
      | some u=>obtain ⟨t,ht,h1,rfl⟩:=z5e q;exact .inr (.inr ⟨t,ht,h1,rfl⟩)
  . show (if t.1=a then _ else zdw T t.1)=_
    rw [if_neg (haT t ht)]
    exact zdx hd t ht
  . by_cases hb:b=a
    . have z':=(if_pos hb).symm.trans z
      cases z'
      subst hb
      exact ⟨ha,by rw [List.length_map];exact hl,vs,_,rv,ha⟩
    . have z':=(if_neg hb).symm.trans z
      exact okT z'
  . by_cases hb:b=a
    . exact .inl hb
    . have z':zdw T b≠none:=fun y=>z ((if_neg hb).trans y)
      cases q:zdw T b with
      | none=>exact absurd q z'
      | some u=>obtain ⟨t,ht,h1,rfl⟩:=z5e q;exact .inr ⟨t,ht,h1⟩
structure Mkr where
 x:Str
 c:Addr
 P:Addr
 q:Str
abbrev mkT (M:List Mkr):List (Addr×Str):=M.map fun m=>(m.P,m.q)
abbrev mkB (M:List Mkr):List (Addr×Addr):=M.map fun m=>(m.c,m.P)
theorem walk_ofT {l:PySem.W.OpenLaw} {n k:Nat} {q:Program} {loose:List Str} {XP:(Str->Option Value)->Heap->Prop} {YP:World->Heap->Prop} {d:DefRec} {K:Params->Frag} {CX:World->CXT} {sp:World->Sp} {x:Str} {M:List Mkr}
  (hn:l.most=some n) (hn2:n<=sizeLine) (hdf:d.params.defaults=[]) (hr:Room k callerA)
  (hY:∀(w:World) (h:Heap),YP w h->(K w.params).In h)
  (hK:∀w:World,PySem.W.noTabs (K w.params)=true) (hd:(M.map (·.P)).Nodup)
  (hM:∀m∈M,((recsOf q).find? (fun e=>e.name==m.x)).isSome=true/\∀w:World,tabIn (K w.params) m.x=some (m.c,m.P))
  (F:∀(w:World) (mg:Str->Option Value) (fa:Addr) (h:Heap),(K w.params).In h->h.Ns mainGlobals mg->mg d.name=some (.ref fa) ->
   ∃fd:FuncData,(∀(s:Shared) (u:Value),BindsTo s fd ⟨[u],[]⟩ [(x,u)]) /\
    ∀base:Heap,(K w.params).In base->base.Ns mainGlobals mg->z7u mg base (mkB M)->FnOk l.prog w (K w.params) mg base (CX w) k fa fd [x] (sp w))
  (hsp:∀(w:World) (H:Hp) (a:Addr) (ns:List Int),ns.length<=n->zk9 (mkT M) H->hasT (mkT M) H->SqL (K w.params) H a (ns.map V.int)->sp w [.ref a] H (fun v H'=>v=.bl true/\hasT (mkT M) H') fun _ _ _=>False)
  (hCX:∀(w:World) (H:Hp) (s:Shared) (e:Value) (s':Shared),CX w [] H s (fun _ _ _=>False) e s'->False) :
  PySem.W.WalkO q loose XP YP l.row.toRowW d [] (fun f vs=>PySem.call f vs):=by
 refine Att.attach_call hn hdf fun w s₀ s₁ mg mb fa o pm cd doc a vs ns G Y ho hd' hcd hmg hobj hints hlen hg=>?_
 have KX:=hY w _ Y
 obtain ⟨fd,hb,hF⟩:=F w mg fa _ KX G.T.g hmg
 have tabs:∀m∈M,PySem.W.CodeHd s₁.heap m.c m.P/\s₁.heap.get? m.P=some (PySem.W.tabObj #[]):=fun m hm=>by
  obtain ⟨hf,ht⟩:=hM m hm
  obtain ⟨d,hf⟩:=Option.isSome_iff_exists.mp hf
  exact PySem.W.tab_of G.T KX hf (ht w)
 refine zhw (T:=mkT M) (tb:=mkB M) KX G.T.g G.T.b G.T.builtins G.T.nolimit hg hobj hints (Nat.le_trans hlen hn2) hr (fun t ht=>?_) (by rw [List.map_map];exact hd) (fun t ht=>?_) (fun t ht=>?_) hF hb (fun H hO hH hS=>hsp w H a ns hlen hO hH hS) fun H e s'=>hCX w H s₁ e s'
 . obtain ⟨m,hm,rfl⟩:=List.mem_map.mp ht
   obtain ⟨h1,h2⟩:=tabs m hm
   exact ⟨(h1.tab h2).isCodeTable,h2⟩
 . obtain ⟨m,hm,rfl⟩:=List.mem_map.mp ht
   obtain ⟨h1,h2⟩:=tabs m hm
   cases q:(K w.params).lookup m.P with
   | none=>exact rfl
   | some u=>
    have e:=KX _ _ q
    rw [h2] at e;cases e
    have z:=List.all_eq_true.mp (hK w) (m.P,_) (PySem.W.mem_of_lookupK q)
    exact absurd (show false=true from z) Bool.false_ne_true
 . obtain ⟨m,hm,rfl⟩:=List.mem_map.mp ht
   obtain ⟨h1,h2⟩:=tabs m hm
   refine ⟨h1,?_⟩
   obtain ⟨bm,ob,a1,a2,a3,a4,a5,a6⟩:=G.T.bmain
   refine ⟨bm,ob,a1,a2,fun z=>?_,fun z=>?_,a3,a4,a5,a6⟩
   . obtain ⟨o,es,ep,e,d,_⟩:=G.T.g
     rw [z,e] at a3;cases a3
     rw [d] at a6;cases a6
   . have h2:s₁.heap.get? m.P=some (PySem.W.tabObj #[]):=h2
     rw [z,h2] at a3;cases a3
     cases a4
noncomputable def spTL (T:List (Addr×Str)) (K:Frag) (fr:Bool) (m:List D->R D) (n:Nat):Sp:=fun vs H Q E=>hasT T H/\spL K fr m n vs H Q E
theorem spTL.spT {T:List (Addr×Str)} {K:Frag} {fr:Bool} {m:List D->R D} {n:Nat} {vs:List V} {H:Hp} {Q:VK} {E:XK} {mg:Str->Option Value} (h:spTL T K fr m n vs H Q E):L2.spT T (L2.spD K mg fr m n) vs H Q E:=⟨h.1,h.2.spD⟩
theorem zpq {T:List (Addr×Str)} {K:Frag} {H:Hp} {a:Addr} {ns:List Int} {m:List D->R D} {fr:Bool} (hO:zk9 T H) (hH:hasT T H) (hS:SqL K H a (ns.map V.int)) (h:m [.scr ns]=.ok (.bl true)):spTL T K fr m 1 [.ref a] H (fun v H'=>v=.bl true/\hasT T H') fun _ _ _=>False:=by
 refine ⟨hH,[.scr ns],H,Same.refl _,.one ?_,rfl,?_⟩
 . simp only [RD]
   refine ⟨a,rfl,?_⟩
   rcases hS with (hS | hS) | hS
   . rcases hO a with z | ⟨o,xs,z⟩ | ⟨t,_,_,z⟩<;>rw [z] at hS<;>cases hS
   . exact .inl hS
   . exact .inr hS
 . rw [h]
   exact fun v H' o=>by
    obtain ⟨sm,H0',_,r⟩:=o.weak.rd
    exact ⟨r.bl,hH.mono sm⟩
theorem Room.dl {k:Nat} {A:Around} (r:Room k A):A.depth<recursionLimit:=by have:=r.dp;omega
theorem zdy {K:Frag} {x:Str} {st:Stmt} {f c P:Addr} {fd:FuncData} (A:FnAt K x st f) (F:Fun K x x st f fd) (ht:tabIn K x=some (c,P)):fd.code=.ref c:=by
 obtain ⟨oc,od,kV,doc,pm,an,cdv,ct,osl,rfl,lk,hcd⟩:=F.ex
 unfold tabIn at ht
 rw [A.ns] at ht
 dsimp only at ht
 rw [lk] at ht
 dsimp only at ht
 split at ht
 . rename_i c' hc
   split at ht
   . split at ht
     . cases ht;rfl
     . cases ht
   . cases ht
 . cases ht
theorem zpr {P:Program} {w:World} {K:Frag} {mg:Str->Option Value} {h:Heap} {x:Str} {st:Stmt} {f:Addr} {ps:List Str} {k:Nat} {sp:Sp} {fa:Addr} {z:Str} {tb:List (Addr×Addr)} (X:K.In h) (G:h.Ns mainGlobals mg) (hfa:mg x=some (.ref fa)) (A:FnAt K x st f) (hb:∀(s:Shared) (v kV doc pm:Value) (an:Option Addr) (cdv ct:Value),BindsTo s (PySem.W.fnOf x x (z2l st) (z0u st) (z03 st) .none kV doc pm an cdv ct) ⟨[v],[]⟩ [(z,v)])
  (ok:∀base:Heap,K.In base->base.Ns mainGlobals mg->z7u mg base tb->∀{fd},Fun K x x st f fd->FnOk P w K mg base (CX1 P w) k f fd ps sp) :
  ∃fd:FuncData,(∀(s:Shared) (v:Value),BindsTo s fd ⟨[v],[]⟩ [(z,v)])/\∀base:Heap,K.In base->base.Ns mainGlobals mg->z7u mg base tb->FnOk P w K mg base (CX1 P w) k fa fd ps sp:=by
 have e:=hfa.symm.trans (PySem.W.mg_of X G A.ns)
 cases e
 obtain ⟨fd,F⟩:=A.fn
 have F':=F
 obtain ⟨oc,od,kV,doc,pm,an,cdv,ct,osl,rfl,lk,hcd⟩:=F'.ex
 exact ⟨_,fun s v=>hb s v _ _ _ _ _ _,fun base kb nb hB=>ok base kb nb hB F⟩
theorem zma {mg:Str->Option Value} {base:Heap} {tb:List (Addr×Addr)} {c P:Addr} (h:z7u mg base tb) (hm:(c,P)∈tb) {X:Cx} (e1:X.env.code=.ref c) (e2:X.base=base) (e3:X.mg=mg):LamAt X c P:=by
 subst e2 e3
 exact ⟨e1,(h _ hm).1,(h _ hm).2⟩
structure FnQ (P:Program) (w:World) (K:Frag) (mg:Str->Option Value) (base:Heap) (f:Addr) (fd:FuncData) (ps:List Str) (sp:Sp):Prop where
 len:∀vs H Q E,sp vs H Q E->vs.length=ps.length
 run:∀(A:Around) (e:Value) (outer:List Env) (s:Shared) (H:Hp) (args:Args) (us:List Value) (vs:List V) (Q:VK) (E:XK),A.handled=some e->A.depth+8<recursionLimit->Env0 P w K mg base A outer s H->BindsTo s fd args (ps.zip us)->Vals vs us->sp vs H Q E ->
  codeAny (model P w) A (.call (.ref f) args) (CR (CX1 P w) outer P w H s Q E) s
theorem Room.dpQ {k:Nat} {A:Around} (r:Room (k+1) A):A.depth+8<recursionLimit:=by have:=r.dp;omega
theorem zvg {P:Program} {w:World} {K:Frag} {mg:Str->Option Value} {base:Heap} {f:Addr} {name qual:Str} {params:Arguments} {body:List Stmt} {scope:Scope} {dV kV doc pm cdv ct oc:Value} {an od:Option Addr}
  {osl:Array (Option Value)} {N ps:List Str} {sp:Sp} (lk:K.lookup f=some ⟨oc,od,.func (PySem.W.fnOf name qual params body scope dV kV doc pm an cdv ct),osl⟩) (hcd:codeIn K cdv qual=true) (S:FnScope N ps scope)
  (len:∀vs H Q E,sp vs H Q E->vs.length=ps.length)
  (hbody:∀(A:Around) (outer:List Env) (s:Shared) (H:Hp) (vs:List V) (Q:VK) (E:XK) (e:Value),sp vs H Q E ->
   ∃t,PSs ((zcs (CX1 P w) P w K mg base N qual scope f cdv A outer s H E).held e) body t/\t { nx:=fun _ H'=>Q .non H',rt:=Q } (z2k N vs) H) :
  FnQ P w K mg base f (PySem.W.fnOf name qual params body scope dV kV doc pm an cdv ct) ps sp:=by
 refine ⟨len,fun A ex outer s H args us vs Q E hA hdp e0 hb r hsp=>?_⟩
 obtain ⟨hd,d,frm,gd,un⟩:=A
 obtain rfl:hd=some ex:=hA
 have hl:=len _ _ _ _ hsp
 have KX:K.In s.heap:=e0.mod.kin.keeps fun b o e=>(e0.bs b o e).1
 have lim:s.heap.NoLimit:=e0.mod.nolimit.keeps fun b o e=>(e0.bs b o e).1
 have hkind:∀y∈ps.zip us,scope.names.lookup y.1=some .local\/(scope.names.lookup y.1=some .cell/\((cellsFrom (s.heap.objs.size+1) scope.names []).lookup y.1).isSome=true):=fun ⟨n,v⟩ hy=>by
  rcases S.par n (List.of_mem_zip hy).1 with q | q
  . exact .inl q
  . exact .inr ⟨q,PySem.W.cellsFrom_some _ _ _ (.inl q)⟩
 refine codeAny_call_function (by show d<recursionLimit;have:d+8<recursionLimit:=hdp;omega) (KX _ _ lk) rfl S.co S.gen rfl (PySem.W.codeRec_of KX hcd) (hb _ _ _ _ ?_)
 refine wpAny_newFunctionEnv_cells S.kind hkind fun env he s1 x=>?_
 subst he
 refine ⟨lim.keeps x.toInCall.keep,codeAny_func ?_⟩
 obtain ⟨t,ht,hq⟩:=hbody ⟨none,d,frm,gd,un⟩ outer s H vs Q E ex hsp
 have e1:Env0 P w K mg base ⟨none,d,frm,gd,un⟩ outer s H:=⟨e0.frames,e0.mod,e0.bs,e0.bsz,e0.funs,e0.frf,e0.hok,e0.bare⟩
 have I0:Inv (zcs (CX1 P w) P w K mg base N qual scope f cdv ⟨none,d,frm,gd,un⟩ outer s H E) [] (z2k N vs) H s1:=za5 S rfl e1 hl r x
 have I:=I0.held ex
 refine wpAny_mono (ht [] s1 (z2k N vs) H _ I hq) (fun fl s' hs=>?_) fun e s' hs=>hs.elim
 have fin:∀{σ':St} {H':Hp} {v:V} {u:Value},Inv ((zcs (CX1 P w) P w K mg base N qual scope f cdv ⟨none,d,frm,gd,un⟩ outer s H E).held ex) [] σ' H' s'->RelV v u->Q v H'->CE outer P w H s Q u s':=
  fun {σ' H' v u} J rv q=>⟨v,H',J.os,J.bare,J.base,J.hok,rv,q⟩
 cases fl with
 | ret u=>
  obtain ⟨v,σ',H',J,rv,q⟩:=hs
  exact fin J rv q
 | next=>
  obtain ⟨σ',H',J,q⟩:=hs
  exact fin (v:=V.non) (u:=Value.none) J rfl q
 | brk=>
  obtain ⟨_,_,_,q⟩:=hs
  exact False.elim q
 | cont=>
  obtain ⟨_,_,_,q⟩:=hs
  exact False.elim q
theorem zps {K:Frag} {fr:Bool} {H:Hp} {n k:Nat} {g:DS->SR} {vs:List V} {Q:VK} {E:XK} (h:spL K fr (mOf fr n k g) n vs H Q E) :
  TSd K F0 fr g { nx:=fun _ H'=>Q .non H',rt:=Q } (vs.map some++List.replicate k none) H:=by
 obtain ⟨ds,H0,s,r,hn,h⟩:=h
 refine ⟨H0,H,H0,_,fun _ _ z=>(nomatch z),zd6 s r k,?_⟩
 unfold mOf at h
 rw [if_pos hn] at h
 cases q:g (ds.map .im++List.replicate k .em) with
 | nx ρ=>
  rw [q] at h
  cases fr with
  | true=>exact h.elim
  | false=>exact fun σ H' H0' I=>h _ H' (.val I.sb I.ext (by simp only [RD]))
 | rt d=>rw [q] at h;exact h
 | er x=>rw [q] at h;exact h.elim
 | bk ρ=>rw [q] at h;exact h.elim
 | ct ρ=>rw [q] at h;exact h.elim
 | st=>rw [q] at h;exact h.elim
theorem fnQ {P:Program} {w:World} {K:Frag} {mg:Str->Option Value} {base:Heap} {x qual:Str} {st:Stmt} {f:Addr} {fd:FuncData} {N ps:List Str} {n kk:Nat} {fr:Bool} {g:DS->SR} (F:Fun K x qual st f fd) (S:FnScope N ps (z03 st)) (hps:ps.length=n) (hN:N.length=n+kk)
  (hbody:∀(cdv:Value) (A:Around) (outer:List Env) (s:Shared) (H:Hp) (E:XK) (e:Value),QB ((zcs (CX1 P w) P w K mg base N qual (z03 st) f cdv A outer s H E).held e) F0 fr (z0u st) g) :
  FnQ P w K mg base f fd ps (spL K fr (mOf fr n kk g) n):=by
 have hlen:∀{vs:List V} {H:Hp} {Q:VK} {E:XK},spL K fr (mOf fr n kk g) n vs H Q E->vs.length=n:=fun {vs H Q E} h=>by
  obtain ⟨ds,H0,s,r,hn,_⟩:=h
  rw [<-r.length];exact hn
 obtain ⟨oc,od,kV,doc,pm,an,cdv,ct,osl,rfl,lk,hcd⟩:=F.ex
 refine zvg lk hcd S (fun vs H Q E h=>by rw [hlen h,hps]) fun A outer s H vs Q E e h=>⟨_,(hbody cdv A outer s H E e).h,?_⟩
 have e':z2k N vs=vs.map some++List.replicate kk none:=by
  unfold z2k
  rw [hlen h,hN,Nat.add_sub_cancel_left]
 rw [e']
 exact zps h
theorem zpt {K:Frag} {fr:Bool} {σ:St} {H:Hp} {E:XK} {m:List D->R D} {n:Nat} {fs:DE->R (List D)} {Q:VK} (hl:∀ds,ds.length≠n->m ds=.st) (h:TEd K F0 fr (z0k m fs) σ H Q):zai (spL K fr m n) E (TAd K F0 fs) σ H Q:=by
 obtain ⟨sx,ρ,H0,s,e,h⟩:=h
 unfold z0k at h
 rw [Rk.bind] at h
 refine TAd.go sx s e h fun ds h vs H1 H1' s1 e1 r1=>?_
 refine ⟨ds,H1',e1.2.1,r1,?_,?_⟩
 . apply Classical.byContradiction
   intro hn
   rw [hl ds hn] at h
   exact h
 . cases q:m ds with
   | ok d=>rw [q] at h;exact fun v H' o=>h v H' (o.after s1 e1)
   | er x=>rw [q] at h;exact h (fun _=>none) (fun _ _ z=>nomatch z)
   | st=>rw [q] at h;exact h
def zvh (P:Program) (w:World) (K:Frag) (mg:Str->Option Value) (base:Heap) (x:Str) (ps:List Str) (sp:Sp):Prop:=
 ∃f fd,FnQ P w K mg base f fd ps sp/\Binds K fd ps []/\mg x=some (.ref f)/\keepIn K (.ref f)=true
section
variable {X:Cx} {x:Str} {p pos:Pos} {e:Expr} {es:List Expr} {ps:List Str} {sp:Sp} {E:XK} {ev:Value}
theorem zka {t:TA} (G:zvh X.prog X.w X.K X.mg X.base x ps sp) (hx:za0 (CX1 X.prog X.w) X E) (hA:X.A.handled=some ev) (hdp:X.A.depth+8<recursionLimit) (hg:Gl X x) (ha:PA X (e::es) t) (hdb:(x==("__debug__":Str))=false:=by decide)
  (he:starEach (e::es) X.env=(false,eval e X.env)::starEach es X.env:=by rfl) (hpl:(backTo pos (starEach es X.env)).any (·.1)=false:=by rfl):PE X (.Call (.Name x p) (e::es) [] pos) (zai sp E t):=by
 obtain ⟨f,fd,F,b,m,kp⟩:=G
 intro pins s σ H Q I h
 refine wpAny_Call_Name_kw (z58 I hg m ?_ hdb)
 refine PySem.W.callWith_K (h₀:=X.base) I.ok.mod.kin kp (thn (ha pos pins s σ H _ I h) fun us s1 ⟨vs,H1,I1,r,q⟩=>⟨I1.kIn,?_⟩) he hpl
 have hl:us.length=ps.length:=by rw [<-r.length];exact F.len _ _ _ _ q
 have hb:=b s1 us I1.kIn (by rw [List.append_nil];exact hl)
 rw [List.append_nil] at hb
 refine wpAny_call (codeAny_mono (F.run X.A ev X.stack s1 H1 ⟨us,[]⟩ us vs Q E hA hdp I1.env0 hb r q) fun r s' hq=>?_)
 cases r with
 | error e=>exact hx pins σ H1 s1 e s' I1 hq
 | ok fl=>
  cases fl with
  | ret u=>exact I1.after hq
  | next=>exact False.elim hq
  | brk=>exact False.elim hq
  | cont=>exact False.elim hq
theorem zvi {n kk:Nat} {fr:Bool} {gg:DS->SR} {fs:DE->R (List D)} (G:zvh X.prog X.w X.K X.mg X.base x ps (spL X.K fr (mOf fr n kk gg) n)) (hA:X.A.handled=some ev) (hdp:X.A.depth+8<recursionLimit) (hg:Gl X x) (ha:QA X F0 (e::es) fs) (hdb:(x==("__debug__":Str))=false:=by decide)
  (he:starEach (e::es) X.env=(false,eval e X.env)::starEach es X.env:=by rfl) (hpl:(backTo pos (starEach es X.env)).any (·.1)=false:=by rfl):QE X F0 fr (.Call (.Name x p) (e::es) [] pos) (z0k (mOf fr n kk gg) fs):=
 ⟨(zka (E:=fun _ _ _=>False) G (fun _ _ _ _ _ _ _ ⟨_,_,_,_,_,_,z⟩=>z.elim) hA hdp hg ha.h hdb he hpl).imp fun _ _ _ q=>zpt z6w q⟩
end
structure QYT (X:Cx) (T:List (Addr×Str)) (fr:Bool) (sts:List Stmt) (g:DS->SR):Prop where
 h:∀(pins:List (Addr×Obj)) (s:Shared) (σ:St) (H:Hp) (De:Ends) (Hc Hb H0:Hp) (ρ:DS) (P:Ex->Hp->Prop),hasT T H->Inv X pins σ H s->RS X.K Hc Hb H0 ρ σ H->SK X.K ⟨H,P⟩ fr Hc Hb De (g ρ) ->
  wpAny (model X.prog X.w) X.A (execs sts X.env) (SP X pins De) (fun ev s'=>∃H1 s1 x C a od H2,ev=.ref a/\Same H H1/\Inv X pins σ H1 s1/\XOut X.prog X.w X.stack H1 s1 C a od H2 s'/\X.mg (Str.ofString (Ex.cls x))=some (.ref C)/\P x H2/\XFs X.K x od H2) s
section
variable {X:Cx} {EX:XW} {fr frc:Bool} {k:String->Bool} {fs:DE->R (List D)} {n:Nat} {T:List (Addr×Str)} {sts:List Stmt} {g:DS->SR}
theorem QY.t (h:QY X fr sts g):QYT X T fr sts g:=⟨fun pins s σ H De Hc Hb H0 ρ P _ I R q=>h.h pins s σ H De Hc Hb H0 ρ P I R q⟩
theorem zvj {h₀:ExceptHandler} {hs:List ExceptHandler} {hd:HD} {pos:Pos} (hT:hasT T EX.hb) (hst:X.stack=X.env::X.outer) (hf:X.env.frame=some X.env.locals) (hb:QYT X T fr sts g) (hh:QH X EX fr (h₀::hs) hd):QS X EX fr (.Try sts (h₀::hs) [] [] pos) (zob g hd):=by
 refine ⟨fun pins s σ H De I h=>?_⟩
 obtain ⟨Hc,Hb,H0,ρ,sb,R,h⟩:=h
 have post:∀x,g ρ=.er x->SK X.K EX fr Hc Hb De (hd x ρ):=fun x q=>by unfold zob at h;rw [q] at h;exact h
 have rest:SK X.K ⟨H,fun x H'=>Same H H'/\SK X.K EX fr Hc Hb De (hd x ρ)⟩ fr Hc Hb De (g ρ):=by
  unfold zob at h
  cases q:g ρ<;>rw [q] at h<;>first | exact h | exact fun H' s'=>⟨s',h⟩
 refine wpAny_Try_except (wpAny_mono (hb.h pins s σ H De Hc Hb H0 ρ _ (hT.mono (sb.trans R.sb)) I R rest) (fun f s₁ hq=>?_) fun ev s' hx=>?_)
 . cases f<;>first | exact wpAny_execs_nil hq | exact hq
 . obtain ⟨H1,s1,x,C,a,od,H2,e,sH,I1,xo,hm,⟨sm,hk⟩,xf⟩:=hx
   subst e
   exact zoa I1 hst hf xo fun B T a0 h5 L=>hh.h pins σ H1 s1 C a od H2 s' B T a0 h5 De Hc Hb H0 ρ x X.xe H sm (fun dx e=>zt4 sH (I1.hok.none (xo.fly.newd dx e))) xf L hm R hk
theorem zpu {c:Expr} {b1 b2:List Stmt} {t:DE->R Bool} {g1 g2:DS->SR} {pos:Pos} (hc:QT X.nox F0 c t) (h1:QYT X T fr b1 g1) (h2:QYT X T fr b2 g2):QYT X T fr [.If c b1 b2 pos] (sIf (fun ρ=>(t ρ).noE) g1 g2):=by
 refine ⟨fun pins s σ H De Hc Hb H0 ρ P hT I R h=>?_⟩
 have mk:∀{b:List Stmt} {g':DS->SR},QYT X T fr b g'->∀H1,Same H H1->∀s1,Inv X pins σ H1 s1->RS X.K Hc Hb H0 ρ σ H1->SK X.K ⟨H1,P⟩ fr Hc Hb De (g' ρ) ->
   wpAny (model X.prog X.w) X.A (execs b X.env) (SP X pins De) (fun ev s'=>∃H1 s1 x C a od H2,ev=.ref a/\Same H H1/\Inv X pins σ H1 s1/\XOut X.prog X.w X.stack H1 s1 C a od H2 s'/\X.mg (Str.ofString (Ex.cls x))=some (.ref C)/\P x H2/\XFs X.K x od H2) s1:=
  fun q H1 sm s1 I1 R1 k1=>wpAny_mono (q.h pins s1 σ H1 De Hc Hb H0 ρ P (hT.mono sm) I1 R1 k1) (fun _ _ z=>z) fun _ _ ⟨H2,s2,x,C,a,od,H3,e,s3,z⟩=>⟨H2,s2,x,C,a,od,H3,e,sm.trans s3,z⟩
 unfold sIf at h
 rw [SK.toS] at h
 have I':Inv X.nox pins σ H s:=⟨⟨I.ok.mod,I.ok.kind,I.ok.glob,I.ok.blt,I.ok.above,I.ok.inj,I.ok.has,I.ok.cab,I.ok.hd,I.ok.frames,I.ok.stk,I.ok.exf,I.ok.bs,I.ok.bsz,I.ok.noex,I.ok.exfs,I.ok.funs,I.ok.frf⟩,I.os,I.bare,I.base,I.loc,I.cell,I.free,I.freeC,I.pin,I.hok,I.len⟩
 refine zh0 (wpAny_If (wpAny_mono (hc.h pins s σ H (fun b H1=>Same H H1/\SK X.K ⟨H,P⟩ fr Hc Hb De (if b=true then g1 ρ else g2 ρ)) I' ?_) (fun b s1 ⟨H1,I1,sm,q1⟩=>?_) fun _ _ z=>z.elim))
 . refine ⟨F0.same _,see ρ,HeOf (List.replicate ρ.length true) ρ σ H0 H,R.heH _,by rw [<-z41];exact R.re _,(Rk.noE h).mono fun b h H' s'=>⟨s',h⟩⟩
 . have I1:Inv X pins σ H1 s1:=⟨I.ok,I1.os,I1.bare,I1.base,I1.loc,I1.cell,I1.free,I1.freeC,I1.pin,I1.hok,I1.len⟩
   have q2:=q1.ex (EX':=⟨H1,P⟩) fun x z H' s'=>z H' (sm.trans s')
   cases b with
   | true=>exact mk h1 H1 sm s1 I1 (R.grow sm) q2
   | false=>exact mk h2 H1 sm s1 I1 (R.grow sm) q2
theorem zpv {x:Str} {p cpos pos:Pos} {e:Expr} {es:List Expr} {ps:List Str} {kl j kk':Nat} {gg:DS->SR} (hk:∀c,k c=true->∃C,X.mg (Str.ofString c)=some (.ref C)) (G:z68 X.prog X.w X.K X.mg X.base x ps kl (spT T (spD X.K X.mg frc (mOf frc n kk' gg) n))) (hr:Room j X.A) (hg:Gl X x) (ha:QA X.nox F0 (e::es) fs) (hkj:kl<=j:=by omega) (hdb:(x==("__debug__":Str))=false:=by decide)
  (he:starEach (e::es) X.env=(false,eval e X.env)::starEach es X.env:=by rfl) (hpl:(backTo cpos (starEach es X.env)).any (·.1)=false:=by rfl) (hs:swapsWith (.Call (.Name x p) (e::es) [] cpos) none pos.line X.env=pure false:=by rfl) :
  QYT X T fr [.Expr (.Call (.Name x p) (e::es) [] cpos) pos] (z22 (zbh k (mOf frc n kk' gg) fs)):=by
 refine ⟨fun pins s σ H De Hc Hb H0 ρ P hT I R h=>?_⟩
 unfold z22 at h
 rw [SK.toS,<-z41] at h
 have tc:=zdm (frc:=frc) (mg:=X.mg) (n:=n) (Q:=fun _ H'=>De.nx σ H') z6w hk R h fun d z v H' o=>z σ H' H0 (R.grow o.1)
 obtain ⟨sx,ρ',H0',s0,re,tc⟩:=tc
 have tc':TAd X.K F0 fs σ H fun vs H1=>Same H H1/\spT T (spD X.K X.mg frc (mOf frc n kk' gg) n) vs H1 (fun _ H'=>De.nx σ H') (eOf X.K ⟨H,P⟩ X.mg):=
  ⟨sx,ρ',H0',s0,re,tc.mono fun ds h vs H1 H1' s1 e1 r1=>⟨(h vs H1 H1' s1 e1 r1).1,hT.mono (h vs H1 H1' s1 e1 r1).1,(h vs H1 H1' s1 e1 r1).2⟩⟩
 refine zh0 (wpAny_Expr_any (wpAny_mono (zdl G hr hg ha.h I tc' hkj hdb he hpl) (fun v s1 ⟨y,H1,I1,r1,q1⟩=>⟨σ,H1,I1,q1⟩) fun ev s' z=>zdn z) I.quiet hs)
end
theorem y1w {P:Program} {w:World} {K:Frag} {mg:Str->Option Value} {base h:Heap} {x:Str} {st:Stmt} {f:Addr} {ps:List Str} {sp:Sp} (X:K.In h) (G:h.Ns mainGlobals mg) (A:FnAt K x st f) (ok:∀{fd},Fun K x x st f fd->FnQ P w K mg base f fd ps sp)
  (hb:∀(kV doc pm:Value) (an:Option Addr) (cdv ct:Value) (us:List Value),us.length=ps.length->bindArgs (PySem.W.fnOf x x (z2l st) (z0u st) (z03 st) .none kV doc pm an cdv ct) ⟨us,[]⟩=pure (ps.zip us):=by
   intro _ _ _ _ _ _ us hl
   first | (obtain ⟨_,rfl⟩:=zva hl;rfl) | (obtain ⟨_,_,rfl⟩:=zvb hl;rfl)):zvh P w K mg base x ps sp:=by
 obtain ⟨fd,F⟩:=A.fn
 exact ⟨f,fd,ok F,F.binds hb,PySem.W.mg_of X G A.ns,F.kp⟩
open PySem.W in
noncomputable def z9q (tb:String->Option Builtin) (p:Program) (w:World) (m:Nat) (ann:Option Value):Nat->SharedT->Thread->Option SharedT
 | 0,_,_=>none
 | n+1,s,t=>match through t with
  | true=>some s
  | false=>match stepOk m ann t with
   | false=>none
   | true=>match stepT (denote tb) p w s t with
    | some (s',t')=>z9q tb p w m ann n s' t'
    | none=>none
open PySem.W in
theorem z8a {tb:String->Option Builtin} {p:Program} {w:World} {m:Nat} {ann:Option Value}:∀(n:Nat) {s s':SharedT} {t:Thread},z9q tb p w m ann n s t=some s'->topRun tb p w m ann n s.abs t=some s'.abs
 | 0,_,_,_,h=>nomatch h
 | n+1,s,s',t,h=>by
  unfold z9q at h
  unfold topRun
  cases a:through t with
  | true=>rw [a] at h;cases h;rfl
  | false=>
   rw [a] at h
   cases b:stepOk m ann t with
   | false=>rw [b] at h;cases h
   | true=>
    rw [b] at h
    cases c:stepT (denote tb) p w s t with
    | none=>rw [c] at h;cases h
    | some z=>
     obtain ⟨s2,t2⟩:=z
     rw [c] at h
     rw [stepT_spec c]
     exact z8a n h
open PySem.W in
noncomputable def zmb:List Obj->Nat->BT->BT
 | [],_,t=>t
 | o::l,i,t=>zmb l (i+1) (t.ins i o)
open PySem.W in
noncomputable def bootS (w:World) (os:OsState):SharedT:=⟨zmb (boot_heap w.params).objs.toList 0 .nil,(boot_heap w.params).objs.size,(boot_heap w.params).life,Array.mk [],boot_drawn,boot_toks,os⟩
open PySem.W in
noncomputable def seenAt (p q:Program) (loose:List Str) (Xt:Shared->Bool) {α:Type} (Yf:Shared->α) (w:World) (t:Shared):=
 (staticsOk (importedModules p.main.body) (boot_heap w.params) t.heap&&namesBound p t.heap&&gensDone t&&laidKept (boot_heap w.params) t.heap,openSeen q loose (importedModules p.main.body) Xt true t,Yf t)
open PySem.W in
noncomputable def outAt (p q:Program) (loose:List Str) (Xt:Shared->Bool) {α:Type} (Yf:Shared->α) (N:Nat) (w:World) (os:OsState):=
 (z9q treeTable p w (boot_heap w.params).objs.size ((boot_heap w.params).nsMap mainGlobals "__annotations__") N (bootS w os) (topStub p)).map fun s=>seenAt p q loose Xt Yf w s.abs
open PySem.W in
theorem zkb:∀(w:World) (os:OsState),(bootS w os).abs=⟨boot_heap w.params,Array.mk [],boot_drawn,boot_toks,os⟩:=fun _ _=>by kernel_rfl
open PySem.W in
theorem zpw:∀w:World,(boot_heap w.params).isNs mainGlobals=true:=fun _=>by kernel_rfl
open PySem.W in
theorem zpx {p q:Program} {loose:List Str} {Xt:Shared->Bool} {α:Type} {Yf:Shared->α} {Ya:World->α} {N:Nat} (e:opening p=plainProg p.main.scope.names) (hN:Nat.ble 600 N=true)
  (f:∀s,fenceModules? p s=some s) (h:∀w os,outAt p q loose Xt Yf N w os=some (true,openGood q loose,Ya w)):LeftO p q loose Xt Yf Ya N:=fun w=>by
 obtain ⟨⟨hp,gs,d,k,os⟩,a,b⟩:=Option.map_eq_some_iff.mp (boot_open e hN f w)
 obtain ⟨rfl,rfl,rfl,rfl⟩:hp=boot_heap w.params/\gs=Array.mk []/\d=boot_drawn/\k=boot_toks:=by simpa using b
 obtain ⟨s,r,c⟩:=Option.map_eq_some_iff.mp (h w os)
 have r2:=z8a N r
 rw [zkb] at r2
 obtain ⟨l1,l2,l3⟩:_/\_/\_:=by simpa only [seenAt,Prod.mk.injEq] using c
 have t:topFrom treeTable p w N ⟨boot_heap w.params,Array.mk [],boot_drawn,boot_toks,os⟩=some s.abs:=by
  unfold topFrom
  dsimp only
  rw [zpw,r2]
  show (match staticsOk (importedModules p.main.body) (boot_heap w.params) s.abs.heap&&namesBound p s.abs.heap&&gensDone s.abs&&laidKept (boot_heap w.params) s.abs.heap with | true=>_ | false=>_)=_
  rw [l1]
 unfold openEnds
 rw [a]
 show (topFrom treeTable p w N _).map _=_
 rw [t]
 exact congrArg some (Prod.ext l2 l3)
abbrev vs (x:String) (t:Nat):Value:=.str (Str.ofString x) t
abbrev en (P:Params) (x:String) (t:Nat) (v:Value):DictEntry:=⟨PyData.keyHash P (Str.ofString x),.str (Str.ofString x) t,v⟩
abbrev oT (l:List Value):Obj:={ cls:=.type "tuple",data:=.seq l.toArray }
abbrev oD (l:List DictEntry) (n:Nat):Obj:={ cls:=.type "dict",data:=.dict l.toArray n }
abbrev oF (st:Stmt) (x q:String) (dV kV doc pm:Value) (an:Option Addr) (cd ct:Value):Obj:={ cls:=.type "function",data:=.func (PySem.W.fnOf (Str.ofString x) (Str.ofString q) (z2l st) (z0u st) (z03 st) dV kV doc pm an cd ct) }
end L2
namespace Bd
abbrev Vc:=Int×Int
def dt (u v:Vc):Int:=u.1 * v.2 - u.2 * v.1
theorem z23 (a:Vc):dt a a=0:=by simp only [dt];grind
def ad (u v:Vc):Vc:=(u.1+v.1,u.2+v.2)
def ng (u:Vc):Vc:=(-u.1,-u.2)
theorem z9r (a b c:Vc):dt (ad a b) c=dt a c+dt b c:=by simp only [dt,ad];grind
theorem z7d (a b c:Vc):dt c (ad a b)=dt c a+dt c b:=by simp only [dt,ad];grind
theorem zpy (a c:Vc):dt c (ng a)=- dt c a:=by simp only [dt,ng];grind
theorem zzg (a c:Vc):dt c a=- dt a c:=by simp only [dt];grind
structure Fr (n:Nat) (R:Nat->Int) (v:Nat->Vc):Prop where
 per:∀k,v (k+n)=ng (v k)
 ini:dt (v 0) (v 1)=1
 rc1:∀k,(v (k+2)).1=R ((k+1) % n) * (v (k+1)).1 - (v k).1
 rc2:∀k,(v (k+2)).2=R ((k+1) % n) * (v (k+1)).2 - (v k).2
 pos:∀i j,i<j->j<i+n->0<dt (v i) (v j)
variable {n:Nat} {R:Nat->Int} {v:Nat->Vc}
theorem Fr.rc (F:Fr n R v) (u:Vc) (k:Nat) :
  dt u (v (k+2))=R ((k+1) % n) * dt u (v (k+1)) - dt u (v k):=by
 simp only [dt,F.rc1 k,F.rc2 k];grind
theorem Fr.one (F:Fr n R v):∀k,dt (v k) (v (k+1))=1
 | 0=>F.ini
 | k+1=>by
  have h:=F.rc (v (k+1)) k
  rw [h,z23,zzg (v k),F.one k];grind
theorem Fr.turn (F:Fr n R v) (i j:Nat):dt (v i) (v (j+n))=- dt (v i) (v j):=by
 rw [F.per,zpy]
theorem Fr.nn (F:Fr n R v) (i j:Nat) (h:i<=j) (h2:j<=i+n):0<=dt (v i) (v j):=by
 by_cases e:i=j
 . subst e;rw [z23];omega
 by_cases e2:j=i+n
 . subst e2;rw [F.turn,z23];omega
 have:=F.pos i j (by omega) (by omega);omega
def gR (n c:Nat) (R:Nat->Int) (k:Nat):Int:=
 if k=c+1 then 1 else
 let o:=if k<=c then k else k - 1
 R o+(if o=c then 1 else 0)+(if o=(c+1) % n then 1 else 0)
def gq (n c:Nat) (v:Nat->Vc) (q r:Nat):Vc:=
 if r<=c then v (q * n+r) else if r=c+1 then ad (v (q * n+c)) (v (q * n+c+1)) else v (q * n+(r - 1))
def gV (n c:Nat) (v:Nat->Vc) (k:Nat):Vc:=gq n c v (k / (n+1)) (k % (n+1))
theorem z2w (n c:Nat) (v:Nat->Vc) (q r:Nat) (h:r<=n):gV n c v (q * (n+1)+r)=gq n c v q r:=by
 unfold gV
 rw [show (q * (n+1)+r) / (n+1)=q by
   rw [Nat.mul_comm,Nat.mul_add_div (by omega),Nat.div_eq_of_lt (by omega)];omega,
  show (q * (n+1)+r) % (n+1)=r by
   rw [Nat.mul_comm,Nat.mul_add_mod];exact Nat.mod_eq_of_lt (by omega)]
theorem zev (n k:Nat):∃q r,k=q * (n+1)+r/\r<=n:=
 ⟨k / (n+1),k % (n+1),by rw [Nat.mul_comm];exact (Nat.div_add_mod k (n+1)).symm,by have:=Nat.mod_lt k (show n+1 > 0 by omega);omega⟩
theorem sm (q n:Nat):(q+1) * n=q * n+n:=Nat.succ_mul q n
theorem mdn (q n s:Nat) (h:s<n):(q * n+s) % n=s:=by
 rw [Nat.mul_comm,Nat.mul_add_mod];exact Nat.mod_eq_of_lt h
theorem zvk (F:Fr n R v) (c:Nat) (k:Nat):gV n c v (k+(n+1))=ng (gV n c v k):=by
 obtain ⟨q,r,rfl,h⟩:=zev n k
 rw [show q * (n+1)+r+(n+1)=(q+1) * (n+1)+r by rw [sm q (n+1)];omega,z2w _ _ _ _ _ h,z2w _ _ _ _ _ h]
 unfold gq
 split
 . rw [show (q+1)*n+r=q * n+r+n by rw [sm];omega,F.per]
 split
 . rw [show (q+1)*n+c=q * n+c+n by rw [sm];omega,show q * n+c+n+1=q * n+c+1+n by omega,F.per,F.per]
   simp only [ng,ad];ext<;>simp<;>omega
 . rw [show (q+1)*n+(r-1)=q * n+(r-1)+n by rw [sm];omega,F.per]
def lin (x:Int) (b a:Vc):Vc:=(x * b.1 - a.1,x * b.2 - a.2)
theorem Fr.rv (F:Fr n R v) (k:Nat):v (k+2)=lin (R ((k+1) % n)) (v (k+1)) (v k):=by
 have h1:=F.rc1 k;have h2:=F.rc2 k
 exact Prod.ext h1 h2
theorem Fr.rvq (F:Fr n R v) (q s:Nat) (h:s+1<n):v (q * n+s+2)=lin (R (s+1)) (v (q * n+s+1)) (v (q * n+s)):=by
 rw [F.rv,show q * n+s+1=q * n+(s+1) by omega,mdn q n (s+1) h]
theorem Fr.rv0 (F:Fr n R v) (q:Nat) (h:1<=n):v (q * n+n+1)=lin (R 0) (v (q * n+n)) (v (q * n+(n - 1))):=by
 have:=F.rv (q * n+(n - 1))
 rw [show q * n+(n-1)+2=q * n+n+1 by omega,show q * n+(n-1)+1=(q+1) * n+0 by rw [sm];omega,mdn (q+1) n 0 (by omega)] at this
 rw [this];congr 2;rw [sm];rfl
theorem z4u (n c:Nat) (v:Nat->Vc) (q r:Nat) (h:r<=c):gq n c v q r=v (q * n+r):=by
 unfold gq;rw [if_pos h]
theorem z3u (n c:Nat) (v:Nat->Vc) (q:Nat):gq n c v q (c+1)=ad (v (q * n+c)) (v (q * n+c+1)):=by
 unfold gq;rw [if_neg (by omega),if_pos rfl]
theorem z6a (n c:Nat) (v:Nat->Vc) (q r:Nat) (h:c+1<=r):gq n c v q (r+1)=v (q * n+r):=by
 unfold gq;rw [if_neg (by omega),if_neg (by omega)];rfl
theorem zvl (x:Int) (a b:Vc):ad b (lin x b a)=lin (x+1) b a:=by
 simp only [ad,lin,Prod.mk.injEq];constructor<;>grind
theorem zvm (a b:Vc):b=lin 1 (ad a b) a:=by
 apply Prod.ext<;>simp only [ad,lin]<;>grind
theorem zpz (x:Int) (a b:Vc):lin x b a=lin (x+1) b (ad a b):=by
 simp only [ad,lin,Prod.mk.injEq];constructor<;>grind
theorem zmc (F:Fr n R v) (c:Nat) (hc:c<n) (hn:3<=n) (k:Nat) :
  gV n c v (k+2)=lin (gR n c R ((k+1) % (n+1))) (gV n c v (k+1)) (gV n c v k):=by
 obtain ⟨q,r,rfl,h⟩:=zev n k
 by_cases h2:r+2<=n
 . rw [show q * (n+1)+r+2=q * (n+1)+(r+2) by omega,show q * (n+1)+r+1=q * (n+1)+(r+1) by omega,
    mdn q (n+1) (r+1) (by omega),z2w _ _ _ _ _ h2,z2w _ _ _ _ _ (by omega),z2w _ _ _ _ _ h]
   by_cases e1:r+2<=c
   . rw [z4u _ _ _ _ _ e1,z4u _ _ _ _ _ (by omega),z4u _ _ _ _ _ (by omega),show gR n c R (r+1)=R (r+1) by
      have:¬(r+1=(c+1) % n):=by
       by_cases z:c+1=n
       . rw [z,Nat.mod_self];omega
       . rw [Nat.mod_eq_of_lt (by omega)];omega
      simp only [gR,if_neg (show ¬(r+1=c+1) by omega),if_pos (show r+1<=c by omega),if_neg (show ¬(r+1=c) by omega),if_neg this];omega]
     exact F.rvq q r (by omega)
   by_cases e2:r+1=c
   . subst e2
     rw [z4u _ _ _ _ r (by omega),z4u _ _ _ _ (r+1) (by omega),show r+2=(r+1)+1 by rfl,z3u,
      show gR n (r+1) R (r+1)=R (r+1)+1 by
      have:¬(r+1=(r+1+1) % n):=by
       by_cases z:r+1+1=n
       . rw [z,Nat.mod_self];omega
       . rw [Nat.mod_eq_of_lt (by omega)];omega
      simp only [gR,if_neg (show ¬(r+1=r+1+1) by omega),if_pos (Nat.le_refl (r+1)),if_neg this,if_true];omega]
     have:=F.rvq q r (by omega)
     rw [show q * n+(r+1)+1=q * n+r+2 by omega,this,<-zvl];rfl
   by_cases e3:r=c
   . subst e3
     rw [z4u _ _ _ _ r (by omega),z3u,z6a _ _ _ _ (r+1) (by omega),show gR n r R (r+1)=1 by simp only [gR,if_true]]
     exact zvm _ _
   by_cases e4:r=c+1
   . subst e4
     rw [z3u,z6a _ _ _ _ _ (by omega),z6a _ _ _ _ _ (by omega),show gR n c R (c+1+1)=R (c+1)+1 by
      have:(c+1) % n=c+1:=Nat.mod_eq_of_lt (by omega)
      simp only [gR,if_neg (show ¬(c+1+1=c+1) by omega),if_neg (show ¬(c+1+1<=c) by omega),this]
      rw [show c+1+1 - 1=c+1 by omega,if_neg (by omega),if_pos rfl];omega]
     have:=F.rvq q c (by omega)
     rw [show q * n+(c+1+1)=q * n+c+2 by omega,this,zpz];rfl
   . obtain ⟨s,rfl⟩:∃s,r=s+1:=⟨r - 1,by omega⟩
     rw [z6a _ _ _ _ s (by omega),show s+1+2=(s+2)+1 by rfl,z6a _ _ _ _ (s+2) (by omega),z6a _ _ _ _ (s+1) (by omega),show gR n c R (s+1+1)=R (s+1) by
      have:¬(s+1=(c+1) % n):=by
       rw [Nat.mod_eq_of_lt (by omega)];omega
      simp only [gR,if_neg (show ¬(s+1+1=c+1) by omega),if_neg (show ¬(s+1+1<=c) by omega),show s+1+1 - 1=s+1 by omega,if_neg (show ¬(s+1=c) by omega),if_neg this];omega]
     exact F.rvq q s (by omega)
 by_cases h3:r+1=n
 . subst h3
   rw [show q * (r+1+1)+r+2=(q+1) * (r+1+1)+0 by rw [sm q];omega,show q * (r+1+1)+r+1=q * (r+1+1)+(r+1) by omega,
    mdn q (r+1+1) (r+1) (by omega),z2w _ _ _ _ _ (by omega),z2w _ _ _ _ _ (by omega),z2w _ _ _ _ _ h,z4u _ _ _ _ 0 (by omega)]
   rw [show (q+1) * (r+1)+0=q * (r+1)+r+1 by rw [sm q];omega]
   by_cases e:r=c
   . subst e
     rw [z4u _ _ _ _ r (by omega),z3u,show gR (r+1) r R (r+1)=1 by simp only [gR,if_true]]
     exact zvm _ _
   by_cases e4:r=c+1
   . subst e4
     rw [z3u,z6a _ _ _ _ _ (by omega),show gR (c+1+1) c R (c+1+1)=R (c+1)+1 by
      have:(c+1) % (c+1+1)=c+1:=Nat.mod_eq_of_lt (by omega)
      simp only [gR,if_neg (show ¬(c+1+1=c+1) by omega),if_neg (show ¬(c+1+1<=c) by omega),this]
      rw [show c+1+1 - 1=c+1 by omega,if_neg (by omega),if_pos rfl];omega]
     have:=F.rvq q c (by omega)
     rw [show q * (c+1+1)+(c+1)+1=q * (c+1+1)+c+2 by omega,this,zpz];rfl
   . obtain ⟨s,rfl⟩:∃s,r=s+1:=⟨r - 1,by omega⟩
     rw [z6a _ _ _ _ _ (by omega),z6a _ _ _ _ _ (by omega),show gR (s+1+1) c R (s+1+1)=R (s+1) by
      have:¬(s+1=(c+1) % (s+1+1)):=by
       rw [Nat.mod_eq_of_lt (by omega)];omega
      simp only [gR,if_neg (show ¬(s+1+1=c+1) by omega),if_neg (show ¬(s+1+1<=c) by omega),show s+1+1 - 1=s+1 by omega,if_neg (show ¬(s+1=c) by omega),if_neg this];omega]
     exact F.rvq q s (by omega)
 . obtain rfl:r=n:=by omega
   rw [show q * (r+1)+r+2=(q+1) * (r+1)+1 by rw [sm q];omega,show q * (r+1)+r+1=(q+1) * (r+1)+0 by rw [sm q];omega,
    mdn (q+1) (r+1) 0 (by omega),z2w _ _ _ _ _ (by omega),z2w _ _ _ _ _ (by omega),z2w _ _ _ _ _ h,z4u _ _ _ _ 0 (by omega)]
   rw [show (q+1) * r+0=q * r+r by rw [sm q];omega]
   have key:=F.rv0 q (by omega)
   by_cases e0:c=0
   . subst e0
     obtain ⟨s,rfl⟩:∃s,r=s+1:=⟨r - 1,by omega⟩
     rw [show gq (s+1) 0 v (q+1) 1=ad (v ((q+1) * (s+1)+0)) (v ((q+1) * (s+1)+0+1)) from z3u _ _ _ _,z6a _ _ _ _ _ (by omega),show gR (s+1) 0 R 0=R 0+1 by
      have:¬(0=(0+1) % (s+1)):=by rw [Nat.mod_eq_of_lt (by omega)];omega
      simp only [gR,if_neg (show ¬(0=0+1) by omega),if_pos (Nat.le_refl 0),if_true,if_neg this];omega]
     rw [show (q+1) * (s+1)+0=q * (s+1)+(s+1) by rw [sm q];omega,key,zvl];rfl
   rw [z4u _ _ _ _ 1 (by omega)]
   by_cases e1:c+1=r
   . subst e1
     rw [z3u,show gR (c+1) c R 0=R 0+1 by
      simp only [gR,if_neg (show ¬(0=c+1) by omega),if_pos (Nat.zero_le c),if_neg (show ¬(0=c) by omega),Nat.mod_self,if_true];omega]
     rw [show (q+1) * (c+1)+1=q * (c+1)+(c+1)+1 by rw [sm q],key,zpz];rfl
   . obtain ⟨s,rfl⟩:∃s,r=s+1:=⟨r - 1,by omega⟩
     rw [z6a _ _ _ _ _ (by omega),show gR (s+1) c R 0=R 0 by
      have:¬(0=(c+1) % (s+1)):=by rw [Nat.mod_eq_of_lt (by omega)];omega
      simp only [gR,if_neg (show ¬(0=c+1) by omega),if_pos (Nat.zero_le c),if_neg (show ¬(0=c) by omega),if_neg this];omega]
     rw [show (q+1) * (s+1)+1=q * (s+1)+(s+1)+1 by rw [sm q],key];rfl
theorem z1z (n c:Nat) (hc:c<n) (v:Nat->Vc) (q r:Nat) (h:r<=n) :
  (r≠c+1/\gq n c v q r=v (q * n+(if r<=c then r else r - 1))) \/
  (r=c+1/\gq n c v q r=ad (v (q * n+c)) (v (q * n+c+1))):=by
 by_cases e:r=c+1
 . right;subst e;exact ⟨rfl,z3u _ _ _ _⟩
 . left;refine ⟨e,?_⟩
   by_cases e2:r<=c
   . rw [if_pos e2,z4u _ _ _ _ _ e2]
   . rw [if_neg e2];unfold gq;rw [if_neg e2,if_neg e]
theorem Fr.new_l (F:Fr n R v) (hn:3<=n) (p p':Nat) (h1:p+1<=p') (h2:p'<=p+n) :
  0<dt (ad (v p) (v (p+1))) (v p')/\(p+1<p'->p'<p+n->1<dt (ad (v p) (v (p+1))) (v p')):=by
 rw [z9r]
 have a:=F.nn p p' (by omega) h2
 have b:=F.nn (p+1) p' h1 (by omega)
 have a':=fun z=>F.pos p p' (by omega) z
 have b':=fun z=>F.pos (p+1) p' z (by omega)
 constructor
 . by_cases z:p'<p+n
   . have:=a' z;omega
   . have:=b' (by omega);omega
 . intro z z';have:=a' z';have:=b' z;omega
theorem Fr.new_r (F:Fr n R v) (hn:3<=n) (i p:Nat) (h1:i<=p) (h2:p+1<=i+n) :
  0<dt (v i) (ad (v p) (v (p+1)))/\(i<p->p+1<i+n->1<dt (v i) (ad (v p) (v (p+1)))):=by
 rw [z7d]
 have a:=F.nn i p h1 (by omega)
 have b:=F.nn i (p+1) (by omega) h2
 have a':=fun z=>F.pos i p z (by omega)
 have b':=fun z=>F.pos i (p+1) (by omega) z
 constructor
 . by_cases z:i<p
   . have:=a' z;omega
   . have:=b' (by omega);omega
 . intro z z';have:=a' z;have:=b' z';omega
theorem zvn (F:Fr n R v) (c:Nat) (hc:c<n) (hn:3<=n) (i j:Nat) (h:i<j) (h2:j<i+(n+1)) :
  0<dt (gV n c v i) (gV n c v j):=by
 obtain ⟨q,r,rfl,hr⟩:=zev n i
 obtain ⟨q',s,rfl,hs⟩:=zev n j
 have hq:q'=q\/q'=q+1:=by
  by_cases a:q'<q
  . have:(q'+1) * (n+1)<=q * (n+1):=Nat.mul_le_mul_right _ a
    rw [sm] at this;omega
  by_cases b:q+1<q'
  . have:(q+1+1) * (n+1)<=q' * (n+1):=Nat.mul_le_mul_right _ b
    rw [sm,sm] at this;omega
  omega
 rw [z2w _ _ _ _ _ hr,z2w _ _ _ _ _ hs]
 rcases hq with rfl | rfl
 . rcases z1z n c hc v q' r hr with ⟨e,g⟩ | ⟨e,g⟩<;>rcases z1z n c hc v q' s hs with ⟨e',g'⟩ | ⟨e',g'⟩<;>rw [g,g']
   . exact F.pos _ _ (by split<;>split<;>omega) (by split<;>split<;>omega)
   . exact (F.new_r hn _ _ (by split<;>omega) (by split<;>omega)).1
   . exact (F.new_l hn _ _ (by split<;>omega) (by split<;>omega)).1
   . omega
 . rw [sm q (n+1)] at h h2
   rcases z1z n c hc v q r hr with ⟨e,g⟩ | ⟨e,g⟩<;>rcases z1z n c hc v (q+1) s hs with ⟨e',g'⟩ | ⟨e',g'⟩<;>rw [g,g',sm q n]
   . exact F.pos _ _ (by split<;>split<;>omega) (by split<;>split<;>omega)
   . exact (F.new_r hn _ _ (by split<;>omega) (by split<;>omega)).1
   . exact (F.new_l hn _ _ (by split<;>omega) (by split<;>omega)).1
   . omega
theorem Fr.grow (F:Fr n R v) (c:Nat) (hc:c<n) (hn:3<=n):Fr (n+1) (gR n c R) (gV n c v) where
 per:=zvk F c
 ini:=by
  have a0:gV n c v 0=v 0:=by
   have:=z2w n c v 0 0 (by omega);simp only [Nat.zero_mul,Nat.zero_add] at this
   rw [this,z4u _ _ _ _ _ (by omega)];simp
  have a1:=z2w n c v 0 1 (by omega);simp only [Nat.zero_mul,Nat.zero_add] at a1
  rw [a0,a1]
  by_cases e:c=0
  . subst e
    have:gq n 0 v 0 1=ad (v 0) (v 1):=by have:=z3u n 0 v 0;simpa using this
    rw [this,z7d,z23,F.ini];rfl
  . rw [z4u _ _ _ _ _ (by omega)];simp [F.ini]
 rc1:=fun k=>by rw [zmc F c hc hn k];rfl
 rc2:=fun k=>by rw [zmc F c hc hn k];rfl
 pos:=zvn F c hc hn
def v3 (k:Nat):Vc:=if k % 6=0 then (1,0) else if k % 6=1 then (0,1) else if k % 6=2 then (-1,1)
 else if k % 6=3 then (-1,0) else if k % 6=4 then (0,-1) else (1,-1)
theorem y0t (k:Nat):k % 6=0\/k % 6=1\/k % 6=2\/k % 6=3\/k % 6=4\/k % 6=5:=by
 have h:k % 6<6:=Nat.mod_lt _ (by decide)
 revert h
 generalize k % 6=m
 intro h
 rcases m with _ | _ | _ | _ | _ | _ | m
 . exact .inl rfl
 . exact .inr (.inl rfl)
 . exact .inr (.inr (.inl rfl))
 . exact .inr (.inr (.inr (.inl rfl)))
 . exact .inr (.inr (.inr (.inr (.inl rfl))))
 . exact .inr (.inr (.inr (.inr (.inr rfl))))
 . exact absurd h (Nat.not_lt_of_le (Nat.le_add_left 6 m))
theorem fr3:Fr 3 (fun _=>1) v3:=by
 have key:∀k,v3 k=v3 (k % 6):=fun k=>by simp only [v3,Nat.mod_mod]
 have ks:∀k a,v3 (k+a)=v3 ((k % 6+a) % 6):=fun k a=>by rw [key (k+a)];congr 1;omega
 have six:=y0t
 refine ⟨fun k=>?_,rfl,fun k=>?_,fun k=>?_,fun i j h h2=>?_⟩
 . rw [ks k 3,key k];rcases six k with e | e | e | e | e | e<;>rw [e]<;>rfl
 . rw [ks k 2,ks k 1,key k];rcases six k with e | e | e | e | e | e<;>rw [e]<;>rfl
 . rw [ks k 2,ks k 1,key k];rcases six k with e | e | e | e | e | e<;>rw [e]<;>rfl
 . obtain rfl | rfl:j=i+1\/j=i+2:=by omega
   . rw [ks i 1,key i];rcases six i with e | e | e | e | e | e<;>rw [e]<;>decide
   . rw [ks i 2,key i];rcases six i with e | e | e | e | e | e<;>rw [e]<;>decide
theorem Fr.congr {n:Nat} {R R':Nat->Int} {v:Nat->Vc} (F:Fr n R v) (hn:1<=n) (h:∀k,k<n->R' k=R k):Fr n R' v where
 per:=F.per
 ini:=F.ini
 rc1:=fun k=>by rw [h _ (Nat.mod_lt _ (by omega))];exact F.rc1 k
 rc2:=fun k=>by rw [h _ (Nat.mod_lt _ (by omega))];exact F.rc2 k
 pos:=F.pos
theorem zzh {n:Nat} {R:Nat->Int} {v:Nat->Vc} {B:Int} (F:Fr n R v) (c:Nat) (hc:c<n) (hn:3<=n) (hB:∀i j,i<=j->j<=i+n->dt (v i) (v j)<=B) (i j:Nat) (h:i<j) (h2:j<i+(n+1)) :
  dt (gV n c v i) (gV n c v j)<=2 * B:=by
 obtain ⟨q,r,rfl,hr⟩:=zev n i
 obtain ⟨q',s,rfl,hs⟩:=zev n j
 have B0:0<=B:=by have:=hB 0 0 (by omega) (by omega);rw [z23] at this;exact this
 have hq:q'=q\/q'=q+1:=by
  by_cases a:q'<q
  . have:(q'+1) * (n+1)<=q * (n+1):=Nat.mul_le_mul_right _ a
    rw [sm] at this;omega
  by_cases b:q+1<q'
  . have:(q+1+1) * (n+1)<=q' * (n+1):=Nat.mul_le_mul_right _ b
    rw [sm,sm] at this;omega
  omega
 rw [z2w _ _ _ _ _ hr,z2w _ _ _ _ _ hs]
 rcases hq with rfl | rfl
 . rcases z1z n c hc v q' r hr with ⟨e,g⟩ | ⟨e,g⟩<;>rcases z1z n c hc v q' s hs with ⟨e',g'⟩ | ⟨e',g'⟩<;>rw [g,g']
   . have:=hB (q' * n+(if r<=c then r else r - 1)) (q' * n+(if s<=c then s else s - 1)) (by split<;>split<;>omega) (by split<;>split<;>omega);omega
   . rw [z7d]
     have a:=hB (q' * n+(if r<=c then r else r - 1)) (q' * n+c) (by split<;>omega) (by split<;>omega)
     have b:=hB (q' * n+(if r<=c then r else r - 1)) (q' * n+c+1) (by split<;>omega) (by split<;>omega);omega
   . rw [z9r]
     have a:=hB (q' * n+c) (q' * n+(if s<=c then s else s - 1)) (by split<;>omega) (by split<;>omega)
     have b:=hB (q' * n+c+1) (q' * n+(if s<=c then s else s - 1)) (by split<;>omega) (by split<;>omega);omega
   . omega
 . rw [sm q (n+1)] at h h2
   rcases z1z n c hc v q r hr with ⟨e,g⟩ | ⟨e,g⟩<;>rcases z1z n c hc v (q+1) s hs with ⟨e',g'⟩ | ⟨e',g'⟩<;>rw [g,g',sm q n]
   . have:=hB (q * n+(if r<=c then r else r - 1)) (q * n+n+(if s<=c then s else s - 1)) (by split<;>split<;>omega) (by split<;>split<;>omega);omega
   . rw [z7d]
     have a:=hB (q * n+(if r<=c then r else r - 1)) (q * n+n+c) (by split<;>omega) (by split<;>omega)
     have b:=hB (q * n+(if r<=c then r else r - 1)) (q * n+n+c+1) (by split<;>omega) (by split<;>omega);omega
   . rw [z9r]
     have a:=hB (q * n+c) (q * n+n+(if s<=c then s else s - 1)) (by split<;>omega) (by split<;>omega)
     have b:=hB (q * n+c+1) (q * n+n+(if s<=c then s else s - 1)) (by split<;>omega) (by split<;>omega);omega
   . omega
def z7v (row:List Int) (c:Nat):List Int:=
 let m1:=row.set c (row.getD c 0+1)
 let m2:=m1.set ((c+1) % row.length) (m1.getD ((c+1) % row.length) 0+1)
 m2.take (c+1)++1::m2.drop (c+1)
theorem z33 (row:List Int) (c:Nat) (hc:c<row.length):(z7v row c).length=row.length+1:=by
 simp only [z7v,List.length_append,List.length_take,List.length_set,List.length_cons,List.length_drop];omega
theorem z34 (l:List Int) (i j:Nat) (x:Int) (hi:i<l.length):(l.set i x).getD j 0=if j=i then x else l.getD j 0:=by
 rw [List.getD_eq_getElem?_getD,List.getElem?_set,List.getD_eq_getElem?_getD]
 by_cases e:i=j
 . subst e;simp [hi]
 . rw [if_neg e,if_neg (Ne.symm e)]
theorem z6h (row:List Int) (c k:Nat) (hc:c<row.length) (hn:2<=row.length) (hk:k<row.length+1) :
  (z7v row c).getD k 0=gR row.length c (fun k=>row.getD k 0) k:=by
 have hm:(c+1) % row.length<row.length:=Nat.mod_lt _ (by omega)
 have hne:(c+1) % row.length≠c:=by
  by_cases z:c+1=row.length
  . rw [z,Nat.mod_self];omega
  . rw [Nat.mod_eq_of_lt (by omega)];omega
 have e2:∀j,((row.set c (row.getD c 0+1)).set ((c+1) % row.length) ((row.set c (row.getD c 0+1)).getD ((c+1) % row.length) 0+1)).getD j 0
   = row.getD j 0+(if j=c then 1 else 0)+(if j=(c+1) % row.length then 1 else 0):=fun j=>by
  rw [z34 _ _ _ _ (by rw [List.length_set];exact hm),z34 _ _ _ _ hc,z34 _ _ _ _ hc,if_neg hne]
  by_cases a:j=(c+1) % row.length
  . rw [if_pos a,if_pos a,if_neg (by omega),a];omega
  . rw [if_neg a,if_neg a]
    by_cases b:j=c
    . rw [if_pos b,if_pos b,b];omega
    . rw [if_neg b,if_neg b];omega
 simp only [z7v]
 generalize hm2:(row.set c (row.getD c 0+1)).set ((c+1) % row.length) ((row.set c (row.getD c 0+1)).getD ((c+1) % row.length) 0+1)=m2 at e2 ⊢
 have hl:m2.length=row.length:=by rw [<-hm2,List.length_set,List.length_set]
 have ht:(m2.take (c+1)).length=c+1:=by rw [List.length_take,hl];omega
 unfold gR
 by_cases a:k=c+1
 . rw [if_pos a,List.getD_eq_getElem?_getD,List.getElem?_append_right (by omega),ht,a];simp
 . rw [if_neg a]
   by_cases b:k<=c
   . rw [if_pos b]
     show _=row.getD k 0+(if k=c then 1 else 0)+(if k=(c+1) % row.length then 1 else 0)
     rw [<-e2,List.getD_eq_getElem?_getD,List.getElem?_append_left (by omega),List.getElem?_take,if_pos (by omega),List.getD_eq_getElem?_getD]
   . rw [if_neg b]
     show _=row.getD (k-1) 0+(if k-1=c then 1 else 0)+(if k-1=(c+1) % row.length then 1 else 0)
     obtain ⟨t,rfl⟩:∃t,k=c+1+(t+1):=⟨k - (c+2),by omega⟩
     rw [<-e2,List.getD_eq_getElem?_getD,List.getElem?_append_right (by omega),ht,List.getD_eq_getElem?_getD,
      show c+1+(t+1) - (c+1)=t+1 by omega,List.getElem?_cons_succ,List.getElem?_drop,show c+1+(t+1) - 1=c+1+t by omega]
structure Good (row:List Int) (v:Nat->Vc):Prop where
 len:3<=row.length
 fr:Fr row.length (fun k=>row.getD k 0) v
 bd:∀i j,i<=j->j<=i+row.length->dt (v i) (v j)<=2 ^ (row.length - 3)
 rb:∀k,0<=row.getD k 0/\row.getD k 0<=row.length
theorem zzi:Good [1,1,1] v3:=by
 refine ⟨by decide,fr3.congr (by decide) fun k hk=>?_,fun i j h h2=>?_,fun k=>?_⟩
 . have:k=0\/k=1\/k=2:=by have hk':k<3:=hk;omega
   rcases this with rfl | rfl | rfl<;>rfl
 . have key:∀k,v3 k=v3 (k % 6):=fun k=>by simp only [v3,Nat.mod_mod]
   have ks:∀k a,v3 (k+a)=v3 ((k % 6+a) % 6):=fun k a=>by rw [key (k+a)];congr 1;omega
   have six:=y0t
   simp only [List.length_cons,List.length_nil] at h2
   have hj:j=i+0\/j=i+1\/j=i+2\/j=i+3:=by omega
   rcases hj with z | z | z | z<;>rw [z,ks i,key i]<;>rcases six i with e | e | e | e | e | e<;>rw [e]<;>decide
 . match k with
   | 0=>decide
   | 1=>decide
   | 2=>decide
   | k+3=>simp
theorem Good.grow {row:List Int} {v:Nat->Vc} (G:Good row v) (c:Nat) (hc:c<row.length):Good (z7v row c) (gV row.length c v):=by
 have hl:=z33 row c hc
 have h3:=G.len
 have F:=G.fr.grow c hc h3
 refine ⟨by omega,?_,?_,fun k=>?_⟩
 . rw [hl]
   exact F.congr (by omega) fun k hk=>z6h row c k hc (by omega) hk
 . rw [hl]
   intro i j h h2
   have e:(2:Int) ^ (row.length+1 - 3)=2 * 2 ^ (row.length - 3):=by
    rw [show row.length+1 - 3=(row.length - 3)+1 by omega,Int.pow_succ];omega
   have p:(0:Int)<2 ^ (row.length - 3):=Int.pow_pos (by decide)
   rw [e]
   by_cases z:i=j
   . subst z;rw [z23];omega
   by_cases z2:j=i+(row.length+1)
   . subst z2;rw [F.turn,z23];omega
   exact zzh G.fr c hc h3 G.bd i j (by omega) (by omega)
 . rw [hl]
   by_cases hk:k<row.length+1
   . rw [z6h row c k hc (by omega) hk]
     unfold gR
     by_cases a:k=c+1
     . rw [if_pos a];omega
     . rw [if_neg a]
       have:=G.rb (if k<=c then k else k - 1)
       generalize (if k<=c then k else k - 1)=o at this
       have hne:o=c->¬o=(c+1) % row.length:=by
        intro z z'
        by_cases y:c+1=row.length
        . rw [y,Nat.mod_self] at z';omega
        . rw [Nat.mod_eq_of_lt (by omega)] at z';omega
       show 0<=row.getD o 0+(if o=c then 1 else 0)+(if o=(c+1) % row.length then 1 else 0)/\row.getD o 0+(if o=c then 1 else 0)+(if o=(c+1) % row.length then 1 else 0)<=_
       by_cases z:o=c
       . rw [if_pos z,if_neg (hne z)];omega
       . rw [if_neg z];split<;>omega
   . rw [List.getD_eq_getElem?_getD,List.getElem?_eq_none (by omega)]
     simp only [Option.getD_none];omega
end Bd
namespace Cu
abbrev P2:=Int×Int
abbrev P3:=Int×Int×Int
def sh (at' x:Int):Int:=if x > at' then x+1 else x
def sh2 (c:Int) (p:P2):P2:=(sh c p.1,sh c p.2)
def sh3 (c:Int) (p:P3):P3:=(sh c p.1,sh c p.2.1,sh c p.2.2)
def outer (p:P3):P2:=(p.1,p.2.2)
def z2x (n c:Int):P2:=if c=n - 1 then (0,c) else (c,c+2)
def z4v (n c:Int):P3:=if c=n - 1 then (0,c,n) else (c,c+1,c+2)
structure CInv (n:Int) (ls:List P2) (T:List P3):Prop where
 n3:3<=n
 tri:∀a c b,(a,c,b)∈T->0<=a/\a<c/\c<b/\b<=n - 1/\((a,c)∈ls\/c=a+1)/\((c,b)∈ls\/b=c+1)
 lin:∀a b,(a,b)∈ls->0<=a/\a+2<=b/\b<=n - 1/\¬(a=0/\b=n - 1)
 nc:∀a b c d,(a,b)∈ls->(c,d)∈ls->¬(a<c/\c<b/\b<d)
 nd:ls.Nodup
 prm:(T.map outer).Perm ((0,n - 1)::ls)
theorem y1x:CInv 3 [] [(0,1,2)] where
 n3:=by omega
 tri:=fun a c b h=>by simp only [List.mem_cons,Prod.mk.injEq,List.not_mem_nil,or_false] at h;omega
 lin:=fun a b h=>by simp at h
 nc:=fun a b c d h=>by simp at h
 nd:=List.nodup_nil
 prm:=.refl _
theorem z44 {c:Int} {ls:List P2} {x y:Int} (h:(x,y)∈ls.map (sh2 c)):∃a b,(a,b)∈ls/\x=sh c a/\y=sh c b:=by
 obtain ⟨⟨a,b⟩,hm,e⟩:=List.mem_map.mp h
 simp only [sh2,Prod.mk.injEq] at e
 exact ⟨a,b,hm,e.1.symm,e.2.symm⟩
theorem zhx {c:Int} {ls:List P2} {a b:Int} (h:(a,b)∈ls):(sh c a,sh c b)∈ls.map (sh2 c):=List.mem_map.mpr ⟨(a,b),h,rfl⟩
theorem zhy {c x y:Int} (h:sh c x=sh c y):x=y:=by
 unfold sh at h;split at h<;>split at h<;>omega
theorem CInv.grow {n:Int} {ls:List P2} {T:List P3} (I:CInv n ls T) (c:Int) (h0:0<=c) (h1:c<n):CInv (n+1) (ls.map (sh2 c)++[z2x n c]) (T.map (sh3 c)++[z4v n c]) where
 n3:=by have:=I.n3;omega
 tri:=fun x y z h=>by
  have h3:=I.n3
  rcases List.mem_append.mp h with h | h
  . obtain ⟨⟨a,m,b⟩,hm,e⟩:=List.mem_map.mp h
    simp only [sh3,Prod.mk.injEq] at e
    obtain ⟨rfl,rfl,rfl⟩:=e
    obtain ⟨g1,g2,g3,g4,g5,g6⟩:=I.tri a m b hm
    have k1:0<=sh c a:=by unfold sh;split<;>omega
    have k2:sh c a<sh c m:=by unfold sh;split<;>split<;>omega
    have k3:sh c m<sh c b:=by unfold sh;split<;>split<;>omega
    have k4:sh c b<=n+1 - 1:=by unfold sh;split<;>omega
    have side:∀u w,u+1=w->w<=n - 1->(sh c u,sh c w)∈ls.map (sh2 c)++[z2x n c]\/sh c w=sh c u+1:=fun u w e hw=>by
     by_cases q:u=c
     . left
       refine List.mem_append.mpr (.inr ?_)
       have e1:sh c u=c:=by unfold sh;split<;>omega
       have e2:sh c w=c+2:=by unfold sh;split<;>omega
       rw [e1,e2];unfold z2x;rw [if_neg (by omega)];simp
     . right;unfold sh;split<;>split<;>omega
    refine ⟨k1,k2,k3,k4,?_,?_⟩
    . rcases g5 with g5 | g5
      . exact .inl (List.mem_append.mpr (.inl (zhx g5)))
      . exact side a m (by omega) (by omega)
    . rcases g6 with g6 | g6
      . exact .inl (List.mem_append.mpr (.inl (zhx g6)))
      . exact side m b (by omega) (by omega)
  . simp only [List.mem_singleton] at h
    unfold z4v at h
    by_cases q:c=n - 1
    . rw [if_pos q] at h
      simp only [Prod.mk.injEq] at h
      obtain ⟨rfl,rfl,rfl⟩:=h
      refine ⟨by omega,by omega,by omega,by omega,.inl (List.mem_append.mpr (.inr ?_)),.inr (by omega)⟩
      unfold z2x;rw [if_pos q];simp
    . rw [if_neg q] at h
      simp only [Prod.mk.injEq] at h
      obtain ⟨rfl,rfl,rfl⟩:=h
      exact ⟨by omega,by omega,by omega,by omega,.inr rfl,.inr (by omega)⟩
 lin:=fun x y h=>by
  have h3:=I.n3
  rcases List.mem_append.mp h with h | h
  . obtain ⟨a,b,hm,rfl,rfl⟩:=z44 h
    obtain ⟨g1,g2,g3,g4⟩:=I.lin a b hm
    unfold sh;split<;>split<;>omega
  . simp only [List.mem_singleton] at h
    unfold z2x at h
    by_cases q:c=n - 1
    . rw [if_pos q] at h;simp only [Prod.mk.injEq] at h;omega
    . rw [if_neg q] at h;simp only [Prod.mk.injEq] at h;omega
 nc:=fun x y z w h h'=>by
  have h3:=I.n3
  rcases List.mem_append.mp h with h | h<;>rcases List.mem_append.mp h' with h' | h'
  . obtain ⟨a,b,hm,rfl,rfl⟩:=z44 h
    obtain ⟨a',b',hm',rfl,rfl⟩:=z44 h'
    have:=I.nc a b a' b' hm hm'
    unfold sh;split<;>split<;>split<;>split<;>omega
  . obtain ⟨a,b,hm,rfl,rfl⟩:=z44 h
    simp only [List.mem_singleton] at h'
    have:=I.lin a b hm
    unfold z2x at h'
    by_cases q:c=n - 1
    . rw [if_pos q] at h';simp only [Prod.mk.injEq] at h';unfold sh;split<;>split<;>omega
    . rw [if_neg q] at h';simp only [Prod.mk.injEq] at h';unfold sh;split<;>split<;>omega
  . obtain ⟨a,b,hm,rfl,rfl⟩:=z44 h'
    simp only [List.mem_singleton] at h
    have:=I.lin a b hm
    unfold z2x at h
    by_cases q:c=n - 1
    . rw [if_pos q] at h;simp only [Prod.mk.injEq] at h;unfold sh;split<;>split<;>omega
    . rw [if_neg q] at h;simp only [Prod.mk.injEq] at h;unfold sh;split<;>split<;>omega
  . simp only [List.mem_singleton] at h h'
    rw [<-h'] at h;simp only [Prod.mk.injEq] at h;omega
 nd:=by
  have h3:=I.n3
  rw [List.nodup_append]
  refine ⟨?_,by simp,fun p hp q hq=>?_⟩
  . refine (List.pairwise_map.mpr (I.nd.imp fun {p q} hne e=>hne ?_))
    simp only [sh2,Prod.mk.injEq] at e
    exact Prod.ext (zhy e.1) (zhy e.2)
  . simp only [List.mem_singleton] at hq
    subst hq
    obtain ⟨x,y⟩:=p
    obtain ⟨a,b,hm,rfl,rfl⟩:=z44 hp
    have:=I.lin a b hm
    intro e
    unfold z2x at e
    by_cases q:c=n - 1
    . rw [if_pos q] at e;simp only [Prod.mk.injEq] at e;unfold sh at e;split at e<;>split at e<;>omega
    . rw [if_neg q] at e;simp only [Prod.mk.injEq] at e;unfold sh at e;split at e<;>split at e<;>omega
 prm:=by
  have h3:=I.n3
  have e1:(T.map (sh3 c)++[z4v n c]).map outer=(T.map outer).map (sh2 c)++[outer (z4v n c)]:=by
   simp only [List.map_append,List.map_map,List.map_cons,List.map_nil];rfl
  have p1:((T.map outer).map (sh2 c)++[outer (z4v n c)]).Perm (((0,n - 1)::ls).map (sh2 c)++[outer (z4v n c)]):=(I.prm.map (sh2 c)).append_right _
  rw [e1]
  refine p1.trans ?_
  have e0:sh c 0=0:=by unfold sh;split<;>omega
  rw [List.map_cons]
  by_cases q:c=n - 1
  . have e2:sh2 c (0,n - 1)=z2x n c:=by
     unfold z2x sh2;rw [if_pos q];simp only [Prod.mk.injEq];exact ⟨e0,by unfold sh;split<;>omega⟩
    have e3:outer (z4v n c)=(0,n+1 - 1):=by unfold z4v outer;rw [if_pos q];simp
    rw [e2,e3]
    refine (List.perm_append_comm (l₁:=_::_) (l₂:=[_])).trans ?_
    refine List.Perm.cons _ ?_
    exact (List.perm_append_comm (l₁:=[z2x n c]) (l₂:=ls.map (sh2 c)))
  . have e2:sh2 c (0,n - 1)=(0,n+1 - 1):=by
     unfold sh2;simp only [Prod.mk.injEq];exact ⟨e0,by unfold sh;split<;>omega⟩
    have e3:outer (z4v n c)=z2x n c:=by unfold z4v z2x outer;rw [if_neg q,if_neg q]
    rw [e2,e3];exact .refl _
end Cu
namespace Cu
open L2 (mxD zhc T2 T3 so3 z9l z0x)
def pk (x:Int) (p l:P2):Bool:=decide (l.1=x)&&(decide (l.2<=p.2)&&!(decide (l.1=p.1)&&decide (l.2=p.2)))
theorem zvo {x:Int} {p l:P2}:pk x p l=true↔l.1=x/\l.2<=p.2/\¬(l.1=p.1/\l.2=p.2):=by
 simp only [pk,Bool.and_eq_true,decide_eq_true_eq,Bool.not_eq_true',Bool.and_eq_false_iff,decide_eq_false_iff_not]
 constructor
 . rintro ⟨h1,h2,h3⟩;exact ⟨h1,h2,fun h=>by rcases h3 with z | z<;>omega⟩
 . rintro ⟨h1,h2,h3⟩
   refine ⟨h1,h2,?_⟩
   by_cases z:l.1=p.1
   . exact .inr fun w=>h3 ⟨z,w⟩
   . exact .inl z
def ends (x:Int) (p:P2) (ls:List P2):List Int:=(ls.filter (pk x p)).map (·.2)
theorem mem_ends {x:Int} {p:P2} {ls:List P2} {y:Int}:y∈ends x p ls↔(x,y)∈ls/\y<=p.2/\¬(x=p.1/\y=p.2):=by
 simp only [ends,List.mem_map,List.mem_filter,zvo]
 constructor
 . rintro ⟨⟨a,b⟩,⟨h1,h2,h3,h4⟩,rfl⟩
   simp only at h2 h3 h4 ⊢
   subst h2;exact ⟨h1,h3,h4⟩
 . rintro ⟨h1,h2,h3⟩;exact ⟨(x,y),⟨h1,rfl,h2,h3⟩,rfl⟩
section
variable {n:Int} {ls ls':List P2} {T:List P3} {a b c:Int}
theorem CInv.beh1 (I:CInv n ls T) (p:ls'.Perm ls) (h:(a,c,b)∈T):mxD (a+1) (ends a (a,b) ls')=c:=by
 obtain ⟨g1,g2,g3,g4,g5,g6⟩:=I.tri a c b h
 have key:∀y∈ends a (a,b) ls',y<=c:=fun y hy=>by
  obtain ⟨m1,m2,m3⟩:=mem_ends.mp hy
  have m1:=p.mem_iff.mp m1
  simp only at m2 m3
  have:¬y=b:=fun z=>m3 (by simpa using z)
  rcases g6 with g6 | g6
  . have:=I.nc a y c b m1 g6;omega
  . omega
 refine zhc key ?_
 rcases g5 with g5 | g5
 . left;exact mem_ends.mpr ⟨p.mem_iff.mpr g5,by simp only;omega,by simp only;omega⟩
 . by_cases z:ends a (a,b) ls'=[]
   . exact .inr ⟨z,by omega⟩
   . obtain ⟨y,hy⟩:=List.exists_mem_of_ne_nil _ z
     have:=key y hy
     obtain ⟨m1,m2,m3⟩:=mem_ends.mp hy
     have:=I.lin a y (p.mem_iff.mp m1);omega
theorem CInv.beh2 (I:CInv n ls T) (p:ls'.Perm ls) (h:(a,c,b)∈T):mxD (c+1) (ends c (a,b) ls')=b:=by
 obtain ⟨g1,g2,g3,g4,g5,g6⟩:=I.tri a c b h
 refine zhc (fun y hy=>(mem_ends.mp hy).2.1) ?_
 rcases g6 with g6 | g6
 . left;exact mem_ends.mpr ⟨p.mem_iff.mpr g6,by simp only;omega,by simp only;omega⟩
 . by_cases z:ends c (a,b) ls'=[]
   . exact .inr ⟨z,by omega⟩
   . obtain ⟨y,hy⟩:=List.exists_mem_of_ne_nil _ z
     obtain ⟨m1,m2,m3⟩:=mem_ends.mp hy
     have:=I.lin c y (p.mem_iff.mp m1);simp only at m2;omega
def thr (T:List P3) (p:P2):P3:=(T.find? fun t=>decide (outer t=p)).getD (0,0,0)
theorem zmd {p:P2} (h:p∈T.map outer):thr T p∈T/\outer (thr T p)=p:=by
 obtain ⟨t,ht,e⟩:=List.mem_map.mp h
 unfold thr
 cases hf:T.find? fun t=>decide (outer t=p) with
 | none=>
  have:=List.find?_eq_none.mp hf t ht
  simp [e] at this
 | some u=>
  have h1:=List.mem_of_find?_eq_some hf
  have h2:=List.find?_some hf
  exact ⟨h1,by simpa using h2⟩
theorem CInv.thr_outer (I:CInv n ls T) {t:P3} (h:t∈T):thr T (outer t)=t:=by
 obtain ⟨h1,h2⟩:=zmd (T:=T) (List.mem_map.mpr ⟨t,h,rfl⟩)
 obtain ⟨a,c,b⟩:=t
 generalize thr T (outer (a,c,b))=u at h1 h2
 obtain ⟨a',c',b'⟩:=u
 simp only [outer,Prod.mk.injEq] at h2
 obtain ⟨rfl,rfl⟩:=h2
 have e1:=I.beh1 (.refl _) h1
 have e2:=I.beh1 (.refl _) h
 rw [e1] at e2
 rw [e2]
theorem CInv.tops (I:CInv n ls T) (p:ls'.Perm ls):(((0,n - 1)::ls').map (thr T)).Perm T:=by
 have q:((0,n - 1)::ls').Perm (T.map outer):=(p.cons _).trans I.prm.symm
 refine (q.map (thr T)).trans ?_
 rw [List.map_map]
 have:T.map (thr T∘outer)=T:=by
  conv=>rhs;rw [<-List.map_id T]
  exact List.map_congr_left fun t ht=>I.thr_outer ht
 rw [this]
theorem CInv.top_in (I:CInv n ls T) (p:ls'.Perm ls) {q:P2} (h:q∈(0,n - 1)::ls'):thr T q∈T/\outer (thr T q)=q:=
 zmd ((((p.cons _).trans I.prm.symm).mem_iff).mp h)
theorem CInv.len (I:CInv n ls T):T.length=ls.length+1:=by
 have:=I.prm.length_eq;simpa using this
end
theorem zzj {c x y:Int}:(sh c x=sh c y)↔x=y:=⟨zhy,fun h=>by rw [h]⟩
end Cu
namespace Cu
open Bd (gR z7v z6h z33)
def ind (k:Int) (t:P3):Int:=(if k=t.1 then 1 else 0)+(if k=t.2.1 then 1 else 0)+(if k=t.2.2 then 1 else 0)
def c1 (k:Int):List P3->Int
 | []=>0
 | t::r=>ind k t+c1 k r
theorem zme (k:Int):∀(a b:List P3),c1 k (a++b)=c1 k a+c1 k b
 | [],b=>by simp [c1]
 | t::a,b=>by simp only [List.cons_append,c1,zme k a b];omega
theorem zvp (c o:Int) (t:P3):ind (sh c o) (sh3 c t)=ind o t:=by simp only [ind,sh3,zzj]
theorem zvq (c o:Int):∀T:List P3,c1 (sh c o) (T.map (sh3 c))=c1 o T
 | []=>rfl
 | t::T=>by simp only [List.map_cons,c1,zvp,zvq c o T]
theorem zmf (c:Int):∀T:List P3,c1 (c+1) (T.map (sh3 c))=0
 | []=>rfl
 | t::T=>by
  have h:∀x,¬(c+1=sh c x):=fun x=>by unfold sh;split<;>omega
  simp only [List.map_cons,c1,ind,sh3,h,if_false,zmf c T];rfl
def Rw (row:List Int) (T:List P3):Prop:=∀k,k<row.length->row.getD k 0=c1 (k:Int) T
theorem rw3:Rw [1,1,1] [(0,1,2)]:=by
 intro k hk
 match k,hk with
 | 0,_=>decide
 | 1,_=>decide
 | 2,_=>decide
theorem Rw.grow {row:List Int} {T:List P3} (h:Rw row T) (c:Nat) (hc:c<row.length) (hn:3<=row.length):Rw (z7v row c) (T.map (sh3 (c:Int))++[z4v (row.length:Int) (c:Int)]):=by
 intro k hk
 rw [z33 row c hc] at hk
 rw [z6h row c k hc (by omega) hk,zme]
 unfold gR
 by_cases a:k=c+1
 . subst a
   rw [if_pos rfl,show ((c+1:Nat):Int)=(c:Int)+1 by omega,zmf]
   simp only [c1]
   by_cases q:(c:Int)=(row.length:Int) - 1
   . rw [show z4v (row.length:Int) (c:Int)=(0,(c:Int),(row.length:Int)) by unfold z4v;rw [if_pos q]]
     simp only [ind]
     rw [if_neg (by omega),if_neg (by omega),if_pos (by omega)];rfl
   . rw [show z4v (row.length:Int) (c:Int)=((c:Int),(c:Int)+1,(c:Int)+2) by unfold z4v;rw [if_neg q]]
     simp only [ind]
     rw [if_neg (by omega),if_pos (by first | trivial | rfl),if_neg (by omega)];rfl
 . rw [if_neg a]
   obtain ⟨o,ho,e⟩:∃o:Nat,(if k<=c then k else k - 1)=o/\((k:Int)=sh (c:Int) (o:Int)/\o<row.length):=by
    by_cases z:k<=c
    . exact ⟨k,by rw [if_pos z],by unfold sh;rw [if_neg (by omega)],by omega⟩
    . exact ⟨k - 1,by rw [if_neg z],by unfold sh;rw [if_pos (by omega)];omega,by omega⟩
   rw [ho]
   show row.getD o 0+(if o=c then 1 else 0)+(if o=(c+1) % row.length then 1 else 0)=_
   rw [h o e.2,e.1,zvq]
   simp only [c1]
   have e1:=e.1
   have e2:=e.2
   by_cases q:(c:Int)=(row.length:Int) - 1
   . have m0:(c+1) % row.length=0:=by rw [show c+1=row.length by omega,Nat.mod_self]
     rw [show z4v (row.length:Int) (c:Int)=(0,(c:Int),(row.length:Int)) by unfold z4v;rw [if_pos q],m0]
     simp only [ind]
     by_cases z1:o=c
     . rw [if_pos z1,if_neg (by omega),if_neg (by unfold sh;split<;>omega),if_pos (by unfold sh;split<;>omega),if_neg (by unfold sh;split<;>omega)];omega
     . by_cases z2:o=0
       . rw [if_neg z1,if_pos z2,if_pos (by unfold sh;split<;>omega),if_neg (by unfold sh;split<;>omega),if_neg (by unfold sh;split<;>omega)];omega
       . rw [if_neg z1,if_neg z2,if_neg (by unfold sh;split<;>omega),if_neg (by unfold sh;split<;>omega),if_neg (by unfold sh;split<;>omega)];omega
   . have m0:(c+1) % row.length=c+1:=Nat.mod_eq_of_lt (by omega)
     rw [show z4v (row.length:Int) (c:Int)=((c:Int),(c:Int)+1,(c:Int)+2) by unfold z4v;rw [if_neg q],m0]
     simp only [ind]
     by_cases z1:o=c
     . rw [if_pos z1,if_neg (by omega),if_pos (by unfold sh;split<;>omega),if_neg (by unfold sh;split<;>omega),if_neg (by unfold sh;split<;>omega)];omega
     . by_cases z2:o=c+1
       . rw [if_neg z1,if_pos z2,if_neg (by unfold sh;split<;>omega),if_neg (by unfold sh;split<;>omega),if_pos (by unfold sh;split<;>omega)];omega
       . rw [if_neg z1,if_neg z2,if_neg (by unfold sh;split<;>omega),if_neg (by unfold sh;split<;>omega),if_neg (by unfold sh;split<;>omega)];omega
end Cu
namespace Bd
end Bd
namespace Cu
theorem CInv.top_or {n:Int} {ls:List P2} {T:List P3} (I:CInv n ls T) {a c b:Int} (h:(a,c,b)∈T):(a,b)∈ls\/(a=0/\b=n - 1):=by
 have:(a,b)∈(0,n - 1)::ls:=I.prm.mem_iff.mp (List.mem_map.mpr ⟨(a,c,b),h,rfl⟩)
 rcases List.mem_cons.mp this with z | z
 . simp only [Prod.mk.injEq] at z;exact .inr z
 . exact .inl z
open L2 (so3 z0x soI zjr ltT L z7a z5q y0o zh7 z3k)
end Cu
namespace Cu
open L2 (so2 z4p z9j ltT T2 Srt z3h z1r z5q zp9 z3k zm3 D)
end Cu
namespace Cu
end Cu
namespace Cu
open L2 (so2 z4p z9m)
open Bd
open PySem (intBits_mul_le intBits_sub_le)
open PySem.Builtin.Int (intBits)
def bn (row:List Int) (i:Nat):Nat->Int
 | 0=>0
 | 1=>1
 | d+2=>row.getD ((i+(d+1)) % row.length) 0 * bn row i (d+1) - bn row i d
def pr (a b:Nat):P2:=((a:Int),(b:Int))
def On (n:Nat) (ls:List P2) (v:Nat->Vc):Prop:=∀p q:Nat,p<q->q<n->(dt (v p) (v q)=1↔q=p+1\/(p=0/\q+1=n)\/pr p q∈ls)
theorem on3:On 3 [] v3:=by
 intro p q h1 h2
 have:(p=0/\q=1)\/(p=0/\q=2)\/(p=1/\q=2):=by omega
 rcases this with ⟨rfl,rfl⟩ | ⟨rfl,rfl⟩ | ⟨rfl,rfl⟩
 . exact ⟨fun _=>Or.inl rfl,fun _=>rfl⟩
 . exact ⟨fun _=>Or.inr (Or.inl ⟨rfl,rfl⟩),fun _=>rfl⟩
 . exact ⟨fun _=>Or.inl rfl,fun _=>rfl⟩
def shN (c p:Nat):Nat:=if p > c then p+1 else p
theorem zq0 (n c:Nat) (v:Nat->Vc) (k:Nat) (h:k<=n):gV n c v k=gq n c v 0 k:=by
 have:=z2w n c v 0 k h
 rwa [Nat.zero_mul,Nat.zero_add] at this
theorem zdz (n c:Nat) (v:Nat->Vc) (p:Nat) (hp:p<n):gV n c v (shN c p)=v p:=by
 unfold shN
 by_cases h:p > c
 . rw [if_pos h,zq0 _ _ _ _ (by omega),z6a _ _ _ _ _ (by omega),Nat.zero_mul,Nat.zero_add]
 . rw [if_neg h,zq0 _ _ _ _ (by omega),z4u _ _ _ _ _ (by omega),Nat.zero_mul,Nat.zero_add]
theorem zmg (n c:Nat) (v:Nat->Vc) (hc:c<n):gV n c v (c+1)=ad (v c) (v (c+1)):=by
 rw [zq0 _ _ _ _ (by omega),z3u,Nat.zero_mul,Nat.zero_add]
theorem zkc {n c:Nat} {ls:List P2} {x y:Nat}:pr x y∈ls.map (sh2 (c:Int))++[z2x (n:Int) (c:Int)]↔(∃a b,(a,b)∈ls/\(x:Int)=sh (c:Int) a/\(y:Int)=sh (c:Int) b)\/(if c+1=n then x=0/\y=c else x=c/\y=c+2):=by
 rw [List.mem_append,List.mem_singleton]
 refine or_congr ⟨fun h=>z44 h,fun ⟨a,b,h,e1,e2⟩=>?_⟩ ?_
 . rw [List.mem_map]
   exact ⟨(a,b),h,by unfold sh2 pr;rw [e1,e2]⟩
 . unfold z2x pr
   by_cases h:c+1=n
   . rw [if_pos h,if_pos (by omega),Prod.mk.injEq];omega
   . rw [if_neg h,if_neg (by omega),Prod.mk.injEq];omega
theorem On.grow {n:Nat} {R:Nat->Int} {ls:List P2} {v:Nat->Vc} (F:Fr n R v) (hn:3<=n) (O:On n ls v) (c:Nat) (hc:c<n):On (n+1) (ls.map (sh2 (c:Int))++[z2x (n:Int) (c:Int)]) (gV n c v):=by
 intro p q hpq hq
 rw [zkc]
 have old:∀x,x<n+1->x=c+1\/∃y,y<n/\x=shN c y:=fun x hx=>by
  by_cases h:x<=c
  . exact Or.inr ⟨x,by omega,by unfold shN;rw [if_neg (by omega)]⟩
  . by_cases h':x=c+1
    . exact Or.inl h'
    . exact Or.inr ⟨x - 1,by omega,by unfold shN;rw [if_pos (by omega)];omega⟩
 have nosh:∀a:Int,sh (c:Int) a≠((c+1:Nat):Int):=fun a=>by unfold sh;split<;>omega
 rcases old p (by omega) with rfl | ⟨p0,hp0,rfl⟩
 . rcases old q hq with rfl | ⟨q0,hq0,rfl⟩
   . omega
   . have hq1:shN c q0=q0+1/\c<q0:=by unfold shN at hpq ⊢;split at hpq<;>constructor<;>(try rw [if_pos (by assumption)])<;>omega
     rw [zdz _ _ _ _ hq0,zmg _ _ _ hc,z9r,hq1.1]
     have p1:=F.pos c q0 hq1.2 (by omega)
     by_cases e:q0=c+1
     . subst e
       rw [z23,F.one c]
       exact ⟨fun _=>Or.inl rfl,fun _=>rfl⟩
     . have p2:=F.pos (c+1) q0 (by omega) (by omega)
       constructor
       . intro h;omega
       . rintro (h | h | ⟨a,b,_,h,_⟩ | h)
         . omega
         . omega
         . exact absurd h.symm (nosh a)
         . split at h<;>omega
 . rcases old q hq with rfl | ⟨q0,hq0,rfl⟩
   . have hp1:shN c p0=p0/\p0<=c:=by unfold shN at hpq ⊢;split at hpq<;>constructor<;>(try rw [if_neg (by omega)])<;>omega
     rw [zdz _ _ _ _ hp0,zmg _ _ _ hc,z7d,hp1.1]
     by_cases e:p0=c
     . subst e
       rw [z23,F.one p0]
       exact ⟨fun _=>Or.inl rfl,fun _=>rfl⟩
     . have p1:=F.pos p0 c (by omega) (by omega)
       by_cases z:p0=0/\c+1=n
       . obtain ⟨rfl,z⟩:=z
         have t:=F.turn 0 0
         rw [Nat.zero_add,z23] at t
         have o:=(O 0 c (by omega) hc).mpr (Or.inr (Or.inl ⟨rfl,z⟩))
         rw [z,t,o]
         exact ⟨fun _=>Or.inr (Or.inl ⟨rfl,rfl⟩),fun _=>rfl⟩
       . have p2:=F.pos p0 (c+1) (by omega) (by omega)
         constructor
         . intro h;omega
         . rintro (h | h | ⟨a,b,_,_,h⟩ | h)
           . omega
           . omega
           . exact absurd h.symm (nosh b)
           . split at h<;>omega
   . have hlt:p0<q0:=by unfold shN at hpq;split at hpq<;>split at hpq<;>omega
     rw [zdz _ _ _ _ hp0,zdz _ _ _ _ hq0,O p0 q0 hlt hq0]
     have inj:∀(a:Int) (x:Nat),((shN c x:Nat):Int)=sh (c:Int) a->a=(x:Int):=fun a x=>by unfold shN sh;split<;>split<;>omega
     have shE:∀x:Nat,((shN c x:Nat):Int)=sh (c:Int) (x:Int):=fun x=>by unfold shN sh;split<;>split<;>omega
     constructor
     . rintro (h | h | h)
       . unfold shN;split<;>split<;>split<;>omega
       . unfold shN;split<;>split<;>split<;>omega
       . exact Or.inr (Or.inr (Or.inl ⟨_,_,h,shE p0,shE q0⟩))
     . rintro (h | h | ⟨a,b,h,e1,e2⟩ | h)
       . unfold shN at h;split at h<;>split at h<;>omega
       . unfold shN at h;split at h<;>split at h<;>omega
       . rw [inj a p0 e1,inj b q0 e2] at h
         exact Or.inr (Or.inr h)
       . unfold shN at h;split at h<;>split at h<;>split at h<;>omega
end Cu
namespace Cu
open L2 (so2 z4p z9m so3 z0x z9l z7b ltT T3 Srt z3h z1r z5q zpa z3k zm2 D)
open Bd
theorem sh_lt {c x y:Int}:sh c x<sh c y↔x<y:=by unfold sh;split<;>split<;>omega
def cor (t:P3):List Int:=[t.1,t.2.1,t.2.2]
def xt (E:List Int) (t:P3) (g:List Int):List (List Int):=(((cor t).filter fun c=>decide (c∉E)).filter fun c=>decide (c∉g)).map fun c=>g++[c]
def Sg (E:List Int):List P3->List (List Int)->List (List Int)
 | [],B=>B
 | t::ts,B=>Sg E ts (B.flatMap (xt E t))
def Sh (E:List Int) (ts:List P3):List (List Int):=Sg E ts [[]]
theorem mem_xt {E:List Int} {t:P3} {g x:List Int}:x∈xt E t g↔∃c∈cor t,c∉E/\c∉g/\x=g++[c]:=by
 unfold xt
 simp only [List.mem_map,List.mem_filter,decide_eq_true_eq]
 exact ⟨fun ⟨c,⟨⟨h1,h2⟩,h3⟩,e⟩=>⟨c,h1,h2,h3,e.symm⟩,fun ⟨c,h1,h2,h3,e⟩=>⟨c,⟨⟨h1,h2⟩,h3⟩,e.symm⟩⟩
section
def cn (i j:Int) (ts:List P3):Nat:=if i=j then 0 else (Sh [i,j] ts).length
end
def mm (v:Nat->Vc) (p q:Nat):Int:=dt (v (min p q)) (v (max p q))
theorem zzk (v:Nat->Vc) (p q:Nat):mm v p q=mm v q p:=by unfold mm;rw [Nat.min_comm,Nat.max_comm]
theorem CInv.tlen {n:Nat} {ls:List P2} {T:List P3} (I:CInv (n:Int) ls T) (hl:ls.length+3=n):T.length+2=n:=by
 have:=I.prm.length_eq
 rw [List.length_map,List.length_cons] at this
 omega
def pin (o:List Int) (k:Nat) (x:Int):List Int:=o.take k++x::o.drop k
theorem zhz (o:List Int) (k:Nat) (x:Int):(pin o k x).length=o.length+1:=by
 simp only [pin,List.length_append,List.length_cons,List.length_take,List.length_drop];omega
theorem zvr (o:List Int) (k:Nat) (x:Int) (hk:k<=o.length) (i:Nat) (hi:i<o.length):(pin o k x).getD (if k<=i then i+1 else i) 0=o.getD i 0:=by
 unfold pin
 simp only [List.getD_eq_getElem?_getD]
 by_cases h:k<=i
 . rw [if_pos h,List.getElem?_append_right (by rw [List.length_take];omega),List.length_take,show i+1 - min k o.length=(i - k)+1 by omega,List.getElem?_cons_succ,List.getElem?_drop,show k+(i - k)=i by omega]
 . rw [if_neg h,List.getElem?_append_left (by rw [List.length_take];omega),List.getElem?_take,if_pos (by omega)]
def nm3 (o:List Int) (p:P3):List Int:=[o.getD p.1.toNat 0,o.getD p.2.1.toNat 0,o.getD p.2.2.toNat 0]
def rot (p:P3):P3:=if p.2.1<p.2.2 then p else (p.2.2,p.1,p.2.1)
structure Nm (o:List Int) (tp:List P3) (T:List P3):Prop where
 l3:3<=o.length
 rng:∀x∈o,0<=x/\x<o.length
 nd:o.Nodup
 inn:∀p∈tp,(0<=p.1/\p.1<o.length)/\(0<=p.2.1/\p.2.1<o.length)/\(0<=p.2.2/\p.2.2<o.length)
 shp:∀p∈tp,p.1<p.2.1/\(p.2.1<p.2.2\/p.2.2<p.1)
 srt:tp.map rot=T
theorem nm0:Nm [0,1,2] [(0,1,2)] [(0,1,2)]:=⟨by decide,by decide,by decide,by decide,by decide,rfl⟩
def nwT (m c:Nat):P3:=((c:Int),(c:Int)+1,sh (c:Int) (((c+1) % m:Nat):Int))
theorem zvs (c:Int) (p:P3):rot (sh3 c p)=sh3 c (rot p):=by
 unfold rot
 by_cases h:p.2.1<p.2.2
 . rw [if_pos h,if_pos (show (sh3 c p).2.1<(sh3 c p).2.2 from sh_lt.mpr h)]
 . rw [if_neg h,if_neg (show ¬(sh3 c p).2.1<(sh3 c p).2.2 from fun z=>h (sh_lt.mp z))];rfl
theorem Nm.grow {o:List Int} {tp T:List P3} (N:Nm o tp T) (c:Nat) (hc:c<o.length) :
  Nm (pin o (c+1) (o.length:Int)) (tp.map (sh3 (c:Int))++[nwT o.length c]) (T.map (sh3 (c:Int))++[z4v (o.length:Int) (c:Int)]) /\
  tp.map (nm3 o)++[[o.getD c 0,(o.length:Int),o.getD ((c+1) % o.length) 0]]=(tp.map (sh3 (c:Int))++[nwT o.length c]).map (nm3 (pin o (c+1) (o.length:Int))):=by
 have h3:=N.l3
 have hl:=zhz o (c+1) (o.length:Int)
 have m1:(c+1) % o.length<o.length:=Nat.mod_lt _ (by omega)
 have shN':∀x:Int,0<=x->x<o.length->(pin o (c+1) (o.length:Int)).getD (sh (c:Int) x).toNat 0=o.getD x.toNat 0:=fun x x0 x1=>by
  have:=zvr o (c+1) (o.length:Int) (by omega) x.toNat (by omega)
  rw [<-this]
  congr 1
  unfold sh
  split
  . rw [if_pos (by omega)];omega
  . rw [if_neg (by omega)]
 have hnew:(pin o (c+1) (o.length:Int)).getD (c+1) 0=(o.length:Int):=by
  unfold pin
  rw [List.getD_eq_getElem?_getD,List.getElem?_append_right (by rw [List.length_take];omega),List.length_take,show c+1 - min (c+1) o.length=0 by omega];rfl
 have hw:∀x:Int,x=(((c+1) % o.length:Nat):Int)->(c+1=o.length/\x=0)\/(c+1<o.length/\x=(c:Int)+1):=fun x hx=>by
  by_cases z:c+1=o.length
  . left;rw [z,Nat.mod_self] at hx;omega
  . right;rw [Nat.mod_eq_of_lt (by omega)] at hx;omega
 refine ⟨⟨by omega,?_,?_,?_,?_,?_⟩,?_⟩
 . intro x hx
   rw [hl]
   rcases List.mem_append.mp hx with h | h
   . have:=N.rng x (List.mem_of_mem_take h);omega
   . rcases List.mem_cons.mp h with h | h
     . omega
     . have:=N.rng x (List.mem_of_mem_drop h);omega
 . have p:(pin o (c+1) (o.length:Int)).Perm ((o.length:Int)::o):=by
    unfold pin
    exact List.perm_middle.trans (.cons _ (.of_eq (List.take_append_drop _ _)))
   rw [p.nodup_iff,List.nodup_cons]
   exact ⟨fun h=>by have:=N.rng _ h;omega,N.nd⟩
 . intro p hp
   rw [hl]
   rcases List.mem_append.mp hp with h | h
   . obtain ⟨q,hq,rfl⟩:=List.mem_map.mp h
     have:=N.inn q hq
     unfold sh3 sh
     simp only
     refine ⟨⟨?_,?_⟩,⟨?_,?_⟩,?_,?_⟩<;>split<;>omega
   . rw [List.mem_singleton] at h
     subst h
     unfold nwT sh
     simp only
     refine ⟨⟨?_,?_⟩,⟨?_,?_⟩,?_,?_⟩<;>(try split)<;>omega
 . intro p hp
   rcases List.mem_append.mp hp with h | h
   . obtain ⟨q,hq,rfl⟩:=List.mem_map.mp h
     have:=N.shp q hq
     exact ⟨sh_lt.mpr this.1,this.2.imp sh_lt.mpr sh_lt.mpr⟩
   . rw [List.mem_singleton] at h
     subst h
     unfold nwT
     simp only
     rcases hw _ rfl with ⟨z,e⟩ | ⟨z,e⟩<;>rw [e]<;>unfold sh
     . rw [if_neg (by omega)];omega
     . rw [if_pos (by omega)];omega
 . rw [List.map_append,List.map_map,<-N.srt,List.map_map]
   congr 1
   . exact List.map_congr_left fun p _=>zvs _ p
   . rw [List.map_cons,List.map_nil]
     congr 1
     unfold nwT z4v rot
     rcases hw _ rfl with ⟨z,e⟩ | ⟨z,e⟩<;>rw [e]<;>unfold sh
     . rw [if_neg (show ¬(0:Int) > (c:Int) by omega),if_neg (by simp only;omega),if_pos (by omega)]
       refine Prod.ext rfl (Prod.ext rfl ?_)
       show (c:Int)+1=o.length
       omega
     . rw [if_pos (show ((c:Int)+1) > (c:Int) by omega),if_pos (by simp only;omega),if_neg (by omega)]
       refine Prod.ext rfl (Prod.ext rfl ?_)
       show (c:Int)+1+1=c+2
       omega
 . rw [List.map_append,List.map_map]
   congr 1
   . refine List.map_congr_left fun p hp=>?_
     have:=N.inn p hp
     show nm3 o p=nm3 _ (sh3 (c:Int) p)
     unfold nm3 sh3
     simp only
     rw [shN' _ this.1.1 this.1.2,shN' _ this.2.1.1 this.2.1.2,shN' _ this.2.2.1 this.2.2.2]
   . rw [List.map_cons,List.map_nil]
     congr 1
     unfold nm3 nwT
     simp only
     have e1:=shN' (c:Int) (by omega) (by omega)
     rw [show sh (c:Int) (c:Int)=c by unfold sh;rw [if_neg (by omega)]] at e1
     rw [e1,shN' _ (by omega) (by omega),show ((c:Int)+1).toNat=c+1 by omega,hnew,Int.toNat_natCast,Int.toNat_natCast]
end Cu
namespace Cu
section
open Bd
variable {row:List Int} {ls:List P2} {T:List P3} {v:Nat->Vc}
theorem zi0 (I:CInv (row.length:Int) ls T) (O:On row.length ls v) {a c b:Int} (h:(a,c,b)∈T):dt (v a.toNat) (v c.toNat)=1/\dt (v c.toNat) (v b.toNat)=1/\dt (v a.toNat) (v b.toNat)=1:=by
 obtain ⟨h1,h2,h3,h4,h5,h6⟩:=I.tri a c b h
 have top:=I.top_or h
 have e:∀x y:Int,0<=x->0<=y->pr x.toNat y.toNat=(x,y):=fun x y hx hy=>by unfold pr;rw [Int.toNat_of_nonneg hx,Int.toNat_of_nonneg hy]
 refine ⟨(O a.toNat c.toNat (by omega) (by omega)).mpr ?_,(O c.toNat b.toNat (by omega) (by omega)).mpr ?_,(O a.toNat b.toNat (by omega) (by omega)).mpr ?_⟩
 . rcases h5 with z | z
   . exact .inr (.inr (by rw [e _ _ (by omega) (by omega)];exact z))
   . exact .inl (by omega)
 . rcases h6 with z | z
   . exact .inr (.inr (by rw [e _ _ (by omega) (by omega)];exact z))
   . exact .inl (by omega)
 . rcases top with z | z
   . exact .inr (.inr (by rw [e _ _ (by omega) (by omega)];exact z))
   . exact .inr (.inl (by omega))
theorem zwj (a b c d:Vc):dt a c * dt b d=dt a b * dt c d+dt b c * dt a d:=by unfold dt;grind
end
end Cu
set_option maxHeartbeats 400000
namespace Cu
open L2 Bd
def mid (p:Int) (t:P3):Int:=if p<t.1\/t.2.2<=p then t.2.1 else if p<t.2.1 then t.2.2 else t.1
def nxC (n p:Int):Int:=if p=n - 1 then 0 else p+1
def Md (n:Int) (T:List P3):Prop:=∀p j,0<=p->p<n->0<=j->j<n->j≠p->j≠nxC n p->∃t∈T,mid p t=j
theorem md3:Md 3 [(0,1,2)]:=by
 intro p j h1 h2 h3 h4 h5 h6
 refine ⟨(0,1,2),by simp,?_⟩
 unfold nxC at h6
 unfold mid
 dsimp only
 split at h6<;>(repeat' split)<;>omega
def bk (c p:Int):Int:=if p<=c then p else p - 1
theorem zvt (c p:Int) (t:P3):mid p (sh3 c t)=sh c (mid (bk c p) t):=by
 obtain ⟨a,b,d⟩:=t
 have e1:∀x,p<sh c x↔bk c p<x:=fun x=>by unfold sh bk;split<;>split<;>omega
 have e2:∀x,sh c x<=p↔x<=bk c p:=fun x=>by unfold sh bk;split<;>split<;>omega
 unfold mid sh3
 dsimp only
 simp only [e1,e2]
 repeat' split
 all_goals first | rfl | contradiction
theorem Md.grow {n:Int} {T:List P3} (hn:3<=n) (M:Md n T) (c:Int) (h0:0<=c) (h1:c<n):Md (n+1) (T.map (sh3 c)++[z4v n c]):=by
 intro p j p0 p1 j0 j1 jp jn
 have new:mid p (z4v n c)=j->∃t∈T.map (sh3 c)++[z4v n c],mid p t=j:=fun e=>⟨_,by simp,e⟩
 by_cases hj:j=c+1
 . refine new ?_
   unfold nxC at jn
   unfold z4v mid
   split at jn<;>(split<;>(dsimp only;repeat' split)<;>omega)
 . obtain ⟨y,y0,y1,rfl⟩:∃y,0<=y/\y<n/\j=sh c y:=by
    refine ⟨if j > c then j - 1 else j,?_,?_,?_⟩
    . split<;>omega
    . split<;>omega
    . unfold sh;split<;>(try split)<;>omega
   by_cases hq:y=bk c p\/y=nxC n (bk c p)
   . refine new ?_
     have hp:(p=c/\y=nxC n c)\/(p=c+1/\y=c):=by
      clear new M
      unfold sh at jp jn hj
      unfold nxC at jn ⊢
      unfold nxC bk at hq
      by_cases a1:y > c
      . rw [if_pos a1] at jp jn hj
        by_cases a2:p<=c
        . simp only [if_pos a2] at hq
          split at hq<;>split at jn<;>split<;>omega
        . simp only [if_neg a2] at hq
          split at hq<;>split at jn<;>split<;>omega
      . rw [if_neg a1] at jp jn hj
        by_cases a2:p<=c
        . simp only [if_pos a2] at hq
          split at hq<;>split at jn<;>split<;>omega
        . simp only [if_neg a2] at hq
          split at hq<;>split at jn<;>split<;>omega
     rcases hp with ⟨rfl,rfl⟩ | ⟨rfl,rfl⟩
     . unfold z4v mid nxC sh
       by_cases a:p=n - 1
       . simp only [if_pos a];repeat' split
         all_goals omega
       . simp only [if_neg a];repeat' split
         all_goals omega
     . unfold z4v mid sh
       by_cases a:y=n - 1
       . simp only [if_pos a];repeat' split
         all_goals omega
       . simp only [if_neg a];repeat' split
         all_goals omega
   . obtain ⟨t,ht,e⟩:=M (bk c p) y (by unfold bk;split<;>omega) (by unfold bk;split<;>omega) y0 y1 (fun z=>hq (.inl z)) fun z=>hq (.inr z)
     exact ⟨sh3 c t,List.mem_append_left _ (List.mem_map_of_mem ht),by rw [zvt,e]⟩
def kq (n c x:Int):Int:=(x - c) % n
theorem zbi {n c x:Int} (hc:0<=c/\c<n) (hx:0<=x/\x<n):kq n c x=if c<=x then x - c else x - c+n:=by
 unfold kq
 split
 . exact Int.emod_eq_of_lt (by omega) (by omega)
 . rw [<-Int.add_emod_right];exact Int.emod_eq_of_lt (by omega) (by omega)
theorem zmh {n c x z:Int} (hc:0<=c/\c<n) (hx:0<=x/\x<n) (hz:0<=z/\z<n) (h:kq n c x<kq n c z):(x - z) % n=n - (kq n c z - kq n c x):=by
 have e:(x - z) % n=kq n z x:=rfl
 rw [e,zbi hz hx]
 rw [zbi hc hx,zbi hc hz] at *
 repeat' split at *
 all_goals omega
def rt (c:Int) (t:P3):P3:=if c<=t.1\/t.2.2<c then t else if c<=t.2.1 then (t.2.1,t.2.2,t.1) else (t.2.2,t.1,t.2.1)
theorem zkd {n c:Int} {t:P3} (hc:0<=c/\c<n) (h:0<=t.1/\t.1<t.2.1/\t.2.1<t.2.2/\t.2.2<n) :
  kq n c (rt c t).1<kq n c (rt c t).2.1/\kq n c (rt c t).2.1<kq n c (rt c t).2.2:=by
 obtain ⟨a,b,d⟩:=t
 dsimp only at h
 unfold rt
 dsimp only
 split
 . dsimp only
   rw [zbi hc (by omega),zbi hc (by omega),zbi hc (by omega)]
   constructor<;>(repeat' split)<;>omega
 . split
   . dsimp only
     rw [zbi hc (by omega),zbi hc (by omega),zbi hc (by omega)]
     constructor<;>(repeat' split)<;>omega
   . dsimp only
     rw [zbi hc (by omega),zbi hc (by omega),zbi hc (by omega)]
     constructor<;>(repeat' split)<;>omega
theorem zmi {c:Int} {t:P3} {x:Int}:x∈cor (rt c t)↔x∈cor t:=by
 obtain ⟨a,b,d⟩:=t
 unfold rt cor
 dsimp only
 split
 . simp
 . split
   . simp;constructor<;>(rintro (h | h | h)<;>simp [h])
   . simp;constructor<;>(rintro (h | h | h)<;>simp [h])
def Ed (n:Int) (ls:List P2) (a b:Int):Prop:=(a,b)∈ls\/b=a+1\/(a=0/\b=n - 1)
theorem Ed.nc {n:Int} {ls:List P2} {T:List P3} (I:CInv n ls T) {a b c d:Int} (h:Ed n ls a b) (k:Ed n ls c d) (h1:0<=a/\d<n):¬(a<c/\c<b/\b<d):=by
 rintro ⟨x,y,z⟩
 rcases h with h | h | h
 . rcases k with k | k | k
   . exact I.nc a b c d h k ⟨x,y,z⟩
   . omega
   . omega
 . omega
 . omega
def EdU (n:Int) (ls:List P2) (u w:Int):Prop:=(u<w/\Ed n ls u w)\/(w<u/\Ed n ls w u)
theorem EdU.nck {n c:Int} {ls:List P2} {T:List P3} (I:CInv n ls T) {u w u' w':Int} (h:EdU n ls u w) (k:EdU n ls u' w') (hc:0<=c/\c<n) (hu:0<=u/\u<n) (hw:0<=w/\w<n) (hu':0<=u'/\u'<n) (hw':0<=w'/\w'<n) :
  ¬(kq n c u<kq n c u'/\kq n c u'<kq n c w/\kq n c w<kq n c w'):=by
 rw [zbi hc hu,zbi hc hw,zbi hc hu',zbi hc hw']
 rintro ⟨x,y,z⟩
 rcases h with ⟨l,h⟩ | ⟨l,h⟩<;>rcases k with ⟨m,k⟩ | ⟨m,k⟩
 all_goals
  have n1:=Ed.nc I h k (by omega)
  have n2:=Ed.nc I k h (by omega)
  clear h k
  repeat' split at *
  all_goals omega
theorem CInv.rng {n:Int} {ls:List P2} {T:List P3} (I:CInv n ls T) {t:P3} (h:t∈T):0<=t.1/\t.1<t.2.1/\t.2.1<t.2.2/\t.2.2<n:=by
 obtain ⟨a,b,d⟩:=t
 have:=I.tri a b d h
 dsimp only;omega
theorem CInv.rtr {n c:Int} {ls:List P2} {T:List P3} (I:CInv n ls T) {t:P3} (h:t∈T):∀x∈cor (rt c t),0<=x/\x<n:=fun x hx=>by
 have:=I.rng h
 rw [zmi] at hx
 unfold cor at hx
 simp at hx
 omega
theorem CInv.edu {n c:Int} {ls:List P2} {T:List P3} (I:CInv n ls T) {t:P3} (h:t∈T):EdU n ls (rt c t).1 (rt c t).2.2:=by
 obtain ⟨a,b,d⟩:=t
 obtain ⟨h1,h2,h3,h4,h5,h6⟩:=I.tri a b d h
 have top:Ed n ls a d:=(I.top_or h).elim .inl fun z=>.inr (.inr z)
 have e1:Ed n ls a b:=h5.imp id .inl
 have e2:Ed n ls b d:=h6.imp id .inl
 unfold rt
 dsimp only
 split
 . exact .inl ⟨by dsimp only;omega,top⟩
 . split
   . exact .inr ⟨by dsimp only;omega,e1⟩
   . exact .inr ⟨by dsimp only;omega,e2⟩
theorem CInv.wide {n c:Int} {ls:List P2} {T:List P3} (I:CInv n ls T) (hc:0<=c/\c<n) {t u:P3} (ht:t∈T) (hu:u∈T) (h:(rt c u).2.1=(rt c t).1\/(rt c u).2.1=(rt c t).2.2) :
  ((rt c u).1 - (rt c u).2.2) % n<((rt c t).1 - (rt c t).2.2) % n:=by
 have t0:=zkd hc (I.rng ht)
 have u0:=zkd hc (I.rng hu)
 have tr:=I.rtr (c:=c) ht
 have ur:=I.rtr (c:=c) hu
 have m1:∀p:P3,p.1∈cor p:=fun p=>by simp [cor]
 have m3:∀p:P3,p.2.2∈cor p:=fun p=>by simp [cor]
 have et:=I.edu (c:=c) ht
 have eu:=I.edu (c:=c) hu
 have n1:=EdU.nck I eu et hc (ur _ (m1 _)) (ur _ (m3 _)) (tr _ (m1 _)) (tr _ (m3 _))
 have n2:=EdU.nck I et eu hc (tr _ (m1 _)) (tr _ (m3 _)) (ur _ (m1 _)) (ur _ (m3 _))
 rw [zmh hc (ur _ (m1 _)) (ur _ (m3 _)) (Int.lt_trans u0.1 u0.2),zmh hc (tr _ (m1 _)) (tr _ (m3 _)) (Int.lt_trans t0.1 t0.2)]
 rcases h with e | e
 . rw [e] at u0;omega
 . rw [e] at u0;omega
section
variable {row:List Int} {ls:List P2} {T:List P3} {v:Nat->Vc}
theorem z9s (v:Nat->Vc) {p q:Nat} (h:p<=q):mm v p q=dt (v p) (v q):=by unfold mm;rw [Nat.min_eq_left h,Nat.max_eq_right h]
theorem zb5 (v:Nat->Vc) {p q:Nat} (h:q<=p):mm v p q=dt (v q) (v p):=by rw [zzk,z9s v h]
theorem zq1 (I:CInv (row.length:Int) ls T) (O:On row.length ls v) {c:Int} (hc:0<=c/\c<row.length) {t:P3} (h:t∈T) (hn:c∉cor t) :
  mm v c.toNat (rt c t).2.1.toNat=mm v c.toNat (rt c t).1.toNat+mm v c.toNat (rt c t).2.2.toNat:=by
 obtain ⟨a,b,d⟩:=t
 have r:=I.rng h
 obtain ⟨a1,a2,a3⟩:=zi0 I O h
 dsimp only at r
 have hn':c≠a/\c≠b/\c≠d:=by unfold cor at hn;simpa using hn
 unfold rt
 dsimp only
 by_cases h1:c<a
 . rw [if_pos (by omega)];dsimp only;rw [z9s v (by omega),z9s v (by omega),z9s v (by omega)]
   have:=zwj (v c.toNat) (v a.toNat) (v b.toNat) (v d.toNat)
   rw [a1,a2,a3] at this;omega
 . by_cases h2:d<c
   . rw [if_pos (by omega)];dsimp only;rw [zb5 v (by omega),zb5 v (by omega),zb5 v (by omega)]
     have:=zwj (v a.toNat) (v b.toNat) (v d.toNat) (v c.toNat)
     rw [a1,a2,a3] at this;omega
   . rw [if_neg (by omega)]
     by_cases h3:c<b
     . rw [if_pos (by omega)];dsimp only;rw [z9s v (by omega),z9s v (by omega),zb5 v (by omega)]
       have:=zwj (v a.toNat) (v c.toNat) (v b.toNat) (v d.toNat)
       rw [a1,a2,a3] at this;omega
     . rw [if_neg (by omega)];dsimp only;rw [zb5 v (by omega),z9s v (by omega),zb5 v (by omega)]
       have:=zwj (v a.toNat) (v b.toNat) (v c.toNat) (v d.toNat)
       rw [a1,a2,a3] at this;omega
theorem zvu (I:CInv (row.length:Int) ls T) (O:On row.length ls v) {t:P3} (h:t∈T) {x y:Int} (hx:x∈cor t) (hy:y∈cor t) (hne:x≠y):mm v x.toNat y.toNat=1:=by
 obtain ⟨a,b,d⟩:=t
 have r:=I.rng h
 obtain ⟨a1,a2,a3⟩:=zi0 I O h
 dsimp only at r
 unfold cor at hx hy
 simp only [List.mem_cons,List.not_mem_nil,or_false] at hx hy
 rcases hx with rfl | rfl | rfl<;>rcases hy with rfl | rfl | rfl<;>first | exact absurd rfl hne | (rw [z9s v (by omega)];assumption) | (rw [zb5 v (by omega)];assumption)
theorem y1y (I:CInv (row.length:Int) ls T) (O:On row.length ls v) (M:Md (row.length:Int) T) {c j:Int} (hc:0<=c/\c<row.length) (hj:0<=j/\j<row.length) (hne:j≠c) :
  mm v c.toNat j.toNat=1\/∃t∈T,c∉cor t/\(rt c t).2.1=j:=by
 by_cases hx:j=nxC row.length c
 . left
   have n3:=I.n3
   unfold nxC at hx
   split at hx
   . rw [zb5 v (by omega)]
     exact (O j.toNat c.toNat (by omega) (by omega)).mpr (.inr (.inl (by omega)))
   . rw [z9s v (by omega)]
     exact (O c.toNat j.toNat (by omega) (by omega)).mpr (.inl (by omega))
 . obtain ⟨t,ht,e⟩:=M c j hc.1 hc.2 hj.1 hj.2 hne hx
   by_cases hm:c∈cor t
   . left
     refine zvu I O ht hm ?_ (Ne.symm hne)
     rw [<-e]
     unfold mid cor
     repeat' split
     all_goals simp
   . right
     refine ⟨t,ht,hm,?_⟩
     obtain ⟨a,b,d⟩:=t
     unfold cor at hm
     simp at hm
     have r:=I.rng ht
     dsimp only at r
     rw [<-e]
     unfold rt mid
     dsimp only
     repeat' split
     all_goals first | rfl | omega
end
end Cu
noncomputable section
namespace K44
open PySem PySem.Spec PyProof.Rows L2
def knX:String->Bool:=fun c=>c=="NoCorner"||c=="TooMany"
def z0y:String->Option Bool:=fun c=>if c="NoCorner" then some true else if c="TooMany" then some true else none
def z6i:String->Option Bool:=fun c=>if c="NoCorner" then some false else if c="TooMany" then some false else none
def z3l:String->Option Bool:=fun c=>if c="NoCorner" then some false else if c="TooMany" then some false else none
def z6j:String->Option Bool:=fun c=>if c="NoCorner" then some false else if c="TooMany" then some false else none
def z4w:String->Option Bool:=fun c=>if c="NoCorner" then some false else if c="TooMany" then some false else none
def z4x:String->Option Bool:=fun c=>if c="NoCorner" then some false else if c="TooMany" then some false else none
def z3m:String->Option Bool:=fun c=>if c="NoCorner" then some false else if c="TooMany" then some false else none
def z4y:String->Option Bool:=fun c=>if c="NoCorner" then some false else if c="TooMany" then some false else none
def z4z:String->Option Bool:=fun c=>if c="NoCorner" then some false else if c="TooMany" then some false else none
def z2r:String->Option Bool:=fun c=>if c="NoCorner" then some false else if c="TooMany" then some false else none
def z50:String->Option Bool:=fun c=>if c="NoCorner" then some false else if c="TooMany" then some false else none
def z2c:String->Option Bool:=fun c=>if c="NoCorner" then some false else if c="TooMany" then some true else none
def z1t:String->Option Bool:=fun c=>if c="NoCorner" then some true else if c="TooMany" then some false else none
def z0z:String->Option Bool:=fun c=>if c="NoCorner" then some true else if c="TooMany" then some true else none
def z5f:DS->SR:=
 (z6e [true] (zqn (eUn (z57 "int") (z04 0)) (eUn (fun d=>(zbg d).map fun b=>.bl (!b)) (eUn (z57 "bool") (z04 0)))))
def z13:List D->R D:=mOf false 1 0 z5f
def z2d:DE->R Bool:=
 (zl5 (z2i asB (eOp dEq (eOp dIx (z04 0) (eC (.int 0))) (z04 1))) (zl5 (z2i asB (eOp dLe (eOp dIx (z04 0) (eC (.int 1))) (eOp dIx (z04 2) (eC (.int 1))))) (z2i asB (eOp dNe (z04 0) (z04 2)))))
def z2e:DE->R D:=
 (eOp dIx (z04 0) (eC (.int 1)))
def z35:DS->SR:=
 (z1h (z30 true 3 [true,true,true] (z4g (iL (z04 2)) b1 [0,1] z2d z2e))
  (z6e [true,false,false,true] (eCB zel (z01 (z04 3) (z01 (eOp z6y (z04 0) (eC (.int 1))) z0e)))))
def z0m:List D->R D:=mOf false 3 1 z35
def z3v:DE->R Bool:=
 (z2i asB (eOp (dIn true) (z04 0) (z04 1)))
def z3w:DE->R D:=
 (eOp zeo (z04 1) (zbz (z01 (z04 0) z0e)))
def z17:DS->SR:=
 (znq "list" zt2 2 [false,true,false,true] (z01 (z4g (iL (z04 1)) b1 [3] z3v z3w) z0e))
def z5t:DS->SR:=
 (z1h (z30 true 2 [] (z64 z0e))
  (z1h (zee false [true] (iL (z04 0)) (.n 3) z17)
  (z7s 2)))
def z1d:List D->R D:=mOf true 2 2 z5t
def z36:DE->R D:=
 (eOp zak (eOp zl9 (z04 0) (z04 2)) (z04 1))
def z51:DS->SR:=
 (z6e [true,true,true] (z5s (z04 2) [0,1] z36))
def z10:List D->R D:=mOf true 3 0 z51
def z7e:DS->SR:=
 (z6e [true,true] (eOp dIx (eOp zj7 (eSl dSl (z04 0) (oSo (z04 1)) (oSo (eOp z6y (z04 1) (eC (.int 1))))) (z64 (z01 (eC (.int 0)) z0e))) (eC (.int 0))))
def z0n:List D->R D:=mOf false 2 0 z7e
def z11:DS->SR:=
 (sIf (z2i asB (eOp zqq (z04 0) (eC (.int 0))))
  (zij zez 2 [true,false,true,true,true] (eOp zak (z04 3) (z04 0)) (eOp zak (eOp z6y (eOp zwc (eOp dIx (z04 2) (eOp zak (z04 3) (z04 0))) (eC (.int 48271))) (z04 4)) (eC (.int 2147483647))))
  sNx)
def z2s:DS->SR:=
 (z1h (z30 true 2 [true] (eLR (z01 (z04 0) z0e)))
  (z1h (zee false [false,true] (iEn (z01 (z04 1) z0e)) (.t [3,4]) z11)
  (z7s 2)))
def z12:List D->R D:=mOf true 2 3 z2s
def z18:DS->SR:=
 (z1h (z30 false 4 [false,true,false,true] (eOp zak (z04 3) (eCB zeg (z01 (z04 1) z0e))))
  (z1h (zhk "list" zlf 2 [false,true,false,false,true] (z64 (z01 (eOp dIx (z04 1) (z04 4)) (z01 (eCB zeg (z01 (z04 1) z0e)) (z01 (eOp dIx (z04 1) (eOp zak (eOp z6y (z04 4) (eC (.int 1))) (eCB zeg (z01 (z04 1) z0e)))) z0e)))))
  (znq "list" zt0 1 [false,true,false,false,true] (z01 (eOp z6y (z04 4) (eC (.int 1))) (z01 (eCB zeg (z01 (z04 1) z0e)) z0e)))))
def z19:DS->SR:=
 (zij zez 5 [false,false,false,false,false,false,true,true] (z04 7) (z04 6))
def z3x:DE->R D:=
 (eOp dIx (z04 1) (z04 0))
def z3y:DE->R D:=
 (eCB z1s (z01 (z4g (iL (z04 0)) b1 [1] zle z3x) z0e))
def z5u:DS->SR:=
 (z1h (z30 true 1 [] (z64 (z01 (eC (.int 0)) (z01 (eC (.int 1)) (z01 (eC (.int 2)) z0e)))))
  (z1h (z30 true 2 [] (z64 (z01 (z64 (z01 (eC (.int 0)) (z01 (eC (.int 1)) (z01 (eC (.int 2)) z0e)))) z0e)))
  (z1h (zee false [true] (iL (z04 0)) (.n 3) z18)
  (z1h (z30 true 5 [] zo8)
  (z1h (zee false [false,true] (iEn (z01 (z04 1) z0e)) (.t [6,7]) z19)
  (z6e [false,false,true,false,false,true,false,true] (eCB z4r (z01 (z4g (iL (z04 2)) b1 [5] zle z3y) z0e))))))))
def z1e:List D->R D:=mOf true 1 7 z5u
def z1f:DS->SR:=
 (sIf (zl5 (z2i asB (eOp zqq (eOp zl9 (z04 7) (z04 6)) (eC (.int 1)))) (z2i asB (eOp dNe (zbz (z01 (z04 6) (z01 (z04 7) z0e))) (zbz (z01 (eC (.int 0)) (z01 (eOp zl9 (z04 0) (eC (.int 1))) z0e))))))
  (zij dSetN 2 [false,false,false,false,false,false,true,true] (zbz (z01 (z04 6) (z01 (z04 7) z0e))) (eC (.bl true)))
  sNx)
def z20:DS->SR:=
 (zee false [false,false,false,true,true,true] (iL (z64 (z01 (zbz (z01 (z04 3) (z01 (z04 4) z0e))) (z01 (zbz (z01 (z04 4) (z01 (z04 5) z0e))) (z01 (zbz (z01 (z04 3) (z01 (z04 5) z0e))) z0e))))) (.t [6,7]) z1f)
def z8b:DS->SR:=
 (z1h (z30 true 2 [] zpf)
  (z1h (zee false [false,true] (iL (z04 1)) (.t [3,4,5]) z20)
  (z6e [true,false,true] (zbz (z01 (z04 0) (z01 (eCB z87 (z01 (eCB z1s (z01 (eCB zb0 (z01 (z04 2) z0e)) z0e)) z0e)) z0e))))))
def z2f:List D->R D:=mOf false 2 6 z8b
def z8c:DS->SR:=
 (z1h (z30 false 2 [true] (eOp zak (eOp zqp (z04 0) (eC (.int 10))) (eOp zwd (eC (.int 10)) (eC (.int 30)))))
  (z1h (z30 true 3 [false,true,true] (z64 (z01 (eUn znt (eC (.int 1))) (z01 (z04 1) (z01 (eOp zl9 (eUn znt (eC (.int 1))) (z04 2)) (z01 (eOp z6y (z04 1) (z04 2)) (z01 (eC (.bl true)) (z01 (eC (.bl false)) (z01 (eC .non) (z01 (eC (.str "0")) (z01 (zbz (z01 (eC (.int 0)) z0e)) (z01 (z64 (z01 (eC (.int 0)) z0e)) z0e))))))))))))
  (z6e [true,false,false,true] (eOp dIx (z04 3) (eOp zak (z04 0) (eC (.int 10)))))))
def z2g:List D->R D:=mOf false 2 2 z8c
def z5g:DS->SR:=
 (z1h (sIf (bOr (z2i zbg (eUn (z9g z4w) (z04 0))) (bOr (z2i zbg (eUn (z9g z6j) (z04 0))) (bOr (z2i zbg (eUn (z9g z3l) (z04 0))) (z2i zbg (eUn (z9g z6i) (z04 0))))))
   (z6e [] (eC (.bl true)))
   sNx)
  (z1h (sIf (bOr (z2i zbg (eUn (z9g z4y) (z04 0))) (bOr (z2i zbg (eUn (z9g z3m) (z04 0))) (z2i zbg (eUn (z9g z4x) (z04 0)))))
   (z6e [] (eC (.bl true)))
   sNx)
  (z6e [true] (eOr (eUn (z9g z50) (z04 0)) (eOr (eUn (z9g z2r) (z04 0)) (eUn (z9g z4z) (z04 0)))))))
def z0g:List D->R D:=mOf false 1 0 z5g
def z45:DS->SR:=
 (z1h (sIf (z2i asB (eOp zsa (eOp zak (z04 0) (eC (.int 4))) (eC (.int 2))))
   (z6e [true] (eOp z6y (eC (.int 9)) (eOp zak (z04 0) (eC (.int 4)))))
   sNx)
  (z6e [true] (eOp zak (eOp zqp (z04 0) (eC (.int 4))) (eC (.int 58)))))
def z14:List D->R D:=mOf false 1 0 z45
def z1a:DS->SR:=
 (sIf (bOr (zqm (z2i zbg (z0k z13 (z01 (z04 1) z0e)))) (zqm (zs2 (eC (.int 0)) (zag dLe (z04 1) (zaf zsa (z04 0))))))
  (z5o "NoCorner" (z01 (eC (.str "no corner of the floor")) z0e))
  sNx)
def z0c:List D->R D:=mOf false 2 0 z1a
def z1b:DE->R Bool:=
 (z2i asB (eOp zsa (eOp dIx (z04 2) (eUn znt (eC (.int 1)))) (eOp dIx (z04 0) (eC (.int 1)))))
def z1c:DS->SR:=
 (znq "list" zlf 2 [true,true,true] (z01 (z0k z0m (z01 (eOp dIx (z04 2) (eUn znt (eC (.int 1)))) (z01 (z04 0) (z01 (z04 1) z0e)))) z0e))
def z5v:DS->SR:=
 (z1h (z30 true 2 [true] (z64 (z01 (eOp dIx (z04 0) (eC (.int 0))) z0e)))
  (z1h (zah 1000 z1b z1c)
  (z6e [false,false,true] (eCB z87 (z01 (z04 2) z0e)))))
def z1g:List D->R D:=mOf false 2 1 z5v
def zb6:DE->R D:=
 (z0k z1g (z01 (z04 0) (z01 (z04 1) z0e)))
def zi1:DS->SR:=
 (z1h (z30 true 2 [true,true] (eOp zj7 (z64 (z01 (zbz (z01 (eC (.int 0)) (z01 (eOp zl9 (z04 0) (eC (.int 1))) z0e))) z0e)) (eCB zeh (z01 (z04 1) z0e))))
  (z6e [false,true,true] (eCB z1s (z01 (z4g (iL (z04 2)) b1 [1] zle zb6) z0e))))
def z7f:List D->R D:=mOf true 2 1 zi1
def z7g:DS->SR:=
 (z6e [true] (z0k z7f (z01 (eOp dIx (z04 0) (eC (.int 0))) (z01 (eOp dIx (z04 0) (eC (.int 1))) z0e))))
def z15:List D->R D:=mOf true 1 0 z7g
def z5w:DE->R Bool:=
 (zl5 (z2i asB (eOp dNe (z04 0) (z04 1))) (z2i asB (eOp dNe (z04 0) (z04 2))))
def z5x:DE->R D:=
 (z04 0)
def z37:DS->SR:=
 (z30 true 3 [false,true,true,true,true] (z0k z1d (z01 (z04 3) (z01 (z4g (iL (z04 4)) b1 [1,2] z5w z5x) z0e))))
def z1m:DS->SR:=
 (z1h (z22 (z0k z0c (z01 (eOp dIx (z04 0) (eC (.int 0))) (z01 (z04 1) z0e))))
  (z1h (z22 (z0k z0c (z01 (eOp dIx (z04 0) (eC (.int 0))) (z01 (z04 2) z0e))))
  (z1h (sIf (z2i asB (eOp zqq (eOp dIx (z04 0) (eC (.int 0))) (eC (.int 12))))
   (z5o "TooMany" (z01 (eC (.str "sharings are told of at most twelve corners")) z0e))
   sNx)
  (z1h (sIf (z2i asB (eOp dEq (z04 1) (z04 2)))
   (z6e [] (z64 z0e))
   sNx)
  (z1h (z30 true 3 [] (z64 (z01 (zbz z0e) z0e)))
  (z1h (zee false [true] (iL (z0k z15 (z01 (z04 0) z0e))) (.n 4) z37)
  (z7s 3)))))))
def z0a:List D->R D:=mOf true 3 2 z1m
def z5y:DE->R Bool:=
 (z2i asB (eOp (dIn true) (z04 1) (z04 0)))
def z5z:DE->R D:=
 (z0k z10 (z01 (z04 2) (z01 (z04 1) (z01 (z04 0) z0e))))
def z38:DE->R D:=
 (eOp zak (eOp zl9 (eOp z93 (z04 0) (eC (.int 0))) (eOp z93 (z04 0) (eC (.int 2)))) (z04 1))
def z5h:DS->SR:=
 (z1h (z30 false 2 [true] (eOp dIx (z04 0) (eC (.int 0))))
  (z1h (z30 true 3 [true,true,true] (z4g (iL (z0k z15 (z01 (z04 0) z0e))) b1 [1,2] z5y z5z))
  (z6e [false,false,true,true] (z5s (z04 3) [2] z38))))
def z2h:List D->R D:=mOf true 2 2 z5h
def z3n:DS->SR:=
 (zij zez 2 [false,false,true,true,true,true] (z04 4) (eOp z6y (eOp dIx (z04 2) (z04 3)) (eOp dIx (z04 2) (z04 5))))
def z6k:DS->SR:=
 (z1h (z22 (z0k z0c (z01 (eOp dIx (z04 0) (eC (.int 0))) (z01 (z04 1) z0e))))
  (z1h (z30 true 2 [true] (eOp zqr (z64 (z01 (eC (.int 1)) z0e)) (eOp dIx (z04 0) (eC (.int 0)))))
  (z1h (zij zez 2 [false,true] (z04 1) (eC (.int 0)))
  (z1h (zee false [true,true] (iL (z0k z2h (z01 (z04 0) (z01 (z04 1) z0e)))) (.t [3,4,5]) z3n)
  (z7s 2)))))
def z1l:List D->R D:=mOf true 2 4 z6k
def z24:DS->SR:=
 (z1h (z30 true 4 [] (z64 z0e))
  (z1h (zob (sIf (fun ρ=>((z2i asB (eOp dEq (z04 0) (eC (.int 0)))) ρ).noE) (z22 (zbh knX z1l (z01 (z04 1) (z01 (z04 2) z0e)))) (sIf (fun ρ=>((z2i asB (eOp dEq (z04 0) (eC (.int 1)))) ρ).noE) (z22 (zbh knX z0a (z01 (z04 1) (z01 (z04 2) (z01 (z04 3) z0e))))) (sIf (fun ρ=>((z2i asB (eOp dEq (z04 0) (eC (.int 2)))) ρ).noE) (z22 (zbh knX z0a (z01 (z04 1) (z01 (z04 3) (z01 (z04 2) z0e))))) (z22 (zbh knX z0a (z01 (z04 1) (z01 (z04 2) (z01 (z04 2) z0e))))))))
   (hAs z0y 5 (z30 true 4 [false,false,false,false,false,true] (z64 (z01 (eUn (z9g z0z) (z04 5)) (z01 (eUn (z9g z1t) (z04 5)) (z01 (eUn (z9g z2c) (z04 5)) (z01 (z0k z0g (z01 (z04 5) z0e)) z0e)))))) zy8))
  (z7s 4)))
def z07:List D->R D:=mOf true 4 2 z24
def zch:DS->SR:=
 (sIf (z2i asB (eOp dNe (z0k z07 (z01 (z04 7) (z01 (z04 3) (z01 (z04 4) (z01 (z04 5) z0e))))) (z64 (z01 (eC (.bl true)) (z01 (eC (.bl true)) (z01 (eC (.bl false)) (z01 (eC (.bl false)) z0e)))))))
  (z6e [] (eC (.bl false)))
  sNx)
def zq2:DS->SR:=
 (z1h (z30 true 1 [true] (z0k z1e (z01 (z0k z12 (z01 (z0k z14 (z01 (z0k z0n (z01 (z04 0) (z01 (eC (.int 0)) z0e))) z0e)) (z01 (eSl dSl (z04 0) (oSo (eC (.int 3))) oNo) z0e))) z0e)))
  (z1h (z30 false 2 [false,true] (eOp z6y (eCB zeg (z01 (z04 1) z0e)) (eC (.int 2))))
  (z1h (z30 false 3 [false,true,true] (z0k z2f (z01 (z04 2) (z01 (z04 1) z0e))))
  (z1h (z30 false 4 [true,false,true] (z0k z2g (z01 (z0k z0n (z01 (z04 0) (z01 (eC (.int 1)) z0e))) (z01 (z04 2) z0e))))
  (z1h (z30 false 5 [true,false,true] (eOp zak (z0k z0n (z01 (z04 0) (z01 (eC (.int 2)) z0e))) (z04 2)))
  (z1h (z30 false 6 [true,false,true] (eOp zak (eOp zqp (z0k z0n (z01 (z04 0) (z01 (eC (.int 2)) z0e))) (z04 2)) (z04 2)))
  (z1h (zee true [] (zsr (z01 (eC (.int 4)) z0e)) (.n 7) zch)
  (z1h (z30 true 8 [] (z64 z0e))
  (z1h (sIf (z2i asB (eOp zqq (z04 2) (eC (.int 12))))
   (z30 true 8 [] (z64 (z01 (eC (.bl true)) (z01 (eC (.bl false)) (z01 (eC (.bl true)) (z01 (eC (.bl false)) z0e))))))
   sNx)
  (z1h (sIf (z2i asB (eOp dNe (z0k z07 (z01 (eC (.int 1)) (z01 (z04 3) (z01 (z04 5) (z01 (z04 5) z0e))))) (z04 8)))
   (z6e [] (eC (.bl false)))
   sNx)
  (z6e [false,false,false,true,false,true,true,false,true] (zqn (eOp dEq (z0k z07 (z01 (eC (.int 1)) (z01 (z04 3) (z01 (z04 6) (z01 (z04 5) z0e))))) (z04 8)) (eOp dEq (z0k z07 (z01 (eC (.int 0)) (z01 (z04 3) (z01 (z04 5) (z01 (z04 5) z0e))))) (z64 z0e))))))))))))))
def zew:List D->R D:=mOf false 1 8 zq2
def top (i:Nat):Stmt:=PySem.Challenge.pw_friezeyard_k44_no_sharing_there.main.body.getD i (.Pass ⟨0,0,0,0⟩)
abbrev z5i:Stmt:=top 15
abbrev z25:Stmt:=top 17
abbrev zci:Stmt:=top 19
abbrev z39:Stmt:=top 20
abbrev z1u:Stmt:=top 21
abbrev z46:Stmt:=top 22
abbrev z5j:Stmt:=top 24
abbrev z3a:Stmt:=top 25
abbrev z9t:Stmt:=top 27
abbrev z1n:Stmt:=top 28
abbrev z0o:Stmt:=top 29
abbrev z47:Stmt:=top 31
abbrev z2t:Stmt:=top 32
abbrev z3b:Stmt:=top 33
abbrev z5k:Stmt:=top 34
abbrev z5l:Stmt:=top 35
abbrev z16:Stmt:=top 36
abbrev z26:Stmt:=top 37
abbrev z48:Stmt:=top 38
abbrev zq3:Stmt:=top 39
structure Txt (mg:Str->Option Value):Prop where
 ValueError:mg "ValueError"=none
 bool:mg "bool"=none
 enumerate:mg "enumerate"=none
 int:mg "int"=none
 isinstance:mg "isinstance"=none
 len:mg "len"=none
 list:mg "list"=none
 «max»:mg "max"=none
 range:mg "range"=none
 sorted:mg "sorted"=none
 tuple:mg "tuple"=none
structure Exs (K:Frag) (mg:Str->Option Value) (u0 u1 u2 u3 u4 u5 u6 u7 u8 u9 u10 u11 u12:Addr):Prop where
 a_FloorError:mg (Str.ofString "FloorError")=some (.ref u0)
 a_NoBand:mg (Str.ofString "NoBand")=some (.ref u1)
 a_NoCorner:mg (Str.ofString "NoCorner")=some (.ref u2)
 a_NoDeed:mg (Str.ofString "NoDeed")=some (.ref u3)
 a_NoEar:mg (Str.ofString "NoEar")=some (.ref u4)
 a_NoFloor:mg (Str.ofString "NoFloor")=some (.ref u5)
 a_NoLine:mg (Str.ofString "NoLine")=some (.ref u6)
 a_NoName:mg (Str.ofString "NoName")=some (.ref u7)
 a_NoPlace:mg (Str.ofString "NoPlace")=some (.ref u8)
 a_NoRow:mg (Str.ofString "NoRow")=some (.ref u9)
 a_NoText:mg (Str.ofString "NoText")=some (.ref u10)
 a_NotAlike:mg (Str.ofString "NotAlike")=some (.ref u11)
 a_TooMany:mg (Str.ofString "TooMany")=some (.ref u12)
 n_FloorError:nsIn K mainGlobals (Str.ofString "FloorError")=some (some (.ref u0))
 n_NoCorner:nsIn K mainGlobals (Str.ofString "NoCorner")=some (some (.ref u2))
 n_TooMany:nsIn K mainGlobals (Str.ofString "TooMany")=some (some (.ref u12))
 q_FloorError:PySem.W.excIn K u0 [.type "ValueError",.type "Exception",.type "BaseException",.type "object"] "ValueError.__new__"=true
 q_NoCorner:PySem.W.excIn K u2 [.type "ValueError",.type "Exception",.type "BaseException",.type "object"] "ValueError.__new__"=true
 q_TooMany:PySem.W.excIn K u12 [.type "ValueError",.type "Exception",.type "BaseException",.type "object"] "ValueError.__new__"=true
 fo_NoCorner:mroIn K u2 (.type "object")=some true
 fb_NoCorner:mroIn K u2 (.type "BaseException")=some true
 fc_NoCorner:PySem.W.findIn K (.ref u2) "__class__"=some (some (.builtin "object.__class__"))
 fg_NoCorner:PySem.W.findIn K (.ref u2) "__getattribute__"=some (some (.builtin "BaseException.__getattribute__"))
 ft_NoCorner:PySem.W.findIn K (.ref u2) "__getattr__"=some none
 m_NoCorner_FloorError:mroIn K u2 (.ref u0)=some true
 k_NoCorner_NoEar:kitOne K (.ref u2) (.ref u4)=some false
 k_NoCorner_NoFloor:kitOne K (.ref u2) (.ref u5)=some false
 k_NoCorner_NoRow:kitOne K (.ref u2) (.ref u9)=some false
 k_NoCorner_NoLine:kitOne K (.ref u2) (.ref u6)=some false
 k_NoCorner_NoDeed:kitOne K (.ref u2) (.ref u3)=some false
 k_NoCorner_NoPlace:kitOne K (.ref u2) (.ref u8)=some false
 k_NoCorner_NoBand:kitOne K (.ref u2) (.ref u1)=some false
 k_NoCorner_NoText:kitOne K (.ref u2) (.ref u10)=some false
 k_NoCorner_NotAlike:kitOne K (.ref u2) (.ref u11)=some false
 k_NoCorner_NoName:kitOne K (.ref u2) (.ref u7)=some false
 k_NoCorner_TooMany:kitOne K (.ref u2) (.ref u12)=some false
 k_NoCorner_NoCorner:kitOne K (.ref u2) (.ref u2)=some true
 k_NoCorner_ValueError:kitOne K (.ref u2) (.type "ValueError")=some true
 fo_TooMany:mroIn K u12 (.type "object")=some true
 fb_TooMany:mroIn K u12 (.type "BaseException")=some true
 fc_TooMany:PySem.W.findIn K (.ref u12) "__class__"=some (some (.builtin "object.__class__"))
 fg_TooMany:PySem.W.findIn K (.ref u12) "__getattribute__"=some (some (.builtin "BaseException.__getattribute__"))
 ft_TooMany:PySem.W.findIn K (.ref u12) "__getattr__"=some none
 m_TooMany_FloorError:mroIn K u12 (.ref u0)=some true
 k_TooMany_NoEar:kitOne K (.ref u12) (.ref u4)=some false
 k_TooMany_NoFloor:kitOne K (.ref u12) (.ref u5)=some false
 k_TooMany_NoRow:kitOne K (.ref u12) (.ref u9)=some false
 k_TooMany_NoLine:kitOne K (.ref u12) (.ref u6)=some false
 k_TooMany_NoDeed:kitOne K (.ref u12) (.ref u3)=some false
 k_TooMany_NoPlace:kitOne K (.ref u12) (.ref u8)=some false
 k_TooMany_NoBand:kitOne K (.ref u12) (.ref u1)=some false
 k_TooMany_NoText:kitOne K (.ref u12) (.ref u10)=some false
 k_TooMany_NotAlike:kitOne K (.ref u12) (.ref u11)=some false
 k_TooMany_NoName:kitOne K (.ref u12) (.ref u7)=some false
 k_TooMany_TooMany:kitOne K (.ref u12) (.ref u12)=some true
 k_TooMany_NoCorner:kitOne K (.ref u12) (.ref u2)=some false
 k_TooMany_ValueError:kitOne K (.ref u12) (.type "ValueError")=some true
section
variable {K:Frag} {mg:Str->Option Value} {u0 u1 u2 u3 u4 u5 u6 u7 u8 u9 u10 u11 u12:Addr}
theorem Exs.kn (Z:Exs K mg u0 u1 u2 u3 u4 u5 u6 u7 u8 u9 u10 u11 u12):∀c,knX c=true->∃C,mg (Str.ofString c)=some (.ref C):=by
 intro c h
 simp only [knX,Bool.or_eq_true,beq_iff_eq] at h
 rcases h with h | h
 . subst h;exact ⟨_,Z.a_NoCorner⟩
 . subst h;exact ⟨_,Z.a_TooMany⟩
theorem Exs.t_FloorError (Z:Exs K mg u0 u1 u2 u3 u4 u5 u6 u7 u8 u9 u10 u11 u12):Tbl K "FloorError" u0 [.type "ValueError",.type "Exception",.type "BaseException",.type "object"] "ValueError.__new__" z0y:=⟨Z.n_FloorError,.inl Z.q_FloorError,by
 intro c b h
 simp only [z0y] at h
 by_cases e:c="NoCorner"
 . rw [if_pos e] at h;cases h;subst e;exact ⟨_,Z.n_NoCorner,.inl Z.q_NoCorner,Z.m_NoCorner_FloorError⟩
 rw [if_neg e] at h
 by_cases e:c="TooMany"
 . rw [if_pos e] at h;cases h;subst e;exact ⟨_,Z.n_TooMany,.inl Z.q_TooMany,Z.m_TooMany_FloorError⟩
 rw [if_neg e] at h
 cases h⟩
theorem Exs.b_NoEar (Z:Exs K mg u0 u1 u2 u3 u4 u5 u6 u7 u8 u9 u10 u11 u12):Bel K (.ref u4) z6i:=⟨by
 intro c b h
 simp only [z6i] at h
 by_cases e:c="NoCorner"
 . rw [if_pos e] at h;cases h;subst e;exact ⟨_,Z.n_NoCorner,⟨Z.fo_NoCorner,Z.fb_NoCorner,Z.fc_NoCorner,Z.fg_NoCorner,Z.ft_NoCorner⟩,Z.k_NoCorner_NoEar⟩
 rw [if_neg e] at h
 by_cases e:c="TooMany"
 . rw [if_pos e] at h;cases h;subst e;exact ⟨_,Z.n_TooMany,⟨Z.fo_TooMany,Z.fb_TooMany,Z.fc_TooMany,Z.fg_TooMany,Z.ft_TooMany⟩,Z.k_TooMany_NoEar⟩
 rw [if_neg e] at h
 cases h⟩
theorem Exs.b_NoFloor (Z:Exs K mg u0 u1 u2 u3 u4 u5 u6 u7 u8 u9 u10 u11 u12):Bel K (.ref u5) z3l:=⟨by
 intro c b h
 simp only [z3l] at h
 by_cases e:c="NoCorner"
 . rw [if_pos e] at h;cases h;subst e;exact ⟨_,Z.n_NoCorner,⟨Z.fo_NoCorner,Z.fb_NoCorner,Z.fc_NoCorner,Z.fg_NoCorner,Z.ft_NoCorner⟩,Z.k_NoCorner_NoFloor⟩
 rw [if_neg e] at h
 by_cases e:c="TooMany"
 . rw [if_pos e] at h;cases h;subst e;exact ⟨_,Z.n_TooMany,⟨Z.fo_TooMany,Z.fb_TooMany,Z.fc_TooMany,Z.fg_TooMany,Z.ft_TooMany⟩,Z.k_TooMany_NoFloor⟩
 rw [if_neg e] at h
 cases h⟩
theorem Exs.b_NoRow (Z:Exs K mg u0 u1 u2 u3 u4 u5 u6 u7 u8 u9 u10 u11 u12):Bel K (.ref u9) z6j:=⟨by
 intro c b h
 simp only [z6j] at h
 by_cases e:c="NoCorner"
 . rw [if_pos e] at h;cases h;subst e;exact ⟨_,Z.n_NoCorner,⟨Z.fo_NoCorner,Z.fb_NoCorner,Z.fc_NoCorner,Z.fg_NoCorner,Z.ft_NoCorner⟩,Z.k_NoCorner_NoRow⟩
 rw [if_neg e] at h
 by_cases e:c="TooMany"
 . rw [if_pos e] at h;cases h;subst e;exact ⟨_,Z.n_TooMany,⟨Z.fo_TooMany,Z.fb_TooMany,Z.fc_TooMany,Z.fg_TooMany,Z.ft_TooMany⟩,Z.k_TooMany_NoRow⟩
 rw [if_neg e] at h
 cases h⟩
theorem Exs.b_NoLine (Z:Exs K mg u0 u1 u2 u3 u4 u5 u6 u7 u8 u9 u10 u11 u12):Bel K (.ref u6) z4w:=⟨by
 intro c b h
 simp only [z4w] at h
 by_cases e:c="NoCorner"
 . rw [if_pos e] at h;cases h;subst e;exact ⟨_,Z.n_NoCorner,⟨Z.fo_NoCorner,Z.fb_NoCorner,Z.fc_NoCorner,Z.fg_NoCorner,Z.ft_NoCorner⟩,Z.k_NoCorner_NoLine⟩
 rw [if_neg e] at h
 by_cases e:c="TooMany"
 . rw [if_pos e] at h;cases h;subst e;exact ⟨_,Z.n_TooMany,⟨Z.fo_TooMany,Z.fb_TooMany,Z.fc_TooMany,Z.fg_TooMany,Z.ft_TooMany⟩,Z.k_TooMany_NoLine⟩
 rw [if_neg e] at h
 cases h⟩
theorem Exs.b_NoDeed (Z:Exs K mg u0 u1 u2 u3 u4 u5 u6 u7 u8 u9 u10 u11 u12):Bel K (.ref u3) z4x:=⟨by
 intro c b h
 simp only [z4x] at h
 by_cases e:c="NoCorner"
 . rw [if_pos e] at h;cases h;subst e;exact ⟨_,Z.n_NoCorner,⟨Z.fo_NoCorner,Z.fb_NoCorner,Z.fc_NoCorner,Z.fg_NoCorner,Z.ft_NoCorner⟩,Z.k_NoCorner_NoDeed⟩
 rw [if_neg e] at h
 by_cases e:c="TooMany"
 . rw [if_pos e] at h;cases h;subst e;exact ⟨_,Z.n_TooMany,⟨Z.fo_TooMany,Z.fb_TooMany,Z.fc_TooMany,Z.fg_TooMany,Z.ft_TooMany⟩,Z.k_TooMany_NoDeed⟩
 rw [if_neg e] at h
 cases h⟩
theorem Exs.b_NoPlace (Z:Exs K mg u0 u1 u2 u3 u4 u5 u6 u7 u8 u9 u10 u11 u12):Bel K (.ref u8) z3m:=⟨by
 intro c b h
 simp only [z3m] at h
 by_cases e:c="NoCorner"
 . rw [if_pos e] at h;cases h;subst e;exact ⟨_,Z.n_NoCorner,⟨Z.fo_NoCorner,Z.fb_NoCorner,Z.fc_NoCorner,Z.fg_NoCorner,Z.ft_NoCorner⟩,Z.k_NoCorner_NoPlace⟩
 rw [if_neg e] at h
 by_cases e:c="TooMany"
 . rw [if_pos e] at h;cases h;subst e;exact ⟨_,Z.n_TooMany,⟨Z.fo_TooMany,Z.fb_TooMany,Z.fc_TooMany,Z.fg_TooMany,Z.ft_TooMany⟩,Z.k_TooMany_NoPlace⟩
 rw [if_neg e] at h
 cases h⟩
theorem Exs.b_NoBand (Z:Exs K mg u0 u1 u2 u3 u4 u5 u6 u7 u8 u9 u10 u11 u12):Bel K (.ref u1) z4y:=⟨by
 intro c b h
 simp only [z4y] at h
 by_cases e:c="NoCorner"
 . rw [if_pos e] at h;cases h;subst e;exact ⟨_,Z.n_NoCorner,⟨Z.fo_NoCorner,Z.fb_NoCorner,Z.fc_NoCorner,Z.fg_NoCorner,Z.ft_NoCorner⟩,Z.k_NoCorner_NoBand⟩
 rw [if_neg e] at h
 by_cases e:c="TooMany"
 . rw [if_pos e] at h;cases h;subst e;exact ⟨_,Z.n_TooMany,⟨Z.fo_TooMany,Z.fb_TooMany,Z.fc_TooMany,Z.fg_TooMany,Z.ft_TooMany⟩,Z.k_TooMany_NoBand⟩
 rw [if_neg e] at h
 cases h⟩
theorem Exs.b_NoText (Z:Exs K mg u0 u1 u2 u3 u4 u5 u6 u7 u8 u9 u10 u11 u12):Bel K (.ref u10) z4z:=⟨by
 intro c b h
 simp only [z4z] at h
 by_cases e:c="NoCorner"
 . rw [if_pos e] at h;cases h;subst e;exact ⟨_,Z.n_NoCorner,⟨Z.fo_NoCorner,Z.fb_NoCorner,Z.fc_NoCorner,Z.fg_NoCorner,Z.ft_NoCorner⟩,Z.k_NoCorner_NoText⟩
 rw [if_neg e] at h
 by_cases e:c="TooMany"
 . rw [if_pos e] at h;cases h;subst e;exact ⟨_,Z.n_TooMany,⟨Z.fo_TooMany,Z.fb_TooMany,Z.fc_TooMany,Z.fg_TooMany,Z.ft_TooMany⟩,Z.k_TooMany_NoText⟩
 rw [if_neg e] at h
 cases h⟩
theorem Exs.b_NotAlike (Z:Exs K mg u0 u1 u2 u3 u4 u5 u6 u7 u8 u9 u10 u11 u12):Bel K (.ref u11) z2r:=⟨by
 intro c b h
 simp only [z2r] at h
 by_cases e:c="NoCorner"
 . rw [if_pos e] at h;cases h;subst e;exact ⟨_,Z.n_NoCorner,⟨Z.fo_NoCorner,Z.fb_NoCorner,Z.fc_NoCorner,Z.fg_NoCorner,Z.ft_NoCorner⟩,Z.k_NoCorner_NotAlike⟩
 rw [if_neg e] at h
 by_cases e:c="TooMany"
 . rw [if_pos e] at h;cases h;subst e;exact ⟨_,Z.n_TooMany,⟨Z.fo_TooMany,Z.fb_TooMany,Z.fc_TooMany,Z.fg_TooMany,Z.ft_TooMany⟩,Z.k_TooMany_NotAlike⟩
 rw [if_neg e] at h
 cases h⟩
theorem Exs.b_NoName (Z:Exs K mg u0 u1 u2 u3 u4 u5 u6 u7 u8 u9 u10 u11 u12):Bel K (.ref u7) z50:=⟨by
 intro c b h
 simp only [z50] at h
 by_cases e:c="NoCorner"
 . rw [if_pos e] at h;cases h;subst e;exact ⟨_,Z.n_NoCorner,⟨Z.fo_NoCorner,Z.fb_NoCorner,Z.fc_NoCorner,Z.fg_NoCorner,Z.ft_NoCorner⟩,Z.k_NoCorner_NoName⟩
 rw [if_neg e] at h
 by_cases e:c="TooMany"
 . rw [if_pos e] at h;cases h;subst e;exact ⟨_,Z.n_TooMany,⟨Z.fo_TooMany,Z.fb_TooMany,Z.fc_TooMany,Z.fg_TooMany,Z.ft_TooMany⟩,Z.k_TooMany_NoName⟩
 rw [if_neg e] at h
 cases h⟩
theorem Exs.b_TooMany (Z:Exs K mg u0 u1 u2 u3 u4 u5 u6 u7 u8 u9 u10 u11 u12):Bel K (.ref u12) z2c:=⟨by
 intro c b h
 simp only [z2c] at h
 by_cases e:c="NoCorner"
 . rw [if_pos e] at h;cases h;subst e;exact ⟨_,Z.n_NoCorner,⟨Z.fo_NoCorner,Z.fb_NoCorner,Z.fc_NoCorner,Z.fg_NoCorner,Z.ft_NoCorner⟩,Z.k_NoCorner_TooMany⟩
 rw [if_neg e] at h
 by_cases e:c="TooMany"
 . rw [if_pos e] at h;cases h;subst e;exact ⟨_,Z.n_TooMany,⟨Z.fo_TooMany,Z.fb_TooMany,Z.fc_TooMany,Z.fg_TooMany,Z.ft_TooMany⟩,Z.k_TooMany_TooMany⟩
 rw [if_neg e] at h
 cases h⟩
theorem Exs.b_NoCorner (Z:Exs K mg u0 u1 u2 u3 u4 u5 u6 u7 u8 u9 u10 u11 u12):Bel K (.ref u2) z1t:=⟨by
 intro c b h
 simp only [z1t] at h
 by_cases e:c="NoCorner"
 . rw [if_pos e] at h;cases h;subst e;exact ⟨_,Z.n_NoCorner,⟨Z.fo_NoCorner,Z.fb_NoCorner,Z.fc_NoCorner,Z.fg_NoCorner,Z.ft_NoCorner⟩,Z.k_NoCorner_NoCorner⟩
 rw [if_neg e] at h
 by_cases e:c="TooMany"
 . rw [if_pos e] at h;cases h;subst e;exact ⟨_,Z.n_TooMany,⟨Z.fo_TooMany,Z.fb_TooMany,Z.fc_TooMany,Z.fg_TooMany,Z.ft_TooMany⟩,Z.k_TooMany_NoCorner⟩
 rw [if_neg e] at h
 cases h⟩
theorem Exs.b_ValueError (Z:Exs K mg u0 u1 u2 u3 u4 u5 u6 u7 u8 u9 u10 u11 u12):Bel K (.type "ValueError") z0z:=⟨by
 intro c b h
 simp only [z0z] at h
 by_cases e:c="NoCorner"
 . rw [if_pos e] at h;cases h;subst e;exact ⟨_,Z.n_NoCorner,⟨Z.fo_NoCorner,Z.fb_NoCorner,Z.fc_NoCorner,Z.fg_NoCorner,Z.ft_NoCorner⟩,Z.k_NoCorner_ValueError⟩
 rw [if_neg e] at h
 by_cases e:c="TooMany"
 . rw [if_pos e] at h;cases h;subst e;exact ⟨_,Z.n_TooMany,⟨Z.fo_TooMany,Z.fb_TooMany,Z.fc_TooMany,Z.fg_TooMany,Z.ft_TooMany⟩,Z.k_TooMany_ValueError⟩
 rw [if_neg e] at h
 cases h⟩
end
theorem zcj:FnScope ["thing"] ["thing"] (z03 z5i):=fsc
theorem z7h:FnScope ["n","thing"] ["n","thing"] (z03 z25):=fsc
theorem sc_rooms:FnScope ["n","lines","tops"] ["n","lines"] (z03 zci):=fsc
theorem sc_room_under:FnScope ["top","lines","room"] ["top","lines"] (z03 z39):=fsc
theorem sc_corner_behind:FnScope ["corner","top","lines","ends"] ["corner","top","lines"] (z03 z1u):=fsc
theorem zb7:FnScope ["cut"] ["cut"] (z03 z46):=fsc
theorem sc_sharings:FnScope ["cut","i","j","begun","corners"] ["cut","i","j"] (z03 z5j):=fsc
theorem sc_carried_on:FnScope ["begun","corners","found","given"] ["begun","corners"] (z03 z3a):=fsc
theorem sc_spread:FnScope ["cut","corner","found","x","y","z"] ["cut","corner"] (z03 z9t):=fsc
theorem sc_met_from:FnScope ["cut","corner","n","met"] ["cut","corner"] (z03 z1n):=fsc
theorem z7w:FnScope ["n","corner","corners"] ["n","corner","corners"] (z03 z0o):=fsc
theorem zb8:FnScope ["_law_script","_law_k"] ["_law_script","_law_k"] (z03 z47):=fsc
theorem sc__law_places:FnScope ["_law_many_here","_law_cells","_law_found","_law_k","_law_one"] ["_law_many_here","_law_cells"] (z03 z2t):=fsc
theorem sc__law_rooms:FnScope ["_law_spots","_law_order","_law_threes","_law_spot","_law_at","_law_stands","_law_k","_law_name"] ["_law_spots"] (z03 z3b):=fsc
theorem sc__law_cut:FnScope ["_law_n","_law_threes","_law_lines","_law_a","_law_b","_law_c","_law_one","_law_other"] ["_law_n","_law_threes"] (z03 z5k):=fsc
theorem sc__law_bad:FnScope ["_law_cell","_law_n","_law_far","_law_some"] ["_law_cell","_law_n"] (z03 z5l):=fsc
theorem z52:FnScope ["_law_error"] ["_law_error"] (z03 z16):=fsc
theorem sc__law_refusal:FnScope ["_law_kind","_law_cut_here","_law_bad_here","_law_good","_law_told","e"] ["_law_kind","_law_cut_here","_law_bad_here","_law_good"] (z03 z26):=fsc
theorem zb9:FnScope ["_law_cell"] ["_law_cell"] (z03 z48):=fsc
theorem sc_law:FnScope ["_law_script","_law_threes","_law_n","_law_cut_here","_law_bad_here","_law_good","_law_other","_law_kind","_law_due"] ["_law_script"] (z03 zq3):=fsc
abbrev z8d (P:Program) (w:World) (K:Frag) (mg:Str->Option Value) (base:Heap):Prop:=z68 P w K mg base "is_whole" ["thing"] 1 (spD K mg false z13 1)
abbrev z3c (P:Program) (w:World) (K:Frag) (mg:Str->Option Value) (base:Heap):Prop:=z68 P w K mg base "corner_behind" ["corner","top","lines"] 1 (spD K mg false z0m 3)
abbrev z60 (P:Program) (w:World) (K:Frag) (mg:Str->Option Value) (base:Heap):Prop:=z68 P w K mg base "carried_on" ["begun","corners"] 1 (spD K mg true z1d 2)
abbrev z53 (P:Program) (w:World) (K:Frag) (mg:Str->Option Value) (base:Heap) (M:List Mkr):Prop:=z68 P w K mg base "going_round" ["n","corner","corners"] 1 (spT (mkT M) (spD K mg true z10 3))
abbrev z7i (P:Program) (w:World) (K:Frag) (mg:Str->Option Value) (base:Heap):Prop:=z68 P w K mg base "_law_pick" ["_law_script","_law_k"] 1 (spD K mg false z0n 2)
abbrev z54 (P:Program) (w:World) (K:Frag) (mg:Str->Option Value) (base:Heap):Prop:=z68 P w K mg base "_law_places" ["_law_many_here","_law_cells"] 1 (spD K mg true z12 2)
abbrev z61 (P:Program) (w:World) (K:Frag) (mg:Str->Option Value) (base:Heap):Prop:=z68 P w K mg base "_law_rooms" ["_law_spots"] 1 (spD K mg true z1e 1)
abbrev z8e (P:Program) (w:World) (K:Frag) (mg:Str->Option Value) (base:Heap):Prop:=z68 P w K mg base "_law_cut" ["_law_n","_law_threes"] 1 (spD K mg false z2f 2)
abbrev z8f (P:Program) (w:World) (K:Frag) (mg:Str->Option Value) (base:Heap):Prop:=z68 P w K mg base "_law_bad" ["_law_cell","_law_n"] 1 (spD K mg false z2g 2)
abbrev z7j (P:Program) (w:World) (K:Frag) (mg:Str->Option Value) (base:Heap):Prop:=z68 P w K mg base "_law_many" ["_law_cell"] 1 (spD K mg false z14 1)
abbrev z27 (P:Program) (w:World) (K:Frag) (mg:Str->Option Value) (base:Heap):Prop:=z68 P w K mg base "check_corner" ["n","thing"] 2 (spD K mg false z0c 2)
abbrev z62 (P:Program) (w:World) (K:Frag) (mg:Str->Option Value) (base:Heap):Prop:=z68 P w K mg base "room_under" ["top","lines"] 2 (spD K mg false z1g 2)
abbrev zi2 (P:Program) (w:World) (K:Frag) (mg:Str->Option Value) (base:Heap):Prop:=z68 P w K mg base "rooms" ["n","lines"] 3 (spD K mg true z7f 2)
abbrev z49 (P:Program) (w:World) (K:Frag) (mg:Str->Option Value) (base:Heap):Prop:=z68 P w K mg base "triangles" ["cut"] 4 (spD K mg true z15 1)
abbrev z8g (P:Program) (w:World) (K:Frag) (mg:Str->Option Value) (base:Heap):Prop:=z68 P w K mg base "sharings" ["cut","i","j"] 5 (spD K mg true z0a 3)
abbrev z8h (P:Program) (w:World) (K:Frag) (mg:Str->Option Value) (base:Heap) (M:List Mkr):Prop:=z68 P w K mg base "met_from" ["cut","corner"] 5 (spT (mkT M) (spD K mg true z2h 2))
abbrev ze0 (P:Program) (w:World) (K:Frag) (mg:Str->Option Value) (base:Heap) (M:List Mkr):Prop:=z68 P w K mg base "spread" ["cut","corner"] 6 (spT (mkT M) (spD K mg true z1l 2))
abbrev z3z (P:Program) (w:World) (K:Frag) (mg:Str->Option Value) (base:Heap) (M:List Mkr):Prop:=z68 P w K mg base "_law_refusal" ["_law_kind","_law_cut_here","_law_bad_here","_law_good"] 7 (spT (mkT M) (spD K mg true z07 4))
section
variable {P:Program} {w:World} {K:Frag} {mg:Str->Option Value} {base:Heap} {f:Addr} {fd:FuncData} {u0 u1 u2 u3 u4 u5 u6 u7 u8 u9 u10 u11 u12:Addr}
theorem zck (F:Fun K "is_whole" "is_whole" z5i f fd) (T:Txt mg) (Z:Exs K mg u0 u1 u2 u3 u4 u5 u6 u7 u8 u9 u10 u11 u12)  : FnOk P w K mg base (CX1 P w) 1 f fd ["thing"] (spD K mg false z13 1):=
 fnD (k:=0) F zcj rfl rfl fun cdv A outer s H E hr=>
  (z0f (z2a (zsj (zsn rfl T.isinstance boot_isinstance (qv 0) (zbn (v:=.ty "int") rfl T.int boot_int rfl)) (znz (zsk (zsn rfl T.isinstance boot_isinstance (qv 0) (zbn (v:=.ty "bool") rfl T.bool boot_bool rfl)))))))
theorem z6b (F:Fun K "corner_behind" "corner_behind" z1u f fd) (T:Txt mg) (Z:Exs K mg u0 u1 u2 u3 u4 u5 u6 u7 u8 u9 u10 u11 u12)  : FnOk P w K mg base (CX1 P w) 1 f fd ["corner","top","lines"] (spD K mg false z0m 3):=
 fnD (k:=0) F sc_corner_behind rfl rfl fun cdv A outer s H E hr=>
  (z09 (y1l sc_corner_behind.nd (k:=3) rfl rfl (z0v (caps:=["corner","top"]) (ix:=[0,1]) rfl rfl) (by decide +kernel) rfl (z5b (qv 2)) (.one fun _ _ _=>(QW.pt (zja (tE hr (qI hr (qv 0) z08) (qv 1) (z0r _)) (zja (z70 y07 zsd (qI hr (qv 0) z08) (qI hr (qv 2) z08) (z0r _)) (zga (tN hr (qv 0) (qv 2) (z0r _))))))) (fun _ _ _=>(qI hr (qv 0) z08)))
   (z0f (z2a (zt8 rfl rfl T.«max» boot_max (qv 3) (z0i z8s z2o (qv 0) z08)))))
theorem z9u (F:Fun K "carried_on" "carried_on" z3a f fd) (T:Txt mg) (Z:Exs K mg u0 u1 u2 u3 u4 u5 u6 u7 u8 u9 u10 u11 u12)  : FnOk P w K mg base (CX1 P w) 1 f fd ["begun","corners"] (spD K mg true z1d 2):=
 fnD (k:=0) F sc_carried_on rfl rfl fun cdv A outer s H E hr=>
  (z09 (sA 2 sc_carried_on.nd (z28 z06))
   (z09 (z94 PassesOwn.leaving rfl (z5b (qv 0)) (g_n (i:=3) sc_carried_on.nd rfl (Or.inr rfl))
    (z0f (zo7 PySem.F.plainAttrs_list PySem.F.slot_list_extend PySem.F.type_list_extend zfd zt3 z95 (pw 2) (z00 (QE.wk (zsu (z0v (caps:=["given"]) (ix:=[3]) rfl rfl) (by decide +kernel) rfl (z5b (qv 1)) (.one fun _ _ _=>(z70 (zda hr.units) zsg (qv 0) (qv 1) (by with_unfolding_all rfl))) (fun _ _ _=>(z0i zpi zpj (qv 1) (z6z (z00 (qv 0) z06)))))) z06))))
   (z0f (zap (i:=2)))))
theorem z7x {M:List Mkr} (F:Fun K "going_round" "going_round" z0o f fd) {cL PL:Addr} (hM:(⟨"going_round",cL,PL,(envOfC "going_round" (z03 z0o) 0 0 .none).qual++"<lambda>"⟩:Mkr)∈M) (hB:z7u mg base (mkB M)) (hc:fd.code=.ref cL) (T:Txt mg) (Z:Exs K mg u0 u1 u2 u3 u4 u5 u6 u7 u8 u9 u10 u11 u12)  : FnOk P w K mg base (CX1 P w) 1 f fd ["n","corner","corners"] (spT (mkT M) (spD K mg true z10 3)):=
 y0s (k:=0) F hc z7w rfl rfl fun A outer s H E hr hT=>
  (z0f (z2a (zhu (hT _ (List.mem_map_of_mem hM)) (zma hB (List.mem_map_of_mem hM) rfl rfl rfl) (z0v (caps:=["n","corner"]) (ix:=[0,1]) rfl rfl) rfl hr.dl rfl T.sorted boot_sorted (qv 2) (fun _ _ _ _ _ _=>(z0i z4b z1x (z0i zec z86 (qv 0) (qv 2)) (qv 1))))))
theorem zba (F:Fun K "_law_pick" "_law_pick" z47 f fd) (T:Txt mg) (Z:Exs K mg u0 u1 u2 u3 u4 u5 u6 u7 u8 u9 u10 u11 u12)  : FnOk P w K mg base (CX1 P w) 1 f fd ["_law_script","_law_k"] (spD K mg false z0n 2):=
 fnD (k:=0) F zb8 rfl rfl fun cdv A outer s H E hr=>
  (z0f (z2a (qI hr (QE.wk (z0i zkz zlb (QE.wk (y0l zfa zgd (qv 0) (zy5 (qv 1)) (zy5 (z0i z8s z2o (qv 1) z08)))) (QE.wk (z28 (z00 z08 z06))))) z08)))
theorem z7y (F:Fun K "_law_places" "_law_places" z2t f fd) (T:Txt mg) (Z:Exs K mg u0 u1 u2 u3 u4 u5 u6 u7 u8 u9 u10 u11 u12)  : FnOk P w K mg base (CX1 P w) 1 f fd ["_law_many_here","_law_cells"] (spD K mg true z12 2):=
 fnD (k:=0) F sc__law_places rfl rfl fun cdv A outer s H E hr=>
  (z09 (sA 2 sc__law_places.nd (y1u rfl rfl T.list rfl T.range (z00 (qv 0) z06)))
   (z09 (z94 PassesOwn.leaving rfl (y0m rfl T.enumerate (z00 (qv 1) z06)) (g_t rfl (z1j (i:=3) sc__law_places.nd rfl (Or.inl rfl) (z1j (i:=4) sc__law_places.nd rfl (Or.inl rfl) zaq)))
    (z0f (zgf (z70 zw8 zd7 (qv 0) z08 (z0r _))
    (z0f (zjc hr.units (pw 2) (z0i z4b z1x (qv 3) (qv 0)) (z0i z4b z1x (z0i z8s z2o (z0i zx1 zsb (qI hr (qv 2) (z0i z4b z1x (qv 3) (qv 0))) z08) (qv 4)) z08)))
    z71)))
   (z0f (zap (i:=2)))))
theorem z9v (F:Fun K "_law_rooms" "_law_rooms" z3b f fd) (T:Txt mg) (Z:Exs K mg u0 u1 u2 u3 u4 u5 u6 u7 u8 u9 u10 u11 u12)  : FnOk P w K mg base (CX1 P w) 1 f fd ["_law_spots"] (spD K mg true z1e 1):=
 fnD (k:=0) F sc__law_rooms rfl rfl fun cdv A outer s H E hr=>
  (z09 (sA 1 sc__law_rooms.nd (z28 (z00 z08 (z00 z08 (z00 z08 z06)))))
   (z09 (sA 2 sc__law_rooms.nd (z28 (z00 (QE.wk (z28 (z00 z08 (z00 z08 (z00 z08 z06))))) z06)))
   (z09 (z94 PassesOwn.leaving rfl (z5b (qv 0)) (g_n (i:=3) sc__law_rooms.nd rfl (Or.inl rfl))
    (z09 (sA 4 sc__law_rooms.nd (z0i z4b z1x (qv 3) (qL T.len (qv 1))))
   (z09 (zv6 PySem.F.plainAttrs_list PySem.F.slot_list_append PySem.F.type_list_append z6n zlg z95 (pw 2) (z28 (z00 (qI hr (qv 1) (qv 4)) (z00 (qL T.len (qv 1)) (z00 (qI hr (qv 1) (z0i z4b z1x (z0i z8s z2o (qv 4) z08) (qL T.len (qv 1)))) z06)))))
   (z0f (zo7 PySem.F.plainAttrs_list PySem.F.slot_list_insert PySem.F.type_list_insert zgu zt1 z95 (pw 1) (z00 (z0i z8s z2o (qv 4) z08) (z00 (qL T.len (qv 1)) z06)))))))
   (z09 (sA 5 sc__law_rooms.nd zsx)
   (z09 (z94 PassesOwn.leaving rfl (y0m rfl T.enumerate (z00 (qv 1) z06)) (g_t rfl (z1j (i:=6) sc__law_rooms.nd rfl (Or.inl rfl) (z1j (i:=7) sc__law_rooms.nd rfl (Or.inl rfl) zaq)))
    (z0f (zjc hr.units (pw 5) (qv 7) (qv 6))))
   (z0f (z2a (zsm (zhj rfl hr.units) zen rfl T.sorted boot_sorted (z00 (QE.wk (zsu (z0v (caps:=["_law_stands"]) (ix:=[5]) rfl rfl) (by decide +kernel) rfl (z5b (qv 2)) .nil (fun _ _ _=>(QE.wk (zsm (z77 rfl hr.units) z76 rfl T.sorted boot_sorted (z00 (QE.wk (zsu (z0v (caps:=["_law_stands"]) (ix:=[1]) rfl rfl) (by decide +kernel) rfl (z5b (qv 0)) .nil (fun _ _ _=>(qI hr (qv 1) (qv 0))))) z06)))))) z06)))))))))
theorem zcl (F:Fun K "_law_cut" "_law_cut" z5k f fd) (T:Txt mg) (Z:Exs K mg u0 u1 u2 u3 u4 u5 u6 u7 u8 u9 u10 u11 u12)  : FnOk P w K mg base (CX1 P w) 1 f fd ["_law_n","_law_threes"] (spD K mg false z2f 2):=
 fnD (k:=0) F sc__law_cut rfl rfl fun cdv A outer s H E hr=>
  (z09 (sA 2 sc__law_cut.nd zuz)
   (z09 (z94 PassesOwn.leaving rfl (z5b (qv 1)) (g_t rfl (z1j (i:=3) sc__law_cut.nd rfl (Or.inl rfl) (z1j (i:=4) sc__law_cut.nd rfl (Or.inl rfl) (z1j (i:=5) sc__law_cut.nd rfl (Or.inl rfl) zaq))))
    (z0f (z94 PassesOwn.leaving rfl (z5b (QE.wk (z28 (z00 (z6z (z00 (qv 3) (z00 (qv 4) z06))) (z00 (z6z (z00 (qv 4) (z00 (qv 5) z06))) (z00 (z6z (z00 (qv 3) (z00 (qv 5) z06))) z06)))))) (g_t rfl (z1j (i:=6) sc__law_cut.nd rfl (Or.inl rfl) (z1j (i:=7) sc__law_cut.nd rfl (Or.inl rfl) zaq)))
    (z0f (zgf (QW.pt (zja (z70 zw8 zd7 (z0i zec z86 (qv 7) (qv 6)) z08 (z0r _)) (zga (tN hr (z6z (z00 (qv 6) (z00 (qv 7) z06))) (z6z (z00 z08 (z00 (z0i zec z86 (qv 0) z08) z06))) (z0r _)))))
    (z0f (zuy hr.units (pw 2) (z6z (z00 (qv 6) (z00 (qv 7) z06))) zc7))
    z71)))))
   (z0f (z2a (z6z (z00 (qv 0) (z00 (zjb zdb zdc rfl T.tuple boot_tuple (z00 (QE.wk (zsm (z77 rfl hr.units) z76 rfl T.sorted boot_sorted (z00 (QE.wk (zjb (zpk rfl) zk1 rfl T.list boot_list (z00 (qv 2) z06))) z06))) z06)) z06)))))))
theorem zcm (F:Fun K "_law_bad" "_law_bad" z5l f fd) (T:Txt mg) (Z:Exs K mg u0 u1 u2 u3 u4 u5 u6 u7 u8 u9 u10 u11 u12)  : FnOk P w K mg base (CX1 P w) 1 f fd ["_law_cell","_law_n"] (spD K mg false z2g 2):=
 fnD (k:=0) F sc__law_bad rfl rfl fun cdv A outer s H E hr=>
  (z09 (sA 2 sc__law_bad.nd (z0i z4b z1x (z0i zfk zg6 (qv 0) z08) (z0i zx2 zsc z08 z08)))
   (z09 (sA 3 sc__law_bad.nd (z28 (z00 (zwi ziv zd8 z08) (z00 (qv 1) (z00 (z0i zec z86 (zwi ziv zd8 z08) (qv 2)) (z00 (z0i z8s z2o (qv 1) (qv 2)) (z00 zc7 (z00 zc7 (z00 zxz (z00 zny (z00 (z6z (z00 z08 z06)) (z00 (QE.wk (z28 (z00 z08 z06))) z06))))))))))))
   (z0f (z2a (qI hr (qv 3) (z0i z4b z1x (qv 0) z08))))))
theorem z55 (F:Fun K "_law_is_another" "_law_is_another" z16 f fd) (T:Txt mg) (Z:Exs K mg u0 u1 u2 u3 u4 u5 u6 u7 u8 u9 u10 u11 u12)  : FnQ P w K mg base f fd ["_law_error"] (spL K false z0g 1):=
 fnQ F z52 rfl rfl fun cdv A outer s H E ev=>
  (z09 (zgf (QW.pt (zqs (zan (z5d (tb:=z4w) rfl T.isinstance boot_isinstance (qv 0) (z1i (v:=.ref u6) rfl Z.a_NoLine rfl) (.inl ⟨_,rfl,rfl⟩) Z.b_NoLine)) (zqs (zan (z5d (tb:=z6j) rfl T.isinstance boot_isinstance (qv 0) (z1i (v:=.ref u9) rfl Z.a_NoRow rfl) (.inl ⟨_,rfl,rfl⟩) Z.b_NoRow)) (zqs (zan (z5d (tb:=z3l) rfl T.isinstance boot_isinstance (qv 0) (z1i (v:=.ref u5) rfl Z.a_NoFloor rfl) (.inl ⟨_,rfl,rfl⟩) Z.b_NoFloor)) (zo0 (zan (z5d (tb:=z6i) rfl T.isinstance boot_isinstance (qv 0) (z1i (v:=.ref u4) rfl Z.a_NoEar rfl) (.inl ⟨_,rfl,rfl⟩) Z.b_NoEar)))))))
    (z0f (z2a zc7))
    z71)
   (z09 (zgf (QW.pt (zqs (zan (z5d (tb:=z4y) rfl T.isinstance boot_isinstance (qv 0) (z1i (v:=.ref u1) rfl Z.a_NoBand rfl) (.inl ⟨_,rfl,rfl⟩) Z.b_NoBand)) (zqs (zan (z5d (tb:=z3m) rfl T.isinstance boot_isinstance (qv 0) (z1i (v:=.ref u8) rfl Z.a_NoPlace rfl) (.inl ⟨_,rfl,rfl⟩) Z.b_NoPlace)) (zo0 (zan (z5d (tb:=z4x) rfl T.isinstance boot_isinstance (qv 0) (z1i (v:=.ref u3) rfl Z.a_NoDeed rfl) (.inl ⟨_,rfl,rfl⟩) Z.b_NoDeed))))))
    (z0f (z2a zc7))
    z71)
   (z0f (z2a (y0j (z5d (tb:=z50) rfl T.isinstance boot_isinstance (qv 0) (z1i (v:=.ref u7) rfl Z.a_NoName rfl) (.inl ⟨_,rfl,rfl⟩) Z.b_NoName) (y0j (z5d (tb:=z2r) rfl T.isinstance boot_isinstance (qv 0) (z1i (v:=.ref u11) rfl Z.a_NotAlike rfl) (.inl ⟨_,rfl,rfl⟩) Z.b_NotAlike) (znz (z5d (tb:=z4z) rfl T.isinstance boot_isinstance (qv 0) (z1i (v:=.ref u10) rfl Z.a_NoText rfl) (.inl ⟨_,rfl,rfl⟩) Z.b_NoText))))))))
theorem zbb (F:Fun K "_law_many" "_law_many" z48 f fd) (T:Txt mg) (Z:Exs K mg u0 u1 u2 u3 u4 u5 u6 u7 u8 u9 u10 u11 u12)  : FnOk P w K mg base (CX1 P w) 1 f fd ["_law_cell"] (spD K mg false z14 1):=
 fnD (k:=0) F zb9 rfl rfl fun cdv A outer s H E hr=>
  (z09 (zgf (z70 zx3 zg7 (z0i z4b z1x (qv 0) z08) z08 (z0r _))
    (z0f (z2a (z0i z8s z2o z08 (z0i z4b z1x (qv 0) z08))))
    z71)
   (z0f (z2a (z0i z4b z1x (z0i zfk zg6 (qv 0) z08) z08))))
theorem z7k (F:Fun K "check_corner" "check_corner" z25 f fd) (T:Txt mg) (Z:Exs K mg u0 u1 u2 u3 u4 u5 u6 u7 u8 u9 u10 u11 u12) (G_is_whole:z8d P w K mg base):FnOk P w K mg base (CX1 P w) 2 f fd ["n","thing"] (spD K mg false z0c 2):=
 fnD (k:=1) F z7h rfl rfl fun cdv A outer s H E hr=>
  (z0f (zgf (QW.pt (zqs (zsl (zan (z2p z67 G_is_whole hr rfl (z00 (qv 1) z06)))) (zo0 (zsl (zy1 z08 (zo2 y07 zsd (qv 1) (zo1 zx3 zg7 (qv 0))))))))
   (z0f (zgy (c:="NoCorner") z67 PySem.F.excBase_ValueError rfl rfl Z.a_NoCorner Z.q_NoCorner (z00 zny z06)))
   z71))
theorem z9w (F:Fun K "room_under" "room_under" z39 f fd) (T:Txt mg) (Z:Exs K mg u0 u1 u2 u3 u4 u5 u6 u7 u8 u9 u10 u11 u12) (G_corner_behind:z3c P w K mg base):FnOk P w K mg base (CX1 P w) 2 f fd ["top","lines"] (spD K mg false z1g 2):=
 fnD (k:=1) F sc_room_under rfl rfl fun cdv A outer s H E hr=>
  (z09 (sA 2 sc_room_under.nd (z28 (z00 (qI hr (qv 0) z08) z06)))
   (z09 (zo6 (n:=1000) PassesOwn.leaving (z70 zx3 zg7 (qI hr (qv 2) (zwi ziv zd8 z08)) (qI hr (qv 0) z08) (z0r _))
    (z0f (zo7 PySem.F.plainAttrs_list PySem.F.slot_list_append PySem.F.type_list_append z6n zlg z95 (pw 2) (z00 (z2p z67 G_corner_behind hr rfl (z00 (qI hr (qv 2) (zwi ziv zd8 z08)) (z00 (qv 0) (z00 (qv 1) z06)))) z06))))
   (z0f (z2a (zjb zdb zdc rfl T.tuple boot_tuple (z00 (qv 2) z06))))))
theorem zke (F:Fun K "rooms" "rooms" zci f fd) (T:Txt mg) (Z:Exs K mg u0 u1 u2 u3 u4 u5 u6 u7 u8 u9 u10 u11 u12) (G_room_under:z62 P w K mg base):FnOk P w K mg base (CX1 P w) 3 f fd ["n","lines"] (spD K mg true z7f 2):=
 fnD (k:=2) F sc_rooms rfl rfl fun cdv A outer s H E hr=>
  (z09 (sA 2 sc_rooms.nd (z0i zkz zlb (QE.wk (z28 (z00 (z6z (z00 z08 (z00 (z0i zec z86 (qv 0) z08) z06))) z06))) (QE.wk (zjb zo4 zo5 rfl T.list boot_list (z00 (qv 1) z06)))))
   (z0f (z2a (zsm (z77 rfl hr.units) z76 rfl T.sorted boot_sorted (z00 (QE.wk (zsu (z0v (caps:=["lines"]) (ix:=[1]) rfl rfl) (by decide +kernel) rfl (z5b (qv 2)) .nil (fun _ _ _=>(z2p y1e G_room_under hr rfl (z00 (qv 0) (z00 (qv 1) z06)))))) z06)))))
theorem zbc (F:Fun K "triangles" "triangles" z46 f fd) (T:Txt mg) (Z:Exs K mg u0 u1 u2 u3 u4 u5 u6 u7 u8 u9 u10 u11 u12) (G_rooms:zi2 P w K mg base):FnOk P w K mg base (CX1 P w) 4 f fd ["cut"] (spD K mg true z15 1):=
 fnD (k:=3) F zb7 rfl rfl fun cdv A outer s H E hr=>
  (z0f (z2a (z2p z67 G_rooms hr rfl (z00 (qI hr (qv 0) z08) (z00 (qI hr (qv 0) z08) z06)))))
theorem zcn (F:Fun K "sharings" "sharings" z5j f fd) (T:Txt mg) (Z:Exs K mg u0 u1 u2 u3 u4 u5 u6 u7 u8 u9 u10 u11 u12) (G_carried_on:z60 P w K mg base) (G_check_corner:z27 P w K mg base) (G_triangles:z49 P w K mg base):FnOk P w K mg base (CX1 P w) 5 f fd ["cut","i","j"] (spD K mg true z0a 3):=
 fnD (k:=4) F sc_sharings rfl rfl fun cdv A outer s H E hr=>
  (z09 (zgg (z2p z67 G_check_corner hr rfl (z00 (qI hr (qv 0) z08) (z00 (qv 1) z06))))
   (z09 (zgg (z2p z67 G_check_corner hr rfl (z00 (qI hr (qv 0) z08) (z00 (qv 2) z06))))
   (z09 (zgf (z70 zw8 zd7 (qI hr (qv 0) z08) z08 (z0r _))
    (z0f (zgy (c:="TooMany") z67 PySem.F.excBase_ValueError rfl rfl Z.a_TooMany Z.q_TooMany (z00 zny z06)))
    z71)
   (z09 (zgf (tE hr (qv 1) (qv 2) (z0r _))
    (z0f (z2a (z28 z06)))
    z71)
   (z09 (sA 3 sc_sharings.nd (z28 (z00 (z6z z06) z06)))
   (z09 (z94 PassesOwn.leaving rfl (z5b (QE.wk (z2p z67 G_triangles hr rfl (z00 (qv 0) z06)))) (g_n (i:=4) sc_sharings.nd rfl (Or.inl rfl))
    (z0f (sA 3 sc_sharings.nd (z2p z67 G_carried_on hr rfl (z00 (qv 3) (z00 (QE.wk (zsu (z0v (caps:=["i","j"]) (ix:=[1,2]) rfl rfl) (by decide +kernel) rfl (z5b (qv 4)) (.one fun _ _ _=>(QW.pt (zja (tN hr (qv 0) (qv 1) (z0r _)) (zga (tN hr (qv 0) (qv 2) (z0r _)))))) (fun _ _ _=>(qv 0)))) z06))))))
   (z0f (zap (i:=3)))))))))
theorem zco {M:List Mkr} (F:Fun K "met_from" "met_from" z1n f fd) {cL PL:Addr} (hM:(⟨"met_from",cL,PL,(envOfC "met_from" (z03 z1n) 0 0 .none).qual++"<lambda>"⟩:Mkr)∈M) (hB:z7u mg base (mkB M)) (hc:fd.code=.ref cL) (T:Txt mg) (Z:Exs K mg u0 u1 u2 u3 u4 u5 u6 u7 u8 u9 u10 u11 u12) (G_going_round:z53 P w K mg base M) (G_triangles:z49 P w K mg base):FnOk P w K mg base (CX1 P w) 5 f fd ["cut","corner"] (spT (mkT M) (spD K mg true z2h 2)):=
 y0s (k:=4) F hc sc_met_from rfl rfl fun A outer s H E hr hT=>
  (z09 (sA 2 sc_met_from.nd (qI hr (qv 0) z08))
   (z09 (zzf sc_met_from.nd (k:=3) rfl rfl (z0v (caps:=["corner","n"]) (ix:=[1,2]) rfl rfl) (by decide +kernel) rfl (z5b (QE.wk (z2p z67 G_triangles hr rfl (z00 (qv 0) z06)))) (.one fun _ _ _=>(z70 (zda hr.units) zsg (qv 1) (qv 0) (by with_unfolding_all rfl))) (fun _ _ _=>(QE.wk (z89 hT y1v G_going_round hr rfl (z00 (qv 2) (z00 (qv 1) (z00 (qv 0) z06)))))))
   (z0f (z2a (zhu (hT _ (List.mem_map_of_mem hM)) (zma hB (List.mem_map_of_mem hM) rfl rfl rfl) (z0v (caps:=["n"]) (ix:=[2]) rfl rfl) rfl hr.dl rfl T.sorted boot_sorted (qv 3) (fun _ _ _ _ _ _=>(z0i z4b z1x (z0i zec z86 (zy0 ix_seq od_ixS (qv 0) z08) (zy0 ix_seq od_ixS (qv 0) z08)) (qv 1))))))))
theorem zi3 {M:List Mkr} (F:Fun K "spread" "spread" z9t f fd) (T:Txt mg) (Z:Exs K mg u0 u1 u2 u3 u4 u5 u6 u7 u8 u9 u10 u11 u12) (G_check_corner:z27 P w K mg base) (G_met_from:z8h P w K mg base M):FnOk P w K mg base (CX1 P w) 6 f fd ["cut","corner"] (spT (mkT M) (spD K mg true z1l 2)):=
 zze (k:=5) F sc_spread rfl rfl fun cdv A outer s H E hr hT=>
  (z09 (zgg (z2p z67 G_check_corner hr rfl (z00 (qI hr (qv 0) z08) (z00 (qv 1) z06))))
   (z09 (sA 2 sc_spread.nd (z0i zrh zse (QE.wk (z28 (z00 z08 z06))) (qI hr (qv 0) z08)))
   (z09 (zjc hr.units (pw 2) (qv 1) z08)
   (z09 (z94 PassesOwn.leaving rfl (z5b (QE.wk (z89 hT z67 G_met_from hr rfl (z00 (qv 0) (z00 (qv 1) z06))))) (g_t rfl (z1j (i:=3) sc_spread.nd rfl (Or.inl rfl) (z1j (i:=4) sc_spread.nd rfl (Or.inl rfl) (z1j (i:=5) sc_spread.nd rfl (Or.inl rfl) zaq))))
    (z0f (zjc hr.units (pw 2) (qv 4) (z0i z8s z2o (qI hr (qv 2) (qv 3)) (qI hr (qv 2) (qv 5))))))
   (z0f (zap (i:=2)))))))
theorem z7l {M:List Mkr} (F:Fun K "_law_refusal" "_law_refusal" z26 f fd) (T:Txt mg) (Z:Exs K mg u0 u1 u2 u3 u4 u5 u6 u7 u8 u9 u10 u11 u12) (G__law_is_another:zvh P w K mg base "_law_is_another" ["_law_error"] (spL K false z0g 1)) (G_sharings:z8g P w K mg base) (G_spread:ze0 P w K mg base M):FnOk P w K mg base (CX1 P w) 7 f fd ["_law_kind","_law_cut_here","_law_bad_here","_law_good"] (spT (mkT M) (spD K mg true z07 4)):=
 zze (k:=6) F sc__law_refusal rfl rfl fun cdv A outer s H E hr hT=>
  (z09 (sA 4 sc__law_refusal.nd (z28 z06))
   (z09 (zvj hT rfl rfl (zpu (tE hr (qv 0) z08 (z0r _)) (zpv (k:=knX) Z.kn G_spread hr rfl (z00 (qv 1) (z00 (qv 2) z06))) (zpu (tE hr (qv 0) z08 (z0r _)) (QY.t (zh1 (k:=knX) Z.kn G_sharings hr rfl (z00 (qv 1) (z00 (qv 2) (z00 (qv 3) z06))))) (zpu (tE hr (qv 0) z08 (z0r _)) (QY.t (zh1 (k:=knX) Z.kn G_sharings hr rfl (z00 (qv 1) (z00 (qv 3) (z00 (qv 2) z06))))) (QY.t (zh1 (k:=knX) Z.kn G_sharings hr rfl (z00 (qv 1) (z00 (qv 2) (z00 (qv 2) z06))))))))
    (y1m (tb:=z0y) (i:=5) Z.t_FloorError (by decide) rfl sc__law_refusal.nd rfl rfl (fun _=>(z0f (sA 4 sc__law_refusal.nd (z28 (z00 (z5d (tb:=z0z) rfl T.isinstance boot_isinstance (qv 5) (zbn (v:=.ty "ValueError") rfl T.ValueError PyProof.Rows.Boot.«ValueError» rfl) (.inr ⟨_,rfl,rfl⟩) Z.b_ValueError) (z00 (z5d (tb:=z1t) rfl T.isinstance boot_isinstance (qv 5) (z1i (v:=.ref u2) rfl Z.a_NoCorner rfl) (.inl ⟨_,rfl,rfl⟩) Z.b_NoCorner) (z00 (z5d (tb:=z2c) rfl T.isinstance boot_isinstance (qv 5) (z1i (v:=.ref u12) rfl Z.a_TooMany rfl) (.inl ⟨_,rfl,rfl⟩) Z.b_TooMany) (z00 (zvi G__law_is_another rfl hr.dpQ rfl (z00 (qv 5) z06)) z06)))))))) zy9))
   (z0f (zap (i:=4)))))
theorem zvv {M:List Mkr} (F:Fun K "law" "law" zq3 f fd) (T:Txt mg) (Z:Exs K mg u0 u1 u2 u3 u4 u5 u6 u7 u8 u9 u10 u11 u12) (G__law_bad:z8f P w K mg base) (G__law_cut:z8e P w K mg base) (G__law_many:z7j P w K mg base) (G__law_pick:z7i P w K mg base) (G__law_places:z54 P w K mg base) (G__law_refusal:z3z P w K mg base M) (G__law_rooms:z61 P w K mg base):FnOk P w K mg base (CX1 P w) 8 f fd ["_law_script"] (spT (mkT M) (spD K mg false zew 1)):=
 zze (k:=7) F sc_law rfl rfl fun cdv A outer s H E hr hT=>
  (z09 (sA 1 sc_law.nd (z2p z67 G__law_rooms hr rfl (z00 (QE.wk (z2p z67 G__law_places hr rfl (z00 (z2p z67 G__law_many hr rfl (z00 (z2p z67 G__law_pick hr rfl (z00 (qv 0) (z00 z08 z06))) z06)) (z00 (QE.wk (y0l zfa zgd (qv 0) (zy5 z08) y1i)) z06)))) z06)))
   (z09 (sA 2 sc_law.nd (z0i z8s z2o (qL T.len (qv 1)) z08))
   (z09 (sA 3 sc_law.nd (z2p z67 G__law_cut hr rfl (z00 (qv 2) (z00 (qv 1) z06))))
   (z09 (sA 4 sc_law.nd (z2p z67 G__law_bad hr rfl (z00 (z2p z67 G__law_pick hr rfl (z00 (qv 0) (z00 z08 z06))) (z00 (qv 2) z06))))
   (z09 (sA 5 sc_law.nd (z0i z4b z1x (z2p z67 G__law_pick hr rfl (z00 (qv 0) (z00 z08 z06))) (qv 2)))
   (z09 (sA 6 sc_law.nd (z0i z4b z1x (z0i zfk zg6 (z2p z67 G__law_pick hr rfl (z00 (qv 0) (z00 z08 z06))) (qv 2)) (qv 2)))
   (z09 (z94 PassesOwn.leaving rfl (y1k rfl T.range (z00 z08 z06)) (g_n (i:=7) sc_law.nd rfl (Or.inl rfl))
    (z0f (zgf (tN hr (QE.wk (z89 hT z67 G__law_refusal hr rfl (z00 (qv 7) (z00 (qv 3) (z00 (qv 4) (z00 (qv 5) z06)))))) (QE.wk (z28 (z00 zc7 (z00 zc7 (z00 zc7 (z00 zc7 z06)))))) (z0r _))
    (z0f (z2a zc7))
    z71)))
   (z09 (sA 8 sc_law.nd (z28 z06))
   (z09 (zgf (z70 zw8 zd7 (qv 2) z08 (z0r _))
    (z0f (sA 8 sc_law.nd (z28 (z00 zc7 (z00 zc7 (z00 zc7 (z00 zc7 z06)))))))
    z71)
   (z09 (zgf (tN hr (QE.wk (z89 hT z67 G__law_refusal hr rfl (z00 z08 (z00 (qv 3) (z00 (qv 5) (z00 (qv 5) z06)))))) (qv 8) (z0r _))
    (z0f (z2a zc7))
    z71)
   (z0f (z2a (zsj (zsi (znu hr.units) znv (QE.wk (z89 hT z67 G__law_refusal hr rfl (z00 z08 (z00 (qv 3) (z00 (qv 6) (z00 (qv 5) z06)))))) (qv 8) (z0r _)) (znz (zsi (znu hr.units) znv (QE.wk (z89 hT z67 G__law_refusal hr rfl (z00 z08 (z00 (qv 3) (z00 (qv 5) (z00 (qv 5) z06)))))) (QE.wk (z28 z06)) (z0r _))))))))))))))))
end
theorem all_mk {l:PySem.W.OpenLaw} {w:World} {K:Frag} {h:Heap} {mg:Str->Option Value} {fa:Addr} (X:K.In h) (G:h.Ns mainGlobals mg) (hfa:mg "law"=some (.ref fa))
  {f0 f1 f2 f3 f4 f5 f6 f7 f8 f9 f10 f11 f12 f13 f14 f15 f16 f17 f18 f19:Addr}
  {u0 u1 u2 u3 u4 u5 u6 u7 u8 u9 u10 u11 u12:Addr}
  {M:List Mkr} {cL0 PL0 cL1 PL1:Addr}
  (A0:FnAt K "is_whole" z5i f0)
  (A1:FnAt K "corner_behind" z1u f1)
  (A2:FnAt K "carried_on" z3a f2)
  (A3:FnAt K "going_round" z0o f3)
  (A4:FnAt K "_law_pick" z47 f4)
  (A5:FnAt K "_law_places" z2t f5)
  (A6:FnAt K "_law_rooms" z3b f6)
  (A7:FnAt K "_law_cut" z5k f7)
  (A8:FnAt K "_law_bad" z5l f8)
  (A9:FnAt K "_law_is_another" z16 f9)
  (A10:FnAt K "_law_many" z48 f10)
  (A11:FnAt K "check_corner" z25 f11)
  (A12:FnAt K "room_under" z39 f12)
  (A13:FnAt K "rooms" zci f13)
  (A14:FnAt K "triangles" z46 f14)
  (A15:FnAt K "sharings" z5j f15)
  (A16:FnAt K "met_from" z1n f16)
  (A17:FnAt K "spread" z9t f17)
  (A18:FnAt K "_law_refusal" z26 f18)
  (A19:FnAt K "law" zq3 f19)
  (T:Txt mg)
  (Z:Exs K mg u0 u1 u2 u3 u4 u5 u6 u7 u8 u9 u10 u11 u12)
  (B0:tabIn K "met_from"=some (cL0,PL0)) (hM0:(⟨"met_from",cL0,PL0,(envOfC "met_from" (z03 z1n) 0 0 .none).qual++"<lambda>"⟩:Mkr)∈M)
  (B1:tabIn K "going_round"=some (cL1,PL1)) (hM1:(⟨"going_round",cL1,PL1,(envOfC "going_round" (z03 z0o) 0 0 .none).qual++"<lambda>"⟩:Mkr)∈M) :
  ∃fd:FuncData,(∀(s:Shared) (v:Value),BindsTo s fd ⟨[v],[]⟩ [("_law_script",v)])/\∀base:Heap,K.In base->base.Ns mainGlobals mg->z7u mg base (mkB M)->FnOk l.prog w K mg base (CX1 l.prog w) 8 fa fd ["_law_script"] (spTL (mkT M) K false zew 1):=by
 refine zpr X G hfa A19 (fun _ _ _ _ _ _ _ _=>.of_eq rfl) fun base kb nb hB fd F=>?_
 have G_is_whole:z8d l.prog w K mg base:=got X G A0 fun F=>zck F T Z 
 have G_corner_behind:z3c l.prog w K mg base:=got X G A1 fun F=>z6b F T Z 
 have G_carried_on:z60 l.prog w K mg base:=got X G A2 fun F=>z9u F T Z 
 have G_going_round:z53 l.prog w K mg base M:=got X G A3 fun F=>z7x F hM1 hB (zdy A3 F B1) T Z 
 have G__law_pick:z7i l.prog w K mg base:=got X G A4 fun F=>zba F T Z 
 have G__law_places:z54 l.prog w K mg base:=got X G A5 fun F=>z7y F T Z 
 have G__law_rooms:z61 l.prog w K mg base:=got X G A6 fun F=>z9v F T Z 
 have G__law_cut:z8e l.prog w K mg base:=got X G A7 fun F=>zcl F T Z 
 have G__law_bad:z8f l.prog w K mg base:=got X G A8 fun F=>zcm F T Z 
 have G__law_is_another:zvh l.prog w K mg base "_law_is_another" ["_law_error"] (spL K false z0g 1):=y1w X G A9 fun F=>z55 F T Z 
 have G__law_many:z7j l.prog w K mg base:=got X G A10 fun F=>zbb F T Z 
 have G_check_corner:z27 l.prog w K mg base:=got X G A11 fun F=>z7k F T Z G_is_whole
 have G_room_under:z62 l.prog w K mg base:=got X G A12 fun F=>z9w F T Z G_corner_behind
 have G_rooms:zi2 l.prog w K mg base:=got X G A13 fun F=>zke F T Z G_room_under
 have G_triangles:z49 l.prog w K mg base:=got X G A14 fun F=>zbc F T Z G_rooms
 have G_sharings:z8g l.prog w K mg base:=got X G A15 fun F=>zcn F T Z G_carried_on G_check_corner G_triangles
 have G_met_from:z8h l.prog w K mg base M:=got X G A16 fun F=>zco F hM0 hB (zdy A16 F B0) T Z G_going_round G_triangles
 have G_spread:ze0 l.prog w K mg base M:=got X G A17 fun F=>zi3 F T Z G_check_corner G_met_from
 have G__law_refusal:z3z l.prog w K mg base M:=got X G A18 fun F=>z7l F T Z G__law_is_another G_sharings G_spread
 exact (zvv F T Z G__law_bad G__law_cut G__law_many G__law_pick G__law_places G__law_refusal G__law_rooms).imp fun _ _ _ _ z=>z.spT
abbrev kO (n:String) (t1:Nat) (q:String) (t2 t3:Nat) (a b c d e:Int) (r1:Nat) (g:Int) (r2 r3 r4 r5:Nat) (k l:Int) (t4:Nat):Obj:=⟨.type "code",none,.fields [vs n t1,vs q t2,vs "/claim/cut.py" t3,.int a 0,.int b 0,.int c 0,.int d 0,.int e 0,.ref r1,.bool true,.int g 0,.ref r2,.none,.ref r3,.ref r4,.ref r5,.int k 0,.int l 0,vs "/claim/cut.py" t4].toArray,#[]⟩
abbrev kN (n:String) (t1:Nat) (q:String) (t2 t3:Nat) (a b c d e:Int) (r1:Nat) (g:Int) (r2 r5:Nat) (k l:Int) (t4:Nat):Obj:=⟨.type "code",none,.fields [vs n t1,vs q t2,vs "/claim/cut.py" t3,.int a 0,.int b 0,.int c 0,.int d 0,.int e 0,.ref r1,.bool true,.int g 0,.ref r2,.none,.none,.none,.ref r5,.int k 0,.int l 0,vs "/claim/cut.py" t4].toArray,#[]⟩
abbrev fO (i:Nat) (n m:String) (t r:Nat):Obj:=oF (top i) n n .none .none .none (vs m t) none (.ref r) .none
abbrev cO (n:String) (b a ns r t1 t2:Nat):Obj:=⟨.type "type",none,.cls { name:=Str.ofString n,bases:=[.ref b],mro:=[.ref a,.ref b,.type "ValueError",.type "Exception",.type "BaseException",.type "object"],ns:=ns,qualname:=Str.ofString n,hasDict:=true,slotNames:=[],subclasses:=[],abstract:=false,collection:=none,hasDel:=false },#[some (.ref r),none,some (vs n t1),some (vs n t2),some (.builtin "ValueError.__new__"),some (.bool true)]⟩
noncomputable def K:Params->Frag:=fun P=>
 (nat_lit 2,⟨.none,none,(.dict [].toArray 0),#[]⟩) ::
 (nat_lit 3,oD [en P "__name__" 165 (vs "law_friezeyard_k44_no_sharing_there" 493),en P "__doc__" 166 .none,en P "__package__" 167 .none,en P "__loader__" 168 (.builtin "__main__.__loader__#opaque"),en P "__spec__" 169 .none,en P "__annotations__" 170 (.ref 6),en P "__builtins__" 171 (.ref 4),en P "__file__" 173 (vs "/claim/cut.py" 172),en P "__cached__" 174 .none,en P "FloorError" 206 (.ref 24),en P "NoFloor" 222 (.ref 37),en P "NoLine" 238 (.ref 49),en P "NoText" 254 (.ref 61),en P "NoCorner" 270 (.ref 73),en P "NoEar" 286 (.ref 85),en P "NoRow" 302 (.ref 97),en P "NoBand" 318 (.ref 109),en P "TooMany" 334 (.ref 121),en P "NotAlike" 350 (.ref 133),en P "NoPlace" 366 (.ref 145),en P "NoDeed" 382 (.ref 157),en P "NoName" 398 (.ref 169),en P "is_whole" 407 (.ref 178),en P "check_corner" 417 (.ref 185),en P "rooms" 425 (.ref 190),en P "room_under" 434 (.ref 197),en P "corner_behind" 440 (.ref 202),en P "triangles" 447 (.ref 209),en P "sharings" 455 (.ref 214),en P "carried_on" 461 (.ref 219),en P "spread" 475 (.ref 226),en P "met_from" 481 (.ref 231),en P "going_round" 492 (.ref 238),en P "_law_pick" 502 (.ref 245),en P "_law_places" 513 (.ref 252),en P "_law_rooms" 519 (.ref 257),en P "_law_cut" 533 (.ref 264),en P "_law_bad" 543 (.ref 271),en P "_law_is_another" 550 (.ref 278),en P "_law_refusal" 562 (.ref 285),en P "_law_many" 569 (.ref 292),en P "law" 584 (.ref 299)] 42) ::
 (nat_lit 15,oT [(.type "ValueError")]) ::
 (nat_lit 22,oT []) ::
 (nat_lit 23,oD [en P "__module__" 196 (vs "friezeyard.errors" 187),en P "__firstlineno__" 200 (.int 2 199),en P "__static_attributes__" 201 (.ref 22),en P "__weakref__" 203 (.ref 25),en P "__doc__" 204 .none] 3) ::
 (nat_lit 24,⟨(.type "type"),none,(.cls { name:=Str.ofString "FloorError",bases:=[(.type "ValueError")],mro:=[(.ref 24),(.type "ValueError"),(.type "Exception"),(.type "BaseException"),(.type "object")],ns:=23,qualname:=Str.ofString "FloorError",hasDict:=true,slotNames:=[],subclasses:=[(.ref 37),(.ref 49),(.ref 61),(.ref 73),(.ref 85),(.ref 97),(.ref 109),(.ref 121),(.ref 133),(.ref 145),(.ref 157),(.ref 169)],abstract:=false,collection:=none,hasDel:=false }),#[some (.ref 15),none,some (vs "FloorError" 189),some (vs "FloorError" 197),some (.builtin "ValueError.__new__"),some (.bool true)]⟩) ::
 (nat_lit 25,⟨(.type "getset_descriptor"),none,(.fields [(vs "__weakref__" 202),(.ref 24),(.builtin "ExceptionGroup.__weakref__"),.none].toArray),#[]⟩) ::
 (nat_lit 28,oT [(.ref 24)]) ::
 (nat_lit 35,oT []) ::
 (nat_lit 36,oD [en P "__module__" 214 (vs "friezeyard.errors" 187),en P "__firstlineno__" 218 (.int 4 217),en P "__static_attributes__" 219 (.ref 35),en P "__doc__" 220 .none] 2) ::
 (nat_lit 37,(cO "NoFloor" 24 37 36 28 207 215)) ::
 (nat_lit 40,oT [(.ref 24)]) ::
 (nat_lit 47,oT []) ::
 (nat_lit 48,oD [en P "__module__" 230 (vs "friezeyard.errors" 187),en P "__firstlineno__" 234 (.int 6 233),en P "__static_attributes__" 235 (.ref 47),en P "__doc__" 236 .none] 2) ::
 (nat_lit 49,(cO "NoLine" 24 49 48 40 223 231)) ::
 (nat_lit 52,oT [(.ref 24)]) ::
 (nat_lit 59,oT []) ::
 (nat_lit 60,oD [en P "__module__" 246 (vs "friezeyard.errors" 187),en P "__firstlineno__" 250 (.int 8 249),en P "__static_attributes__" 251 (.ref 59),en P "__doc__" 252 .none] 2) ::
 (nat_lit 61,(cO "NoText" 24 61 60 52 239 247)) ::
 (nat_lit 64,oT [(.ref 24)]) ::
 (nat_lit 71,oT []) ::
 (nat_lit 72,oD [en P "__module__" 262 (vs "friezeyard.errors" 187),en P "__firstlineno__" 266 (.int 10 265),en P "__static_attributes__" 267 (.ref 71),en P "__doc__" 268 .none] 2) ::
 (nat_lit 73,(cO "NoCorner" 24 73 72 64 255 263)) ::
 (nat_lit 76,oT [(.ref 24)]) ::
 (nat_lit 83,oT []) ::
 (nat_lit 84,oD [en P "__module__" 278 (vs "friezeyard.errors" 187),en P "__firstlineno__" 282 (.int 12 281),en P "__static_attributes__" 283 (.ref 83),en P "__doc__" 284 .none] 2) ::
 (nat_lit 85,(cO "NoEar" 24 85 84 76 271 279)) ::
 (nat_lit 88,oT [(.ref 24)]) ::
 (nat_lit 95,oT []) ::
 (nat_lit 96,oD [en P "__module__" 294 (vs "friezeyard.errors" 187),en P "__firstlineno__" 298 (.int 14 297),en P "__static_attributes__" 299 (.ref 95),en P "__doc__" 300 .none] 2) ::
 (nat_lit 97,(cO "NoRow" 24 97 96 88 287 295)) ::
 (nat_lit 100,oT [(.ref 24)]) ::
 (nat_lit 107,oT []) ::
 (nat_lit 108,oD [en P "__module__" 310 (vs "friezeyard.errors" 187),en P "__firstlineno__" 314 (.int 16 313),en P "__static_attributes__" 315 (.ref 107),en P "__doc__" 316 .none] 2) ::
 (nat_lit 109,(cO "NoBand" 24 109 108 100 303 311)) ::
 (nat_lit 112,oT [(.ref 24)]) ::
 (nat_lit 119,oT []) ::
 (nat_lit 120,oD [en P "__module__" 326 (vs "friezeyard.errors" 187),en P "__firstlineno__" 330 (.int 18 329),en P "__static_attributes__" 331 (.ref 119),en P "__doc__" 332 .none] 2) ::
 (nat_lit 121,(cO "TooMany" 24 121 120 112 319 327)) ::
 (nat_lit 124,oT [(.ref 24)]) ::
 (nat_lit 131,oT []) ::
 (nat_lit 132,oD [en P "__module__" 342 (vs "friezeyard.errors" 187),en P "__firstlineno__" 346 (.int 20 345),en P "__static_attributes__" 347 (.ref 131),en P "__doc__" 348 .none] 2) ::
 (nat_lit 133,(cO "NotAlike" 24 133 132 124 335 343)) ::
 (nat_lit 136,oT [(.ref 24)]) ::
 (nat_lit 143,oT []) ::
 (nat_lit 144,oD [en P "__module__" 358 (vs "friezeyard.errors" 187),en P "__firstlineno__" 362 (.int 22 361),en P "__static_attributes__" 363 (.ref 143),en P "__doc__" 364 .none] 2) ::
 (nat_lit 145,(cO "NoPlace" 24 145 144 136 351 359)) ::
 (nat_lit 148,oT [(.ref 24)]) ::
 (nat_lit 155,oT []) ::
 (nat_lit 156,oD [en P "__module__" 374 (vs "friezeyard.errors" 187),en P "__firstlineno__" 378 (.int 24 377),en P "__static_attributes__" 379 (.ref 155),en P "__doc__" 380 .none] 2) ::
 (nat_lit 157,(cO "NoDeed" 24 157 156 148 367 375)) ::
 (nat_lit 160,oT [(.ref 24)]) ::
 (nat_lit 167,oT []) ::
 (nat_lit 168,oD [en P "__module__" 390 (vs "friezeyard.errors" 187),en P "__firstlineno__" 394 (.int 26 393),en P "__static_attributes__" 395 (.ref 167),en P "__doc__" 396 .none] 2) ::
 (nat_lit 169,(cO "NoName" 24 169 168 160 383 391)) ::
 (nat_lit 172,oT []) ::
 (nat_lit 174,oT [(vs "thing" 404)]) ::
 (nat_lit 175,oT []) ::
 (nat_lit 177,(kO "is_whole" 401 "is_whole" 402 403 29 1 0 0 3 172 181 173 174 175 176 405 29 406)) ::
 (nat_lit 178,(fO 15 "is_whole" "friezeyard.pairs" 399 177)) ::
 (nat_lit 179,oT []) ::
 (nat_lit 181,oT [(vs "n" 413),(vs "thing" 414)]) ::
 (nat_lit 182,oT []) ::
 (nat_lit 184,(kO "check_corner" 410 "check_corner" 411 412 32 2 0 0 3 179 181 180 181 182 183 415 32 416)) ::
 (nat_lit 185,(fO 17 "check_corner" "friezeyard.common" 408 184)) ::
 (nat_lit 186,oT []) ::
 (nat_lit 189,(kN "rooms" 420 "rooms" 421 422 36 2 0 0 3 186 181 187 188 423 36 424)) ::
 (nat_lit 190,(fO 19 "rooms" "friezeyard.rooms" 418 189)) ::
 (nat_lit 191,oT []) ::
 (nat_lit 193,oT [(vs "top" 429),(vs "lines" 430),(vs "room" 431)]) ::
 (nat_lit 194,oT []) ::
 (nat_lit 196,(kO "room_under" 426 "room_under" 427 428 39 2 0 0 3 191 181 192 193 194 195 432 39 433)) ::
 (nat_lit 197,(fO 20 "room_under" "friezeyard.rooms" 418 196)) ::
 (nat_lit 198,oT []) ::
 (nat_lit 201,(kN "corner_behind" 435 "corner_behind" 436 437 44 3 0 0 3 198 181 199 200 438 44 439)) ::
 (nat_lit 202,(fO 21 "corner_behind" "friezeyard.rooms" 418 201)) ::
 (nat_lit 203,oT []) ::
 (nat_lit 205,oT [(vs "cut" 444)]) ::
 (nat_lit 206,oT []) ::
 (nat_lit 208,(kO "triangles" 441 "triangles" 442 443 47 1 0 0 3 203 181 204 205 206 207 445 47 446)) ::
 (nat_lit 209,(fO 22 "triangles" "friezeyard.rooms" 418 208)) ::
 (nat_lit 210,oT []) ::
 (nat_lit 213,(kN "sharings" 450 "sharings" 451 452 50 3 0 0 3 210 181 211 212 453 50 454)) ::
 (nat_lit 214,(fO 24 "sharings" "friezeyard.sharings" 448 213)) ::
 (nat_lit 215,oT []) ::
 (nat_lit 218,(kN "carried_on" 456 "carried_on" 457 458 61 2 0 0 3 215 181 216 217 459 61 460)) ::
 (nat_lit 219,(fO 25 "carried_on" "friezeyard.sharings" 448 218)) ::
 (nat_lit 220,oT []) ::
 (nat_lit 222,oT [(vs "cut" 467),(vs "corner" 468),(vs "found" 469),(vs "x" 470),(vs "y" 471),(vs "z" 472)]) ::
 (nat_lit 223,oT []) ::
 (nat_lit 225,(kO "spread" 464 "spread" 465 466 67 2 0 0 3 220 181 221 222 223 224 473 67 474)) ::
 (nat_lit 226,(fO 27 "spread" "friezeyard.spreads" 462 225)) ::
 (nat_lit 227,oT []) ::
 (nat_lit 230,(kN "met_from" 476 "met_from" 477 478 74 2 0 0 3 227 181 228 229 479 74 480)) ::
 (nat_lit 231,(fO 28 "met_from" "friezeyard.spreads" 462 230)) ::
 (nat_lit 232,oT []) ::
 (nat_lit 234,oT [(vs "n" 485),(vs "corner" 486),(vs "corners" 487)]) ::
 (nat_lit 235,oT [(vs "n" 488),(vs "corner" 489)]) ::
 (nat_lit 237,(kO "going_round" 482 "going_round" 483 484 78 3 0 0 3 232 181 233 234 235 236 490 78 491)) ::
 (nat_lit 238,(fO 29 "going_round" "friezeyard.spreads" 462 237)) ::
 (nat_lit 239,oT []) ::
 (nat_lit 241,oT [(vs "_law_script" 498),(vs "_law_k" 499)]) ::
 (nat_lit 242,oT []) ::
 (nat_lit 244,(kO "_law_pick" 495 "_law_pick" 496 497 81 2 0 0 3 239 181 240 241 242 243 500 81 501)) ::
 (nat_lit 245,(fO 31 "_law_pick" "law_friezeyard_k44_no_sharing_there" 493 244)) ::
 (nat_lit 246,oT []) ::
 (nat_lit 248,oT [(vs "_law_many_here" 506),(vs "_law_cells" 507),(vs "_law_found" 508),(vs "_law_k" 509),(vs "_law_one" 510)]) ::
 (nat_lit 249,oT []) ::
 (nat_lit 251,(kO "_law_places" 503 "_law_places" 504 505 83 2 0 0 3 246 181 247 248 249 250 511 83 512)) ::
 (nat_lit 252,(fO 32 "_law_places" "law_friezeyard_k44_no_sharing_there" 493 251)) ::
 (nat_lit 253,oT []) ::
 (nat_lit 256,(kN "_law_rooms" 514 "_law_rooms" 515 516 89 1 0 0 3 253 181 254 255 517 89 518)) ::
 (nat_lit 257,(fO 33 "_law_rooms" "law_friezeyard_k44_no_sharing_there" 493 256)) ::
 (nat_lit 258,oT []) ::
 (nat_lit 260,oT [(vs "_law_n" 523),(vs "_law_threes" 524),(vs "_law_lines" 525),(vs "_law_a" 526),(vs "_law_b" 527),(vs "_law_c" 528),(vs "_law_one" 529),(vs "_law_other" 530)]) ::
 (nat_lit 261,oT []) ::
 (nat_lit 263,(kO "_law_cut" 520 "_law_cut" 521 522 100 2 0 0 3 258 181 259 260 261 262 531 100 532)) ::
 (nat_lit 264,(fO 34 "_law_cut" "law_friezeyard_k44_no_sharing_there" 493 263)) ::
 (nat_lit 265,oT []) ::
 (nat_lit 267,oT [(vs "_law_cell" 537),(vs "_law_n" 538),(vs "_law_far" 539),(vs "_law_some" 540)]) ::
 (nat_lit 268,oT []) ::
 (nat_lit 270,(kO "_law_bad" 534 "_law_bad" 535 536 107 2 0 0 3 265 181 266 267 268 269 541 107 542)) ::
 (nat_lit 271,(fO 35 "_law_bad" "law_friezeyard_k44_no_sharing_there" 493 270)) ::
 (nat_lit 272,oT []) ::
 (nat_lit 274,oT [(vs "_law_error" 547)]) ::
 (nat_lit 275,oT []) ::
 (nat_lit 277,(kO "_law_is_another" 544 "_law_is_another" 545 546 111 1 0 0 3 272 181 273 274 275 276 548 111 549)) ::
 (nat_lit 278,(fO 36 "_law_is_another" "law_friezeyard_k44_no_sharing_there" 493 277)) ::
 (nat_lit 279,oT []) ::
 (nat_lit 281,oT [(vs "_law_kind" 554),(vs "_law_cut_here" 555),(vs "_law_bad_here" 556),(vs "_law_good" 557),(vs "_law_told" 558),(vs "e" 559)]) ::
 (nat_lit 282,oT []) ::
 (nat_lit 284,(kO "_law_refusal" 551 "_law_refusal" 552 553 117 4 0 0 3 279 181 280 281 282 283 560 117 561)) ::
 (nat_lit 285,(fO 37 "_law_refusal" "law_friezeyard_k44_no_sharing_there" 493 284)) ::
 (nat_lit 286,oT []) ::
 (nat_lit 288,oT [(vs "_law_cell" 566)]) ::
 (nat_lit 289,oT []) ::
 (nat_lit 291,(kO "_law_many" 563 "_law_many" 564 565 131 1 0 0 3 286 181 287 288 289 290 567 131 568)) ::
 (nat_lit 292,(fO 38 "_law_many" "law_friezeyard_k44_no_sharing_there" 493 291)) ::
 (nat_lit 293,oT []) ::
 (nat_lit 295,oT [(vs "_law_script" 573),(vs "_law_threes" 574),(vs "_law_n" 575),(vs "_law_cut_here" 576),(vs "_law_bad_here" 577),(vs "_law_good" 578),(vs "_law_other" 579),(vs "_law_kind" 580),(vs "_law_due" 581)]) ::
 (nat_lit 296,oT []) ::
 (nat_lit 298,(kO "law" 570 "law" 571 572 135 1 0 0 3 293 181 294 295 296 297 582 135 583)) ::
 (nat_lit 299,(fO 39 "law" "law_friezeyard_k44_no_sharing_there" 493 298))::[]
noncomputable def places:List Addr:=[2,3,15,22,23,24,25,28,35,36,37,40,47,48,49,52,59,60,61,64,71,72,73,76,83,84,85,88,95,96,97,100,107,108,109,112,119,120,121,124,131,132,133,136,143,144,145,148,155,156,157,160,167,168,169,172,174,175,177,178,179,181,182,184,185,186,189,190,191,193,194,196,197,198,201,202,203,205,206,208,209,210,213,214,215,218,219,220,222,223,225,226,227,230,231,232,234,235,237,238,239,241,242,244,245,246,248,249,251,252,253,256,257,258,260,261,263,264,265,267,268,270,271,272,274,275,277,278,279,281,282,284,285,286,288,289,291,292,293,295,296,298,299]
theorem zkf:∀P,places=(K P).map (·.1):=fun _=>by kernel_rfl
noncomputable def hook:PySem.W.Hook:=PySem.W.kHook K places zkf
noncomputable def q:Program:=PySem.W.view PySem.Challenge.pw_friezeyard_k44_no_sharing_there [1,2,3,4,5,6,7,8,9,10,11,12,13,15,17,19,20,21,22,24,25,27,28,29,31,32,33,34,35,36,37,38,39]
noncomputable def xtH (s:Shared):Bool:=PySem.W.xlAt q [] s&&PySem.W.recOk (PySem.W.RowW.records PySem.Challenge.rw_friezeyard_k44_no_sharing_there.row.toRowW) s
noncomputable def out (w:World) (os:OsState):=outAt PySem.Challenge.pw_friezeyard_k44_no_sharing_there q [] xtH (fun s=>places.map s.heap.get?) 6940 w os
noncomputable def good:=PySem.W.openGood q []
example:((fun (_:Params->Obj) (_:Str)=>true) PySem.W.boot_o_0 (Str.ofString "dull"))=true:=by k_qdec
lay_quick out good
theorem zvw:∀w os,out w os=some (true,good,(K w.params).map fun p=>some p.2):=fun w os=>(congrFun (congrFun PySem.W.Fast.te14978884676035191561 w) os).trans (by rw [PySem.W.Fast.te16570519953095787929];kernel_rfl)
theorem left:PySem.W.LeftO PySem.Challenge.pw_friezeyard_k44_no_sharing_there q [] xtH (PySem.W.Hook.obs hook) (PySem.W.Hook.val hook) 6940:=zpx (by kernel_rfl) (by kernel_rfl) (fun _=>by kernel_rfl) zvw
abbrev makers:List Mkr:=[(⟨"met_from",230,228,(envOfC "met_from" (z03 z1n) 0 0 .none).qual++"<lambda>"⟩:Mkr),(⟨"going_round",237,233,(envOfC "going_round" (z03 z0o) 0 0 .none).qual++"<lambda>"⟩:Mkr)]
theorem makers_ok:∀m∈makers,((recsOf q).find? (fun e=>e.name==m.x)).isSome=true/\∀w:World,tabIn (K w.params) m.x=some (m.c,m.P):=List.forall_mem_cons.mpr ⟨⟨by kernel_rfl,fun w=>by kernel_rfl⟩,List.forall_mem_cons.mpr ⟨⟨by kernel_rfl,fun w=>by kernel_rfl⟩,fun _ h=>nomatch h⟩⟩
end K44
namespace K44
open L2 Bd Cu
local macro_rules | `(tactic| walk_at "dz")=>do
 let a:=("zcc,zlq,zyf,zlt,zls,zxl,z7s,sNx,y1c,znq,zxq,zhk,zij,zee,z22,z5p,zti,ztj,zoo,zlr,zt9,zta,ztd,ztb,ztc,zom,zte,ztf,ztg,zth,zon,zop,zdo,zyg,zyh,zyi,zjk,zjl,ztk,zdp,z9h,zoq,ztl,zuf,zyw,zyx,zyy,zug,zuh,zp2,zp3,zjm,zor,zjn,zjo,zjp,z6f,zua,zav,zp8,ztm,zlu,zcd,ztn,zos,zot,zou,zov,zl6,zd3,Option.bind_some,Bool.and_true,Bool.true_and,zyj,zyk,zyl,zym,y1o,y1p,eC,eOp,eUn,z0e,z01,z0k,eCB,zbz,z64,eIf,eSl,oSo,oNo,zui,zl5,bOr,zqm,z2i,zqn,eOr,y17,zs2,zxg,zxh,zaf,zag,z4g,iL,zp6,zp7,zp0,zoy,zoz,L2.R.bind_ok,L2.R.of_some,z6y,zl9,zsa,dLe,zqq,dGe,zyn,znt,zyo,zlv,zto,ztp,ztq,ztr,zts,ztt,ztu,zh3,zlw,ztv,ztw,ztx,ztz,zlx,zu0,zyq,zub,zyr,zyv,zz2,zuo,zup,zpb,zpc,zju,zjv,y1q,zue,zyu,y1r,y1s,zy4,zy3,zz3,zz4,zuq,zur,zus,zut,zuu,zz5,zz6,zjw,zds,zm1,zyp,zu1,zu2,zow,zu3,zu4,zu5,zh4,zly,zu6,zh5,zu7,zu8,zu9,zox,List.map_cons,List.map_nil,List.length_cons,List.length_nil,List.cons_append,List.nil_append,List.replicate_succ,List.replicate_zero,List.getElem?_cons_zero,List.getElem?_cons_succ,List.set_cons_zero,List.set_cons_succ,Option.map_some,Option.getD_some,if_true,if_false,Bool.false_eq_true,Bool.not_true,Bool.not_false,Bool.and_false,Bool.false_and,Bool.or_true,Bool.true_or,Bool.or_false,Bool.false_or,Nat.reduceAdd,Nat.reduceLeDiff,Nat.reduceEqDiff,reduceCtorEq,decide_true,decide_false,Int.reduceEq".splitOn ",").toArray.map fun s=>Lean.mkIdent s.toName
 `(tactic| try simp (implicitDefEqProofs:=false) only [$[$a:term],*])
structure Flr (row:List Int) (ls:List P2) (T:List P3) (v:Nat->Vc):Prop where
 good:Good row v
 inv:CInv (row.length:Int) ls T
 rw':Rw row T
 len:ls.length+3=row.length
theorem y1z:Flr [1,1,1] [] [(0,1,2)] v3:=⟨zzi,y1x,rw3,rfl⟩
theorem Flr.grow {row:List Int} {ls:List P2} {T:List P3} {v:Nat->Vc} (F:Flr row ls T v) (c:Nat) (hc:c<row.length) :
  Flr (z7v row c) (ls.map (sh2 (c:Int))++[z2x (row.length:Int) (c:Int)]) (T.map (sh3 (c:Int))++[z4v (row.length:Int) (c:Int)]) (gV row.length c v):=by
 have hl:=z33 row c hc
 refine ⟨F.good.grow c hc,?_,F.rw'.grow c hc F.good.len,?_⟩
 . have:=F.inv.grow (c:Int) (by omega) (by omega)
   rw [hl];exact this
 . rw [hl,List.length_append,List.length_map,List.length_singleton];have:=F.len;omega
theorem zvx (d:Int) (ns:List Int):zel [L ns,.int d]=some (.int (mxD d ns)):=by simp only [L,zel,z29,Option.map_some]
theorem zkg (c:Int) (p:P2) (ls:List P2) (hl:ls.length<=1000):z0m [.int c,T2 p,.tup (ls.map T2)]=.ok (.int (mxD (c+1) (ends c p ls))):=by
 unfold z0m z35
 walk_at "dz"
 rw [if_pos (by rw [List.length_map];omega),z4m (en:=T2) (bs:=fun l=>[T2 l]) (p:=pk c p) (g:=fun l=>D.int l.2) ls (fun x _=>rfl) (fun l _=>by
  unfold z2d
  simp only [T2]
  walk_at "dz"
  rfl) (fun l _ _=>by
  unfold z2e
  simp only [T2]
  walk_at "dz")]
 simp only [R.bind_ok]
 rw [show D.lst ((ls.filter (pk c p)).map fun l=>D.int l.2)=L (ends c p ls) by unfold L ends;rw [List.map_map];rfl]
 walk_at "dz"
 rw [zvx]
 walk_at "dz"
theorem z9x (t:DE->R Bool) (g:DS->SR) (n:Nat) (ρ:DS):z4f t g (n+1) ρ=(t (see ρ)).toS fun b=>if b=true then (g ρ).itr (z4f t g n) else .nx ρ:=by
 rw [z4f];congr 1
theorem zmj (xs:List Int) (v:Int):dIx (L (xs++[v])) (.int (-1))=some (.int v):=by
 have:(xs++[v]).map D.int=xs.map D.int++[D.int v]:=by simp
 simp only [L,dIx,dOr,z93,this,zis]
theorem zcp (ls:List P2) (p:P2) (xs:List Int) (v:Int):z1b [some (T2 p),some (.tup (ls.map T2)),some (L (xs++[v]))]=.ok (decide (v<p.2)):=by
 unfold z1b
 simp only [T2]
 walk_at "dz"
 rw [zmj]
 walk_at "dz"
theorem zi4 (ls:List P2) (hl:ls.length<=1000) (p:P2) (xs:List Int) (v:Int) (hx:xs.length<1000):z1c [.im (T2 p),.im (.tup (ls.map T2)),.ow (L (xs++[v]))]=.nx [.im (T2 p),.im (.tup (ls.map T2)),.ow (L (xs++[v]++[mxD (v+1) (ends v p ls)]))]:=by
 unfold z1c
 walk_at "dz"
 rw [zmj]
 walk_at "dz"
 rw [zkg _ _ _ hl]
 walk_at "dz"
 rw [zys (by simp;omega)]
 walk_at "dz"
theorem zq4 {n:Int} {ls ls':List P2} {T:List P3} (I:CInv n ls T) (p:ls'.Perm ls) (hl:ls'.length<=1000) (a c b:Int) (h:(a,c,b)∈T) :
  z1g [T2 (a,b),.tup (ls'.map T2)]=.ok (T3 (a,c,b)):=by
 obtain ⟨g1,g2,g3,g4,_⟩:=I.tri a c b h
 unfold z1g z5v
 walk_at "dz"
 have w:zah 1000 z1b z1c [.im (T2 (a,b)),.im (.tup (ls'.map T2)),.ow (L [a])]=.nx [.im (T2 (a,b)),.im (.tup (ls'.map T2)),.ow (L [a,c,b])]:=by
  have t1:=zcp ls' (a,b) [] a
  have t2:=zcp ls' (a,b) [a] c
  have t3:=zcp ls' (a,b) [a,c] b
  have b1:=zi4 ls' hl (a,b) [] a (by simp)
  have b2:=zi4 ls' hl (a,b) [a] c (by simp)
  rw [I.beh1 p h] at b1
  rw [I.beh2 p h] at b2
  simp only [List.nil_append,List.cons_append] at t1 t2 t3 b1 b2
  unfold zah
  rw [show (1000:Nat)=997+1+1+1 from rfl,z9x]
  simp only [zjl,zdp,z9h,zjk]
  rw [t1,z5p,decide_eq_true (show a<b by omega),if_pos rfl,b1,zh5,z9x]
  simp only [zjl,zdp,z9h,zjk]
  rw [t2,z5p,decide_eq_true (show c<b by omega),if_pos rfl,b2,zh5,z9x]
  simp only [zjl,zdp,z9h,zjk]
  rw [t3,z5p,decide_eq_false (show ¬b<b by omega),if_neg Bool.false_ne_true]
 rw [show D.lst [D.int a]=L [a] from rfl,w]
 walk_at "dz"
 rfl
theorem zq5 {n:Int} {ls ls':List P2} {T:List P3} (I:CInv n ls T) (p:ls'.Perm ls) (hl:ls.length<=60) :
  z7f [.int n,.tup (ls'.map T2)]=.ok (.lst ((so3 T).map T3)):=by
 have hl':ls'.length<=60:=by rw [p.length_eq];exact hl
 unfold z7f zi1
 walk_at "dz"
 rw [show zj7 (D.lst [D.tup [D.int 0,D.int (n - 1)]]) (D.lst (ls'.map T2))=some (.lst (((0,n - 1)::ls').map T2)) by
  simp only [zj7];rw [if_pos (by simp;omega)];rfl]
 obtain ⟨tops,ht⟩:∃tops:List P2,tops=(0,n - 1)::ls':=⟨_,rfl⟩
 have hlt:tops.length<=61:=by rw [ht,List.length_cons];omega
 rw [<-ht]
 have kp:keeps true (D.lst (tops.map T2))=true:=by rw [z6f];exact z2q _ _ fun x _=>zds x
 simp only [R.of_some,z5p,kp]
 walk_at "dz"
 rw [if_pos (by rw [List.length_map];omega),z79 (en:=T2) (bs:=fun q=>[T2 q]) (g:=fun q=>T3 (thr T q)) tops (fun x _=>rfl) (fun q hq=>by
  obtain ⟨m1,m2⟩:=I.top_in p (by rw [<-ht];exact hq)
  unfold zb6
  walk_at "dz"
  generalize thr T q=u at m1 m2
  obtain ⟨a,c,b⟩:=u
  rw [<-m2]
  exact zq4 I p (by omega) a c b m1)]
 walk_at "dz"
 have e1:tops.map (fun q=>T3 (thr T q))=(tops.map (thr T)).map T3:=by rw [List.map_map];rfl
 have pm:(tops.map (thr T)).Perm T:=by rw [ht];exact I.tops p
 rw [e1,zhb _ (by rw [List.length_map];omega),z9l pm]
 walk_at "dz"
theorem z7m {n:Int} {ls ls':List P2} {T:List P3} (I:CInv n ls T) (p:ls'.Perm ls) (hl:ls.length<=60) :
  z15 [.tup [.int n,.tup (ls'.map T2)]]=.ok (.lst ((so3 T).map T3)):=by
 unfold z15 z7g
 walk_at "dz"
 rw [zq5 I p hl]
 walk_at "dz"
theorem z0l {a r:DS->SR} {ρ ρ':DS} (h:a ρ=.nx ρ'):z1h a r ρ=r ρ':=by rw [zlq,h,zlr]
theorem zi5 (i:Int):z13 [.int i]=.ok (.bl true):=by
 unfold z13 z5f
 walk_at "dz"
def pkv (ns:List Int) (k:Int):Int:=(zc8 ns (some k) (some (k+1))++[0]).getD 0 0
theorem zi6 (ns:List Int) (a b:Option Int):(zc8 ns a b).length<=ns.length:=by
 unfold zc8;simp only [List.length_drop,List.length_take];omega
theorem ze1 (ns:List Int) (hl:ns.length<=63) (k:Int):z0n [.scr ns,.int k]=.ok (.int (pkv ns k)):=by
 have h:=zi6 ns (some k) (some (k+1))
 unfold z0n z7e pkv
 walk_at "dz"
 generalize zc8 ns (some k) (some (k+1))=xs at h
 rw [show zj7 (L xs) (D.lst [D.int 0])=some (L (xs++[0])) by
  simp only [L,zj7,List.length_map,List.length_cons,List.length_nil,if_pos (show xs.length+(0+1)<=100000 by omega),List.map_append,List.map_cons,List.map_nil]]
 walk_at "dz"
 rw [zuc (by omega) (by simp)]
 rfl
theorem z56 (n c:Int) (h:0<=c/\c<n):z0c [.int n,.int c]=.ok .non:=by
 unfold z0c z1a
 walk_at "dz"
 rw [zi5]
 walk_at "dz"
 rw [decide_eq_true h.1,decide_eq_true h.2]
 walk_at "dz"
theorem y20 {fs:DE->R (List D)} {ρ:DE} (n:Nat) (hn:n<=100000) (h:fs ρ=.ok [.int (n:Int)]):∃xs:List Int,xs.length=n/\eLR fs ρ=.ok (L xs):=by
 refine ⟨(List.range n).map fun (k:Nat)=>(k:Int),by simp,?_⟩
 unfold eLR
 rw [h,R.bind_ok]
 simp only
 rw [if_pos (by omega),Int.toNat_natCast]
 first | done | simp only [L,List.map_map,Function.comp_def]
theorem y0u (xs:List Int):List.map (fun p=>D.tup [p.1,p.2]) ((zD 0 (xs.map D.int).length).zip (xs.map D.int))=(List.range xs.length).map fun (i:Nat)=>D.tup [.int (i:Int),.int (xs.getD i 0)]:=by
 rw [show xs.map D.int=(List.range xs.length).map fun i=>D.int (xs.getD i 0) by
  conv=>lhs;rw [zlz xs 0]
  rw [List.map_map];rfl]
 exact zjq _ _
structure BS where
 o:List Int
 tp:List P3
 T:List P3
 row:List Int
 ls:List P2
 v:Nat->Vc
def bs0:BS:=⟨[0,1,2],[(0,1,2)],[(0,1,2)],[1,1,1],[],v3⟩
def BS.c (s:BS) (x:Int):Nat:=(x % (s.o.length:Int)).toNat
def BS.step (s:BS) (x:Int):BS:=⟨pin s.o (s.c x+1) (s.o.length:Int),s.tp.map (sh3 (s.c x:Int))++[nwT s.o.length (s.c x)],s.T.map (sh3 (s.c x:Int))++[z4v (s.o.length:Int) (s.c x:Int)],z7v s.row (s.c x),s.ls.map (sh2 (s.c x:Int))++[z2x (s.o.length:Int) (s.c x:Int)],gV s.o.length (s.c x) s.v⟩
def bs (sp:List Int):BS:=sp.foldl BS.step bs0
structure BS.Ok (s:BS):Prop where
 nm:Nm s.o s.tp s.T
 fl:Flr s.row s.ls s.T s.v
 on:On s.o.length s.ls s.v
 md:Md (s.o.length:Int) s.T
 len:s.row.length=s.o.length
 tl:s.tp.length+2=s.o.length
theorem zmk:bs0.Ok:=⟨nm0,y1z,on3,md3,rfl,rfl⟩
theorem BS.c_lt {s:BS} (O:s.Ok) (x:Int):s.c x<s.o.length:=by
 have:=O.nm.l3
 have m0:0<=x % (s.o.length:Int):=Int.emod_nonneg _ (by omega)
 have m1:x % (s.o.length:Int)<s.o.length:=Int.emod_lt_of_pos _ (by omega)
 unfold BS.c;omega
theorem BS.Ok.step {s:BS} (O:s.Ok) (x:Int):(s.step x).Ok/\(s.step x).o.length=s.o.length+1:=by
 have hc:=BS.c_lt O x
 have hl:(s.step x).o.length=s.o.length+1:=zhz _ _ _
 have F:=O.fl.grow (s.c x) (by rw [O.len];exact hc)
 have C:=O.on.grow (by have:=O.fl.good.fr;rw [O.len] at this;exact this) O.nm.l3 (s.c x) hc
 have M:=O.md.grow (by have:=O.nm.l3;omega) (s.c x:Int) (by omega) (by omega)
 rw [O.len] at F
 refine ⟨⟨(O.nm.grow _ hc).1,F,?_,?_,?_,?_⟩,hl⟩
 . rw [hl];exact C
 . rw [hl];exact M
 . rw [hl]
   show (z7v s.row (s.c x)).length=_
   rw [z33 _ _ (by rw [O.len];exact hc),O.len]
 . rw [hl]
   show (s.tp.map _++[_]).length+2=_
   rw [List.length_append,List.length_map,List.length_singleton]
   have:=O.tl;omega
theorem zml:∀(sp:List Int) (s:BS),s.Ok->(sp.foldl BS.step s).Ok/\(sp.foldl BS.step s).o.length=s.o.length+sp.length
 | [],s,O=>⟨O,rfl⟩
 | x::sp,s,O=>by
  obtain ⟨O',hl⟩:=O.step x
  obtain ⟨h1,h2⟩:=zml sp _ O'
  exact ⟨h1,by rw [List.foldl_cons,h2,hl,List.length_cons];omega⟩
theorem zvy (sp:List Int):(bs sp).Ok/\(bs sp).o.length=sp.length+3:=by
 obtain ⟨h1,h2⟩:=zml sp bs0 zmk
 exact ⟨h1,by unfold bs;rw [h2];show 3+sp.length=_;omega⟩
theorem zq6 (S0:Sl) (s:BS) (O:s.Ok) (ho:s.o.length<=900) (spot:Int) (s4:Sl) (r:List Sl) :
  z18 (S0::.ow (L s.o)::.ow (.lst ((s.tp.map (nm3 s.o)).map L))::.im (.int spot)::s4::r) =
   .nx (S0::.ow (L (s.step spot).o)::.ow (.lst (((s.step spot).tp.map (nm3 (s.step spot).o)).map L))::.im (.int spot)::.im (.int (s.c spot:Int))::r):=by
 have h3:=O.nm.l3
 have hn:0<(s.o.length:Int):=Int.ofNat_lt.mpr (Nat.lt_of_lt_of_le (by decide) h3)
 have m0:0<=spot % (s.o.length:Int):=Int.emod_nonneg _ (Int.ne_of_gt hn)
 have hc:=BS.c_lt O spot
 have hc':spot % (s.o.length:Int)=(s.c spot:Int):=(Int.toNat_of_nonneg m0).symm
 have e:=(O.nm.grow (s.c spot) hc).2
 have htl:=O.tl
 show _=SR.nx (S0::.ow (L (pin s.o (s.c spot+1) (s.o.length:Int)))::.ow (.lst (((s.tp.map (sh3 (s.c spot:Int))++[nwT s.o.length (s.c spot)]).map (nm3 (pin s.o (s.c spot+1) (s.o.length:Int)))).map L))::.im (.int spot)::.im (.int (s.c spot:Int))::r)
 rw [<-e]
 generalize s.c spot=c at hc hc' e
 have hm:((c:Int)+1) % (s.o.length:Int)=(((c+1) % s.o.length:Nat):Int):=by
  rw [show (c:Int)+1=((c+1:Nat):Int) from rfl];rfl
 have hm2:(c+1) % s.o.length<s.o.length:=Nat.mod_lt _ (Nat.lt_of_lt_of_le (by decide) h3)
 have hx:(s.tp.map (nm3 s.o)).length<1000:=by rw [List.length_map];omega
 generalize s.tp.map (nm3 s.o)=xs at hx
 generalize s.o=o at *
 unfold z18
 walk_at "dz"
 rw [z4n hn,hc']
 walk_at "dz"
 rw [y0n hc,z4n hn,hm]
 walk_at "dz"
 rw [y0n hm2]
 walk_at "dz"
 rw [show zlf (.lst (xs.map L)) [.lst [.int (o.getD c 0),.int (o.length:Int),.int (o.getD ((c+1) % o.length) 0)]]=some (.lst ((xs++[[o.getD c 0,(o.length:Int),o.getD ((c+1) % o.length) 0]]).map L)) by
  simp only [zlf,List.length_map,if_pos (show xs.length<100000 from Nat.lt_trans hx (by decide)),List.map_append,List.map_cons,List.map_nil,L]]
 walk_at "dz"
 rw [zyt (x:=(c:Int)+1) (Int.natCast_nonneg (c+1)) (Int.ofNat_le.mpr hc) (Nat.lt_of_le_of_lt ho (by decide))]
 walk_at "dz"
 rw [show ((c:Int)+1).toNat=c+1 from rfl]
 rfl
theorem zmm (o:List Int) (x:Int):((Sum.inl x:Key)∈o.map fun x=>(Sum.inl x:Key))↔x∈o:=by
 rw [List.mem_map]
 constructor
 . rintro ⟨y,hy,e⟩;cases e;exact hy
 . intro h;exact ⟨x,h,rfl⟩
theorem zq7 (A B C E F:Sl) (o:List Int) (k:Nat) (ho:o.length<1000) (nd:o.Nodup) (hk:k<o.length) :
  z19 [A,B,C,E,F,.ow (.dk ((o.take k).map fun x=>(Sum.inl x:Key)) ((List.range k).map fun (k:Nat)=>D.int (k:Int))),.im (.int (k:Int)),.im (.int (o.getD k 0))] =
   .nx [A,B,C,E,F,.ow (.dk ((o.take (k+1)).map fun x=>(Sum.inl x:Key)) ((List.range (k+1)).map fun (k:Nat)=>D.int (k:Int))),.im (.int (k:Int)),.im (.int (o.getD k 0))]:=by
 have hn:o.getD k 0∉o.take k:=fun h=>by
  have e:o.getD k 0=o[k]:=by rw [List.getD_eq_getElem?_getD,List.getElem?_eq_getElem hk];rfl
  rw [e] at h
  obtain ⟨j,hj,hjk⟩:=List.mem_take_iff_getElem.mp h
  have:j=k:=(List.getElem_inj nd).mp hjk
  omega
 have et:o.take (k+1)=o.take k++[o.getD k 0]:=by
  rw [List.take_succ,List.getD_eq_getElem?_getD,List.getElem?_eq_getElem hk];rfl
 unfold z19
 walk_at "dz"
 simp only [zez,zg8,Option.map_some]
 rw [if_pos (by rw [List.length_map,List.length_take];omega)]
 walk_at "dz"
 unfold z4h z7o
 rw [if_neg (by rw [zmm];exact hn),if_neg (by rw [zmm];exact hn),et,List.map_append,List.range_succ,List.map_append]
 rfl
theorem zq8 {o:List Int} (nd:o.Nodup) (i:Nat) (hi:i<o.length):L2.lookD (o.map fun x=>(Sum.inl x:L2.Key)) ((List.range o.length).map fun (k:Nat)=>L2.D.int (k:Int)) (Sum.inl (o.getD i 0))=some (.int (i:Int)):=by
 have key:∀(o:List Int) (s i:Nat),o.Nodup->i<o.length->L2.lookD (o.map fun x=>(Sum.inl x:L2.Key)) ((List.range' s o.length).map fun (k:Nat)=>L2.D.int (k:Int)) (Sum.inl (o.getD i 0))=some (.int ((s+i:Nat):Int)):=by
  intro o
  induction o with
  | nil=>intro s i _ h;simp at h
  | cons x o ih=>
   intro s i nd h
   rw [List.nodup_cons] at nd
   cases i with
   | zero=>simp [L2.lookD,List.range'_succ]
   | succ i=>
    have hx:¬x=o.getD i 0:=fun e=>nd.1 (by
     rw [e,List.getD_eq_getElem?_getD,List.getElem?_eq_getElem (by simpa using h)]
     exact List.getElem_mem _)
    have:=ih (s+1) i nd.2 (by simpa using h)
    rw [show s+1+i=s+(i+1) by omega] at this
    rw [<-this]
    simp only [L2.lookD,List.map_cons,List.length_cons,List.range'_succ,List.zip_cons_cons,List.getD_cons_succ]
    rw [List.find?_cons_of_neg (by simpa using hx)]
 have:=key o 0 i nd hi
 rw [Nat.zero_add,<-List.range_eq_range'] at this
 exact this
theorem zkh {o:List Int} (nd:o.Nodup) (i:Int) (h0:0<=i) (h1:i<o.length):dIx (.dk (o.map fun x=>(Sum.inl x:Key)) ((List.range o.length).map fun (k:Nat)=>D.int (k:Int))) (.int (o.getD i.toNat 0))=some (.int i):=by
 have:=zq8 nd i.toNat (by omega)
 rw [Int.toNat_of_nonneg h0] at this
 simp only [dIx,dOr,zwh,zam,zg8,Option.map_some,this,Option.bind_some,id,z93]
theorem zq9 {p:P3} (h:p.1<p.2.1/\(p.2.1<p.2.2\/p.2.2<p.1)):soI [p.1,p.2.1,p.2.2]=cor (rot p):=by
 obtain ⟨a,b,c⟩:=p
 simp only at h
 unfold rot cor
 simp only
 by_cases h1:b<c
 . rw [if_pos h1]
   simp [soI,z7t,zm0,ltT,show ¬c<b by omega,show ¬b<a by omega]
 . rw [if_neg h1]
   have h2:c<a:=by omega
   simp [soI,z7t,zm0,ltT,show c<b by omega,show ¬b<a by omega,h2]
def L3 (t:P3):D:=L (cor t)
theorem zi7 (T:List P3) (h:T.length<64):z4r [.lst (T.map L3)]=some (.lst ((so3 T).map L3)):=by
 have hall:(T.map L3).all zv1=true:=by
  rw [List.all_eq_true];intro d hd;obtain ⟨t,_,rfl⟩:=List.mem_map.mp hd;rfl
 simp only [z4r]
 rw [if_pos ⟨by rw [List.length_map];exact h,hall⟩,List.map_map,show toT∘L3=T3 from rfl,z7b,List.map_map,show toL∘T3=L3 from rfl]
theorem zki (sp:List Int) (hs:sp.length<=57):z1e [L sp]=.ok (.lst ((so3 (bs sp).T).map L3)):=by
 obtain ⟨O,hol⟩:=zvy sp
 unfold z1e z5u
 walk_at "dz"
 simp only [L,List.map_cons,List.map_nil]
 walk_at "dz"
 obtain ⟨ρ',e,s,s3,s4,Os,hl,hb,hr⟩:=z3i (tg:=.n 3) (g:=z18) (en:=D.int)
  (fun r ρ=>∃(s:BS) (s3 s4:Sl),s.Ok/\s.o.length+r.length=sp.length+3/\bs sp=r.foldl BS.step s/\ρ=[.im (L sp),.ow (L s.o),.ow (.lst ((s.tp.map (nm3 s.o)).map L)),s3,s4,.em,.em,.em])
  sp [.im (L sp),.ow (L [0,1,2]),.ow (.lst [L [0,1,2]]),.em,.em,.em,.em,.em] ⟨bs0,.em,.em,zmk,Nat.add_comm 3 sp.length,rfl,rfl⟩ (by
   rintro x r ρ ⟨s,s3,s4,Os,hl,hb,rfl⟩
   simp only [List.length_cons] at hl
   obtain ⟨O',hl'⟩:=Os.step x
   exact ⟨_,_,rfl,Or.inl (zq6 (.im (L sp)) s Os (Nat.le_trans (Nat.le_trans (Nat.le_add_right _ _) (Nat.le_of_eq hl)) (Nat.le_trans (Nat.add_le_add_right hs 3) (by decide))) x s4 [.em,.em,.em]),⟨_,_,_,O',(by rw [hl',Nat.add_assoc,Nat.add_comm 1];exact hl),hb,rfl⟩⟩)
 simp only [L,List.map_cons,List.map_nil] at e
 rw [e,hr]
 have hs':bs sp=s:=hb
 rw [hs'] at O hol ⊢
 clear hb hs' e
 have nd:=O.nm.nd
 have h3:=O.nm.l3
 have o60:s.o.length<=60:=hol ▸ Nat.add_le_add_right hs 3
 have t60:s.tp.length<=60:=Nat.le_trans (Nat.le_trans (Nat.le_add_right _ 2) (Nat.le_of_eq O.tl)) o60
 have hx:(s.tp.map (nm3 s.o)).length<=1000:=by rw [List.length_map];exact Nat.le_trans t60 (by decide)
 obtain ⟨xs,hxs⟩:∃xs,xs=(s.tp.map (nm3 s.o)).map L:=⟨_,rfl⟩
 have hx2:xs.length<=1000:=by rw [hxs,List.length_map];exact hx
 rw [<-hxs]
 walk_at "dz"
 simp only [zo8]
 walk_at "dz"
 rw [show keeps true (D.dk [] [])=true from rfl]
 walk_at "dz"
 simp only [iEn]
 walk_at "dz"
 simp only [L]
 walk_at "dz"
 rw [y0u]
 obtain ⟨ρ2,e2,s6,s7,hr2⟩:=z9i (tg:=.t [6,7]) (g:=z19) s.o.length (fun (i:Nat)=>D.tup [.int (i:Int),.int (s.o.getD i 0)])
  (fun k ρ=>∃s6 s7:Sl,ρ=[.im (.lst (sp.map D.int)),.im (.lst (s.o.map D.int)),.ow (.lst xs),s3,s4,.ow (.dk ((s.o.take k).map fun x=>(Sum.inl x:Key)) ((List.range k).map fun (k:Nat)=>D.int (k:Int))),s6,s7])
  [.im (.lst (sp.map D.int)),.im (.lst (s.o.map D.int)),.ow (.lst xs),s3,s4,.ow (.dk [] []),.em,.em] ⟨.em,.em,rfl⟩ (by
   rintro k hk ρ ⟨s6,s7,rfl⟩
   exact ⟨_,_,rfl,Or.inl (zq7 _ _ _ _ _ s.o k (Nat.lt_of_le_of_lt o60 (by decide)) nd hk),⟨_,_,rfl⟩⟩)
 rw [e2,hr2,List.take_length]
 walk_at "dz"
 rw [if_pos (Nat.le_trans hx2 (by decide)),hxs,List.map_map,z79 (en:=L∘nm3 s.o) (bs:=fun q=>[L (nm3 s.o q)]) (g:=fun q=>L3 (rot q)) s.tp (fun x _=>rfl) (fun q hq=>by
  have hi:=O.nm.inn q hq
  unfold z3y
  walk_at "dz"
  rw [if_pos (by simp [nm3])]
  rw [z79 (en:=D.int) (bs:=fun x=>[D.int x]) (g:=fun x=>(dIx (.dk (s.o.map fun x=>(Sum.inl x:Key)) ((List.range s.o.length).map fun (k:Nat)=>D.int (k:Int))) (.int x)).getD .non) (nm3 s.o q) (fun x _=>rfl) (fun x hx=>by
   unfold z3x
   walk_at "dz"
   have:∃i:Int,0<=i/\i<s.o.length/\x=s.o.getD i.toNat 0:=by
    unfold nm3 at hx
    simp only [List.mem_cons,List.not_mem_nil,or_false] at hx
    rcases hx with e | e | e
    . exact ⟨_,hi.1.1,hi.1.2,e⟩
    . exact ⟨_,hi.2.1.1,hi.2.1.2,e⟩
    . exact ⟨_,hi.2.2.1,hi.2.2.2,e⟩
   obtain ⟨i,i0,i1,rfl⟩:=this
   rw [zkh nd i i0 i1]
   walk_at "dz")]
  simp only [nm3,List.map_cons,List.map_nil]
  rw [zkh nd _ hi.1.1 hi.1.2,zkh nd _ hi.2.1.1 hi.2.1.2,zkh nd _ hi.2.2.1 hi.2.2.2]
  simp only [Option.getD_some,R.bind_ok]
  rw [show D.lst [.int q.1,.int q.2.1,.int q.2.2]=L [q.1,q.2.1,q.2.2] from rfl,zjt _ (by simp),zq9 (O.nm.shp q hq)]
  walk_at "dz"
  rfl)]
 simp only [R.bind_ok]
 have hT:s.tp.map (fun q=>L3 (rot q))=s.T.map L3:=by rw [<-O.nm.srt,List.map_map];rfl
 have hTl:s.T.length<64:=by rw [<-O.nm.srt,List.length_map];exact Nat.lt_of_le_of_lt t60 (by decide)
 rw [hT,zi7 _ hTl]
 generalize (so3 s.T).map L3=ys
 walk_at "dz"
def kT2 (p:P2):NK:=.t [.i p.1,.i p.2]
theorem zqa {p q:P2} (h:kT2 p=kT2 q):p=q:=by
 obtain ⟨a,b⟩:=p;obtain ⟨c,d⟩:=q
 simp only [kT2,NK.t.injEq,List.cons.injEq,NK.i.injEq,and_true] at h
 rw [h.1,h.2]
def zkj (ks:List P2) (p:P2):List P2:=if p∈ks then ks else ks++[p]
theorem zqb (ks:List P2) (p:P2):z4h (ks.map kT2) (kT2 p)=(zkj ks p).map kT2:=by
 have hm:kT2 p∈ks.map kT2↔p∈ks:=by
  rw [List.mem_map]
  exact ⟨fun ⟨q,hq,e⟩=>zqa e ▸ hq,fun h=>⟨p,h,rfl⟩⟩
 unfold z4h zkj
 by_cases h:p∈ks
 . rw [if_pos h,if_pos (hm.mpr h)]
 . rw [if_neg h,if_neg (fun z=>h (hm.mp z)),List.map_append];rfl
def zbd (n:Int) (p:P2):Bool:=decide (1<p.2 - p.1)&&!(decide (p.1=0)&&decide (p.2=n - 1))
def ad1 (n:Int) (ks:List P2) (p:P2):List P2:=if zbd n p=true then zkj ks p else ks
def prs (t:P3):List P2:=[(t.1,t.2.1),(t.2.1,t.2.2),(t.1,t.2.2)]
def ad3 (n:Int) (ks:List P2) (t:P3):List P2:=(prs t).foldl (ad1 n) ks
theorem zkk (ks:List P2) (p x:P2):x∈zkj ks p↔x∈ks\/x=p:=by
 unfold zkj
 split
 . rename_i h
   exact ⟨.inl,fun z=>z.elim id fun e=>e ▸ h⟩
 . rw [List.mem_append,List.mem_singleton]
theorem zqc {ks:List P2} (p:P2) (h:ks.Nodup):(zkj ks p).Nodup:=by
 unfold zkj
 split
 . exact h
 . rename_i hk
   exact List.nodup_append.mpr ⟨h,by simp,fun x hx y hy e=>hk (by rw [List.mem_singleton.mp hy] at e;rw [<-e];exact hx)⟩
theorem zkl (ks:List P2) (p:P2):(zkj ks p).length<=ks.length+1:=by
 unfold zkj;split
 . omega
 . simp
theorem zqd (n:Int) (ks:List P2) (p x:P2):x∈ad1 n ks p↔x∈ks\/(x=p/\zbd n x=true):=by
 unfold ad1
 by_cases h:zbd n p=true
 . rw [if_pos h,zkk]
   exact ⟨fun z=>z.imp id fun e=>⟨e,e ▸ h⟩,fun z=>z.imp id (·.1)⟩
 . rw [if_neg h]
   exact ⟨.inl,fun z=>z.elim id fun ⟨e,q⟩=>absurd (e ▸ q) h⟩
theorem zvz {n:Int} {ks:List P2} (p:P2) (h:ks.Nodup):(ad1 n ks p).Nodup:=by
 unfold ad1;split
 . exact zqc p h
 . exact h
theorem zi8 (n:Int) (ks:List P2) (p:P2):(ad1 n ks p).length<=ks.length+1:=by
 unfold ad1;split
 . exact zkl ks p
 . omega
theorem zqe (n:Int):∀(ps ks:List P2),(∀x,x∈ps.foldl (ad1 n) ks↔x∈ks\/(x∈ps/\zbd n x=true))/\(ks.Nodup->(ps.foldl (ad1 n) ks).Nodup)/\(ps.foldl (ad1 n) ks).length<=ks.length+ps.length
 | [],ks=>⟨fun x=>by simp,id,by simp⟩
 | p::ps,ks=>by
  obtain ⟨h1,h2,h3⟩:=zqe n ps (ad1 n ks p)
  refine ⟨fun x=>?_,fun h=>h2 (zvz p h),?_⟩
  . rw [List.foldl_cons,h1,zqd,List.mem_cons]
    constructor
    . rintro ((h | ⟨h,q⟩) | ⟨h,q⟩)
      . exact .inl h
      . exact .inr ⟨.inl h,q⟩
      . exact .inr ⟨.inr h,q⟩
    . rintro (h | ⟨h | h,q⟩)
      . exact .inl (.inl h)
      . exact .inl (.inr ⟨h,q⟩)
      . exact .inr ⟨h,q⟩
  . have:=zi8 n ks p
    rw [List.foldl_cons,List.length_cons];omega
theorem zw0 (n:Int):∀(ts:List P3) (ks:List P2),(∀x,x∈ts.foldl (ad3 n) ks↔x∈ks\/((∃t∈ts,x∈prs t)/\zbd n x=true))/\(ks.Nodup->(ts.foldl (ad3 n) ks).Nodup)
 | [],ks=>⟨fun x=>by simp,id⟩
 | t::ts,ks=>by
  obtain ⟨h1,h2⟩:=zw0 n ts (ad3 n ks t)
  obtain ⟨g1,g2,_⟩:=zqe n (prs t) ks
  refine ⟨fun x=>?_,fun h=>h2 (g2 h)⟩
  rw [List.foldl_cons,h1]
  show (x∈(prs t).foldl (ad1 n) ks\/_)↔_
  rw [g1]
  constructor
  . rintro ((h | ⟨h,q⟩) | ⟨⟨u,hu,h⟩,q⟩)
    . exact .inl h
    . exact .inr ⟨⟨t,by simp,h⟩,q⟩
    . exact .inr ⟨⟨u,by simp [hu],h⟩,q⟩
  . rintro (h | ⟨⟨u,hu,h⟩,q⟩)
    . exact .inl (.inl h)
    . rcases List.mem_cons.mp hu with rfl | hu
      . exact .inl (.inr ⟨h,q⟩)
      . exact .inr ⟨⟨u,hu,h⟩,q⟩
theorem zi9 {n:Int} {ls:List P2} {T:List P3} (I:CInv n ls T):((so3 T).foldl (ad3 n) []).Perm ls:=by
 obtain ⟨h1,h2⟩:=zw0 n (so3 T) []
 refine (List.perm_ext_iff_of_nodup (h2 List.nodup_nil) I.nd).mpr fun x=>?_
 rw [h1]
 obtain ⟨p,q⟩:=x
 simp only [zbd,Bool.and_eq_true,decide_eq_true_eq,Bool.not_eq_true',Bool.and_eq_false_iff,decide_eq_false_iff_not]
 constructor
 . rintro (h | ⟨⟨t,ht,h⟩,q1,q2⟩)
   . cases h
   . obtain ⟨a,c,b⟩:=t
     have ht':=(z0x T).mem_iff.mp ht
     obtain ⟨i0,i1,i2,i3,i4,i5⟩:=I.tri a c b ht'
     simp only [prs,List.mem_cons,Prod.mk.injEq,List.not_mem_nil,or_false] at h
     rcases h with ⟨rfl,rfl⟩ | ⟨rfl,rfl⟩ | ⟨rfl,rfl⟩
     . rcases i4 with h | h
       . exact h
       . omega
     . rcases i5 with h | h
       . exact h
       . omega
     . have:=I.prm.mem_iff.mp (List.mem_map.mpr ⟨_,ht',rfl⟩)
       simp only [outer] at this
       rcases List.mem_cons.mp this with h | h
       . rw [Prod.mk.injEq] at h;omega
       . exact h
 . intro h
   obtain ⟨j0,j1,j2,j3⟩:=I.lin p q h
   have:=I.prm.mem_iff.mpr (List.mem_cons_of_mem _ h)
   obtain ⟨t,ht,e⟩:=List.mem_map.mp this
   refine .inr ⟨⟨t,(z0x T).mem_iff.mpr ht,?_⟩,by omega,by omega⟩
   simp only [outer,Prod.mk.injEq] at e
   simp only [prs,List.mem_cons,Prod.mk.injEq,List.not_mem_nil,or_false]
   exact .inr (.inr ⟨e.1.symm,e.2.symm⟩)
theorem zw1 (n:Int) (S1:Sl) (ks:List P2) (ds:List D) (hk:ks.length<9000) (a c b:Sl) (p:P2) :
  ∃ds',z1f [.im (.int n),S1,.ow (.dn (ks.map kT2) ds),a,c,b,.im (.int p.1),.im (.int p.2)]=.nx [.im (.int n),S1,.ow (.dn ((ad1 n ks p).map kT2) ds'),a,c,b,.im (.int p.1),.im (.int p.2)]:=by
 unfold z1f
 walk_at "dz"
 show ∃ds',(if zbd n p=true then _ else _)=_
 unfold ad1
 by_cases h:zbd n p=true
 . rw [if_pos h]
   refine ⟨z7o (ks.map kT2) ds (kT2 p) (.bl true),?_⟩
   rw [if_pos h]
   walk_at "dz"
   rw [show dSetN (.dn (ks.map kT2) ds) (.tup [.int p.1,.int p.2]) (.bl true)=some (.dn (z4h (ks.map kT2) (kT2 p)) (z7o (ks.map kT2) ds (kT2 p) (.bl true))) by
    unfold dSetN
    simp only [nkD,zqv,Option.map_some]
    rw [if_pos ⟨by rw [List.length_map];omega,by simp [NK.dep,z3r]⟩];rfl,zqb]
   walk_at "dz"
 . rw [if_neg h]
   refine ⟨ds,?_⟩
   rw [if_neg h]
theorem zw2 (n:Int) (S1:Sl) (ks:List P2) (ds:List D) (hk:ks.length<8000) (t:P3) (s6 s7:Sl) :
  ∃ds' t6 t7,z20 [.im (.int n),S1,.ow (.dn (ks.map kT2) ds),.im (.int t.1),.im (.int t.2.1),.im (.int t.2.2),s6,s7]=.nx [.im (.int n),S1,.ow (.dn ((ad3 n ks t).map kT2) ds'),.im (.int t.1),.im (.int t.2.1),.im (.int t.2.2),t6,t7]:=by
 unfold z20
 walk_at "dz"
 obtain ⟨ρ',e,ks',ds',t6,t7,h1,h2,hr⟩:=z3i (tg:=.t [6,7]) (g:=z1f) (en:=T2)
  (fun r ρ=>∃(ks':List P2) (ds':List D) (t6 t7:Sl),r.foldl (ad1 n) ks'=ad3 n ks t/\ks'.length+r.length<=ks.length+3/\ρ=[.im (.int n),S1,.ow (.dn (ks'.map kT2) ds'),.im (.int t.1),.im (.int t.2.1),.im (.int t.2.2),t6,t7])
  (prs t) [.im (.int n),S1,.ow (.dn (ks.map kT2) ds),.im (.int t.1),.im (.int t.2.1),.im (.int t.2.2),s6,s7] ⟨ks,ds,s6,s7,rfl,by simp [prs],rfl⟩ (by
   rintro p r ρ ⟨ks',ds',t6,t7,h1,h2,rfl⟩
   simp only [List.length_cons] at h2
   obtain ⟨ds2,e⟩:=zw1 n S1 ks' ds' (by omega) (.im (.int t.1)) (.im (.int t.2.1)) (.im (.int t.2.2)) p
   have:=zi8 n ks' p
   exact ⟨_,_,rfl,Or.inl e,⟨_,_,_,_,h1,by omega,rfl⟩⟩)
 have e':zd5 (.t [6,7]) z1f [.tup [.int t.1,.int t.2.1],.tup [.int t.2.1,.int t.2.2],.tup [.int t.1,.int t.2.2]] [.im (.int n),S1,.ow (.dn (ks.map kT2) ds),.im (.int t.1),.im (.int t.2.1),.im (.int t.2.2),s6,s7]=.nx ρ':=e
 rw [Sl.frz_false,e',hr]
 rw [List.foldl_nil] at h1
 rw [h1]
 exact ⟨_,_,_,rfl⟩
theorem zzl {n:Int} {ls:List P2} {T:List P3} (I:CInv n ls T) (hl:ls.length<=57):z2f [.int n,.lst ((so3 T).map L3)]=.ok (.tup [.int n,.tup ((so2 ls).map T2)]):=by
 have hT:(so3 T).length<=58:=by
  have:=I.prm.length_eq
  rw [List.length_map,List.length_cons] at this
  rw [(z0x T).length_eq];omega
 have hp:=zi9 I
 have hpl:=hp.length_eq
 generalize hts:so3 T=ts at hT hp hpl
 unfold z2f z8b
 walk_at "dz"
 simp only [zpf]
 walk_at "dz"
 rw [show keeps true (D.dn [] [])=true from rfl]
 walk_at "dz"
 obtain ⟨ρ',e,ks,ds,s3,s4,s5,s6,s7,h1,h2,hr⟩:=z3i (tg:=.t [3,4,5]) (g:=z20) (en:=L3)
  (fun r ρ=>∃(ks:List P2) (ds:List D) (s3 s4 s5 s6 s7:Sl),r.foldl (ad3 n) ks=ts.foldl (ad3 n) []/\ks.length+3 * r.length<=174/\ρ=[.im (.int n),.im (.lst (ts.map L3)),.ow (.dn (ks.map kT2) ds),s3,s4,s5,s6,s7])
  ts [.im (.int n),.im (.lst (ts.map L3)),.ow (.dn [] []),.em,.em,.em,.em,.em] ⟨[],[],.em,.em,.em,.em,.em,rfl,by simp;omega,rfl⟩ (by
   rintro t r ρ ⟨ks,ds,s3,s4,s5,s6,s7,h1,h2,rfl⟩
   simp only [List.length_cons] at h2
   obtain ⟨ds2,t6,t7,e⟩:=zw2 n (.im (.lst (ts.map L3))) ks ds (by omega) t s6 s7
   have:=(zqe n (prs t) ks).2.2
   have h3:(ad3 n ks t).length<=ks.length+3:=this
   exact ⟨_,_,rfl,Or.inl e,⟨_,_,_,_,_,_,_,h1,by omega,rfl⟩⟩)
 rw [e,hr]
 rw [List.foldl_nil] at h1
 rw [<-h1] at hp hpl
 walk_at "dz"
 rw [show zb0 [.dn (ks.map kT2) ds]=some (.lst (ks.map T2)) by
  simp only [zb0,List.map_map];rfl]
 walk_at "dz"
 rw [zha _ (by omega),z9m hp]
 walk_at "dz"
theorem zia (k:Int) (xs:List Int):dIn true (.int k) (TuI xs)=some (.bl (!decide (k∈xs))):=by
 have e:(xs.map D.int).any (fun e=>eqD e (.int k))=decide (k∈xs):=by
  rw [List.any_map,Bool.eq_iff_iff,List.any_eq_true,decide_eq_true_eq]
  constructor
  . rintro ⟨x,hx,h⟩
    simp only [Function.comp,eqD,beq_iff_eq] at h
    rw [<-h];exact hx
  . intro h;exact ⟨k,h,by simp [eqD]⟩
 have h1:z40 (xs.map D.int)<=0:=z9k xs D.int 0 fun x=>by simp [D.dep]
 have h2:pls (xs.map D.int)=true:=zuj xs D.int fun x=>rfl
 unfold dIn dOr zwe
 simp only [TuI,D.pl,h2,true_and,if_pos (show z40 (xs.map D.int)<=20 by omega),e,if_true]
theorem zw3 (g:List Int) (c:Int) (h:g.length<=1000):zeo (TuI g) (.tup [.int c])=some (TuI (g++[c])):=by
 simp only [TuI,zeo,List.length_map,List.length_cons,List.length_nil]
 rw [if_pos (by omega),List.map_append];rfl
def xt1 (cs:List Int) (g:List Int):List (List Int):=(cs.filter fun c=>decide (c∉g)).map fun c=>g++[c]
theorem zib (cs g:List Int):(xt1 cs g).length<=cs.length:=by
 unfold xt1;rw [List.length_map];exact List.length_filter_le _ _
theorem zqf (g:List Int):(TuI g).noL=true:=by
 unfold TuI;simp only [D.noL];exact z2q _ _ fun x _=>zcd x
theorem zic (B0:Sl) (cs:List Int) (hc:cs.length<=100) (F:List (List Int)) (g:List Int) (hg:g.length<=1000) (hF:F.length<=99000) :
  z17 [B0,.im (L cs),.ow (.lst (F.map TuI)),.im (TuI g)]=.nx [B0,.im (L cs),.ow (.lst ((F++xt1 cs g).map TuI)),.im (TuI g)]:=by
 unfold z17
 walk_at "dz"
 rw [if_pos (by rw [List.length_map];omega),z4m (en:=D.int) (bs:=fun x=>[D.int x]) (p:=fun c=>decide (c∉g)) (g:=fun c=>TuI (g++[c])) cs (fun x _=>rfl) (fun c _=>by
  unfold z3v
  walk_at "dz"
  rw [zia]
  walk_at "dz"
  congr 1
  by_cases h:c∈g<;>simp [h]) (fun c _ _=>by
  unfold z3w
  walk_at "dz"
  rw [zw3 g c hg]
  walk_at "dz")]
 have hl:=zib cs g
 rw [show List.map (fun c=>TuI (g++[c])) (cs.filter fun c=>decide (c∉g))=(xt1 cs g).map TuI by unfold xt1;rw [List.map_map];rfl]
 generalize xt1 cs g=X at hl
 walk_at "dz"
 rw [show zt2 (.lst (F.map TuI)) [.lst (X.map TuI)]=some (.lst ((F++X).map TuI)) by
  simp only [zt2,List.length_map]
  rw [if_pos (by omega),List.map_append]]
 walk_at "dz"
 try rw [Sl.frz_false]
theorem zid (B:List (List Int)) (cs:List Int) (hc:cs.length<=3) (hB:B.length<=20000) (hg:∀g∈B,g.length<=1000):z1d [.lst (B.map TuI),L cs]=.ok (.lst ((B.flatMap (xt1 cs)).map TuI)):=by
 unfold z1d z5t
 walk_at "dz"
 obtain ⟨ρ',e,F,s3,h1,h2,hr⟩:=z3i (tg:=.n 3) (g:=z17) (en:=TuI)
  (fun r ρ=>∃(F:List (List Int)) (s3:Sl),F++r.flatMap (xt1 cs)=B.flatMap (xt1 cs)/\(F.length+3 * r.length<=60000/\∀g∈r,g.length<=1000)/\ρ=[.im (.lst (B.map TuI)),.im (L cs),.ow (.lst (F.map TuI)),s3])
  B [.im (.lst (B.map TuI)),.im (L cs),.ow (.lst []),.em] ⟨[],.em,rfl,⟨by simp;omega,hg⟩,rfl⟩ (by
   rintro g r ρ ⟨F,s3,h1,⟨h2,h3⟩,rfl⟩
   simp only [List.length_cons] at h2
   have hl:=zib cs g
   refine ⟨_,_,rfl,Or.inl (zic _ cs (by omega) F g (h3 g (by simp)) (by omega)),⟨_,_,?_,⟨?_,fun u hu=>h3 u (by simp [hu])⟩,rfl⟩⟩
   . rw [<-h1,List.flatMap_cons,List.append_assoc]
   . rw [List.length_append];omega)
 rw [e,hr]
 rw [List.flatMap_nil,List.append_nil] at h1
 walk_at "dz"
 rw [h1]
theorem zmn (E:List Int):∀(ts:List P3) (B:List (List Int)),(Sg E ts B).length<=B.length * 3 ^ ts.length
 | [],B=>by simp [Sg]
 | t::ts,B=>by
  have h:=zmn E ts (B.flatMap (xt E t))
  have h2:(B.flatMap (xt E t)).length<=3 * B.length:=by
   clear h
   induction B with
   | nil=>simp
   | cons g B ih=>
    have:(xt E t g).length<=3:=by
     unfold xt
     rw [List.length_map]
     exact Nat.le_trans (List.length_filter_le _ _) (Nat.le_trans (List.length_filter_le _ _) (Nat.le_refl 3))
    rw [List.flatMap_cons,List.length_append,List.length_cons];omega
  rw [List.length_cons,Nat.pow_succ]
  show (Sg E ts (B.flatMap (xt E t))).length<=_
  calc (Sg E ts (B.flatMap (xt E t))).length<=(B.flatMap (xt E t)).length * 3 ^ ts.length:=h
   _<=(3 * B.length) * 3 ^ ts.length:=Nat.mul_le_mul_right _ h2
   _=B.length * (3 ^ ts.length * 3):=by rw [Nat.mul_comm 3,Nat.mul_assoc,Nat.mul_comm 3]
def shr (i j:Int) (ts:List P3):List (List Int):=if i=j then [] else Sh [i,j] ts
theorem zex {n:Int} {ls:List P2} {T:List P3} (I:CInv n ls T) (hl:(ls.length:Int)+3=n) (h12:n<=12) (i j:Int) (hi:0<=i/\i<n) (hj:0<=j/\j<n) :
  z0a [.tup [.int n,.tup ((so2 ls).map T2)],.int i,.int j]=.ok (.lst ((shr i j (so3 T)).map TuI)):=by
 have et:=z7m I (z4p ls) (by omega)
 have hT:(so3 T).length<=10:=by
  have:=I.prm.length_eq
  rw [List.length_map,List.length_cons] at this
  rw [(z0x T).length_eq];omega
 generalize hcut:(D.tup [.int n,.tup ((so2 ls).map T2)])=cut at et
 have c0:dIx cut (.int 0)=some (.int n):=by rw [<-hcut];exact zh3 _ _
 generalize so3 T=ts at et hT
 have s1:∀k (hk:0<=k/\k<n) (v:Nat) (ρ:DS),see ρ=[some cut,some (.int i),some (.int j),none,none]->z04 v [some cut,some (.int i),some (.int j),none,none]=.ok (.int k)->z22 (z0k z0c (z01 (eOp dIx (z04 0) (eC (.int 0))) (z01 (z04 v) z0e))) ρ=.nx ρ:=fun k hk v ρ hs hv=>by
  simp only [z22,hs,z0k,z01,eOp,z0e,hv]
  walk_at "dz"
  rw [c0]
  walk_at "dz"
  rw [z56 n k hk]
  walk_at "dz"
 unfold z0a
 rw [zcc,if_pos (show [cut,D.int i,.int j].length=3 from rfl)]
 show SR.out true (z1m [.im cut,.im (.int i),.im (.int j),.em,.em])=_
 unfold z1m
 rw [z0l (s1 i hi 1 _ rfl rfl),z0l (s1 j hj 2 _ rfl rfl)]
 rw [z0l (ρ':=[.im cut,.im (.int i),.im (.int j),.em,.em]) (by
  walk_at "dz"
  rw [c0]
  walk_at "dz"
  rw [decide_eq_false (by first | exact Int.not_lt.mpr h12 | omega)]
  walk_at "dz")]
 by_cases hij:i=j
 . subst hij
   walk_at "dz"
   unfold shr
   rw [if_pos rfl]
   rfl
 . rw [z0l (ρ':=[.im cut,.im (.int i),.im (.int j),.em,.em]) (by
    walk_at "dz"
    rw [decide_eq_false hij]
    walk_at "dz")]
   rw [z0l (ρ':=[.im cut,.im (.int i),.im (.int j),.ow (.lst ([[]].map TuI)),.em]) (by
    walk_at "dz"
    rfl)]
   walk_at "dz"
   rw [et]
   walk_at "dz"
   obtain ⟨ρ',e,B,s4,h1,h2,hr⟩:=z3i (tg:=.n 4) (g:=z37) (en:=T3)
    (fun r ρ=>∃(B:List (List Int)) (s4:Sl),Sg [i,j] r B=Sh [i,j] ts/\(B.length * 3 ^ r.length<=59049/\∀g∈B,g.length+r.length<=10)/\ρ=[.im cut,.im (.int i),.im (.int j),.ow (.lst (B.map TuI)),s4])
    ts [.im cut,.im (.int i),.im (.int j),.ow (.lst ([[]].map TuI)),.em] ⟨[[]],.em,rfl,⟨by
     show 1 * 3 ^ ts.length<=3 ^ 10
     rw [Nat.one_mul];exact Nat.pow_le_pow_right (by decide) hT,by simp;omega⟩,rfl⟩ (by
     rintro t r ρ ⟨B,s4,h1,⟨h2,h3⟩,rfl⟩
     have hB:B.length<=19683:=by
      rw [List.length_cons,Nat.pow_succ] at h2
      exact Nat.le_of_mul_le_mul_right (Nat.le_trans (Nat.mul_le_mul_left _ (Nat.le_mul_of_pos_left 3 (Nat.pow_pos (by decide)))) h2:B.length * 3<=19683 * 3) (by decide)
     have hcs:((cor t).filter fun c=>decide (c∉[i,j])).length<=3:=Nat.le_trans (List.length_filter_le _ _) (Nat.le_refl 3)
     refine ⟨_,[.im cut,.im (.int i),.im (.int j),.ow (.lst ((B.flatMap (xt [i,j] t)).map TuI)),.im (T3 t)],rfl,Or.inl ?_,⟨_,_,h1,⟨?_,fun g hg=>?_⟩,rfl⟩⟩
     . unfold z37
       walk_at "dz"
       rw [show [D.int t.1,D.int t.2.1,D.int t.2.2]=(cor t).map D.int from rfl,z4m (en:=D.int) (bs:=fun x=>[D.int x]) (p:=fun c=>decide (c∉[i,j])) (g:=fun c=>D.int c) (cor t) (fun x _=>rfl) (fun c _=>by
        unfold z5w
        walk_at "dz"
        congr 1
        rw [Bool.eq_iff_iff]
        simp only [Bool.and_eq_true,Bool.not_eq_true',decide_eq_false_iff_not,decide_eq_true_eq,List.mem_cons,List.not_mem_nil,or_false,not_or]) (fun c _ _=>by
        unfold z5x
        walk_at "dz")]
       simp only [R.bind_ok]
       have hg':∀g∈B,g.length<=1000:=fun g hg=>Nat.le_trans (Nat.le_add_right _ _) (Nat.le_trans (h3 g hg) (by decide))
       have e1:=zid B ((cor t).filter fun c=>decide (c∉[i,j])) hcs (Nat.le_trans hB (by decide)) hg'
       rw [show (D.lst (List.map (fun c=>D.int c) ((cor t).filter fun c=>decide (c∉[i,j]))))=L ((cor t).filter fun c=>decide (c∉[i,j])) from rfl,e1]
       rw [show xt1 ((cor t).filter fun c=>decide (c∉[i,j]))=xt [i,j] t from rfl]
       rw [z5p,show keeps true (D.lst ((B.flatMap (xt [i,j] t)).map TuI))=true by rw [z6f];exact z2q _ _ fun x _=>zqf x]
       walk_at "dz"
     . have:=zmn [i,j] [t] B
       have e3:(B.flatMap (xt [i,j] t)).length<=B.length * 3:=this
       rw [List.length_cons,Nat.pow_succ] at h2
       calc (B.flatMap (xt [i,j] t)).length * 3 ^ r.length<=(B.length * 3) * 3 ^ r.length:=Nat.mul_le_mul_right _ e3
        _=B.length * (3 ^ r.length * 3):=by rw [Nat.mul_assoc,Nat.mul_comm 3]
        _<=59049:=h2
     . obtain ⟨g0,hg0,hx⟩:=List.mem_flatMap.mp hg
       obtain ⟨c,_,_,_,rfl⟩:=mem_xt.mp hx
       have:=h3 g0 hg0
       rw [List.length_cons] at this
       rw [List.length_append,List.length_singleton];omega)
   simp only [List.map_cons,List.map_nil] at e
   rw [e,hr]
   have h1':B=Sh [i,j] ts:=h1
   walk_at "dz"
   unfold shr
   rw [if_neg hij,<-h1']
theorem zie {f1 fb:DE->R D} {ix:List Nat} {ρ:DE} {d:D} {ds:List D} {kz:List Int} (e1:f1 ρ=.ok d) (e2:zb4 d=some ds) (h1:ds.length<64) (h2:ds.all z9o=true) (h3:(zk7 ix ρ).all zpo=true) (e3:z3t fb (zk7 ix ρ) ds=some kz) :
  z5s f1 ix fb ρ=.ok (.lst ((z5r kz).map fun i=>ds.getD i (.int 0))):=by
 unfold z5s
 rw [e1,R.bind_ok]
 simp only [e2]
 rw [if_pos ⟨h1,h2,h3⟩,e3];rfl
theorem z5m {α:Type} {fb:DE->R D} {cs:DE} {en:α->D} {k:α->Int}:∀(xs:List α),(∀x∈xs,fb (some (en x)::cs)=.ok (.int (k x)))->z3t fb cs (xs.map en)=some (xs.map k)
 | [],_=>rfl
 | x::xs,h=>by
  rw [List.map_cons,z3t,h x (by simp)]
  simp only
  rw [z5m xs fun y hy=>h y (by simp [hy])];rfl
theorem zqg (kz:List Int):(z5r kz).Pairwise fun i j=>kz.getD i 0<=kz.getD j 0:=by
 unfold z5r
 split
 . rename_i h
   match kz,h with
   | [],_=>exact .nil
   | [a],_=>exact List.pairwise_singleton _ _
   | a::b::r,h=>exact absurd h (by simp)
 . have so:=z43 (lt:=fun i j=>decide (kz.getD i 0<kz.getD j 0)) ⟨fun a=>by simp,fun {a b c}=>by simp;omega,fun {a b}=>by simp;omega⟩ (n:=kz.length) (by omega)
   have hs:=so.1.size_eq
   rw [List.pairwise_iff_getElem]
   intro i j hi hj hij
   rw [Array.length_toList] at hi hj
   have:=so.2 i j (Nat.le_of_lt hij) (by rw [hs] at hj;simpa using hj)
   simp only [decide_eq_false_iff_not] at this
   have e:∀i,(h:i<(z0q (fun i j=>decide (kz.getD i 0<kz.getD j 0)) (PySem.W.kas_sort kz.length)).size)->g (z0q (fun i j=>decide (kz.getD i 0<kz.getD j 0)) (PySem.W.kas_sort kz.length)) i=(z0q (fun i j=>decide (kz.getD i 0<kz.getD j 0)) (PySem.W.kas_sort kz.length))[i]:=fun i h=>by
    unfold g;rw [Array.getD_eq_getD_getElem?,Array.getElem?_eq_getElem h];rfl
   rw [e i hi,e j hj] at this
   rw [Array.getElem_toList,Array.getElem_toList]
   exact Int.not_lt.mp this
theorem zif {α:Type} (x0:α) (xs:List α) (k:α->Int) (en:α->D):∃ys:List α,ys.Perm xs/\(ys.Pairwise fun x y=>k x<=k y)/\(z5r (xs.map k)).map (fun i=>(xs.map en).getD i (.int 0))=ys.map en:=by
 have pm:=zhv (kz:=xs.map k)
 have pw:=zqg (xs.map k)
 rw [List.length_map] at pm
 have lt:∀i∈z5r (xs.map k),i<xs.length:=fun i hi=>List.mem_range.mp (pm.mem_iff.mp hi)
 have ek:∀i,i<xs.length->(xs.map k).getD i 0=k (xs.getD i x0):=fun i hi=>by
  rw [List.getD_eq_getElem?_getD,List.getElem?_map,List.getElem?_eq_getElem hi,List.getD_eq_getElem?_getD,List.getElem?_eq_getElem hi];rfl
 refine ⟨(z5r (xs.map k)).map fun i=>xs.getD i x0,?_,?_,?_⟩
 . have:=pm.map fun i=>xs.getD i x0
   rw [<-zlz xs x0] at this
   exact this
 . rw [List.pairwise_map]
   refine pw.imp_of_mem fun {i j} hi hj h=>?_
   rw [ek i (lt i hi),ek j (lt j hj)] at h;exact h
 . rw [List.map_map]
   refine List.map_congr_left fun i hi=>?_
   have hi:=lt i hi
   rw [List.getD_eq_getElem?_getD,List.getElem?_map,List.getElem?_eq_getElem hi]
   simp only [Function.comp,Option.map_some,Option.getD_some,List.getD_eq_getElem?_getD,List.getElem?_eq_getElem hi]
theorem y21 {n c:Int} {t:P3} (hc:0<=c/\c<n) (h:0<=t.1/\t.1<t.2.1/\t.2.1<t.2.2/\t.2.2<n):(z5r ((cor t).map (kq n c))).map (fun i=>((cor t).map D.int).getD i (.int 0))=(cor (rt c t)).map D.int:=by
 obtain ⟨ys,pm,pw,e⟩:=zif 0 (cor t) (kq n c) D.int
 rw [e]
 congr 1
 have k3:=zkd hc h
 have pm2:(cor (rt c t)).Perm (cor t):=by
  obtain ⟨a,b,d⟩:=t
  unfold rt cor
  dsimp only
  split
  . exact .refl _
  . split
    . exact (List.perm_append_comm (l₁:=[b,d]) (l₂:=[a]))
    . exact (List.perm_append_comm (l₁:=[d]) (l₂:=[a,b]))
 refine List.Perm.eq_of_pairwise (le:=fun x y=>kq n c x<=kq n c y) ?_ pw ?_ (pm.trans pm2.symm)
 . intro x y hx hy h1 h2
   have hx:=(pm.trans pm2.symm).mem_iff.mp hx
   unfold cor at hx hy
   simp only [List.mem_cons,List.not_mem_nil,or_false] at hx hy
   have h3:kq n c x=kq n c y:=Int.le_antisymm h1 h2
   rcases hx with rfl | rfl | rfl<;>rcases hy with rfl | rfl | rfl<;>first | rfl | (exfalso;omega)
 . unfold cor
   simp only [List.pairwise_cons,List.mem_cons,List.not_mem_nil,or_false,forall_eq_or_imp,forall_eq]
   refine ⟨⟨by omega,by omega⟩,by omega,by simp⟩
theorem zzm {fb:DE->R D} {cs:DE} {n c:Int} (t:P3) (h:∀x,fb (some (.int x)::cs)=.ok (.int (kq n c x))):z3t fb cs ((cor t).map D.int)=some ((cor t).map (kq n c)):=z5m _ fun x _=>h x
theorem zzn {f1 fb:DE->R D} {ix:List Nat} {ρ:DE} {d:D} {cs:DE} {n c:Int} {t:P3} (hc:0<=c/\c<n) (h:0<=t.1/\t.1<t.2.1/\t.2.1<t.2.2/\t.2.2<n) (e1:f1 ρ=.ok d) (e2:zb4 d=some ((cor t).map D.int)) (hs:zk7 ix ρ=cs) (h3:cs.all zpo=true)
  (hk:∀x,fb (some (.int x)::cs)=.ok (.int (kq n c x))):z5s f1 ix fb ρ=.ok (L (cor (rt c t))):=by
 subst hs
 rw [zie e1 e2 (by simp [cor]) (by simp [cor,z9o]) h3 (zzm t hk),y21 hc h];rfl
theorem zqh {n c:Int} {t:P3} (hc:0<=c/\c<n) (h:0<=t.1/\t.1<t.2.1/\t.2.1<t.2.2/\t.2.2<n):z10 [.int n,.int c,T3 t]=.ok (L (cor (rt c t))):=by
 have hn:0<n:=by omega
 unfold z10 z51
 walk_at "dz"
 rw [zzn (cs:=[some (.int n),some (.int c)]) (d:=T3 t) hc h (by walk_at "dz") rfl rfl rfl (fun x=>by
  unfold z36
  walk_at "dz"
  rw [z4n hn];rfl)]
 walk_at "dz"
theorem zzo {n c:Int} {ls ls':List P2} {T:List P3} (I:CInv n ls T) (p:ls'.Perm ls) (hl:ls.length<=60) (hc:0<=c/\c<n) :
  ∃ms:List P3,(∀t,t∈ms↔t∈T/\c∉cor t)/\(ms.Pairwise fun t u=>((rt c t).1 - (rt c t).2.2) % n<=((rt c u).1 - (rt c u).2.2) % n)/\ms.length<64 /\
   z2h [.tup [.int n,.tup (ls'.map T2)],.int c]=.ok (.lst (ms.map fun t=>L (cor (rt c t)))):=by
 have hn:0<n:=by omega
 have hTl:(so3 T).length<=61:=by
  have:=I.len
  rw [(z0x T).length_eq];omega
 obtain ⟨xs,hxs⟩:∃xs:List P3,xs=(so3 T).filter fun t=>decide (c∉cor t):=⟨_,rfl⟩
 have hxl:xs.length<=61:=by rw [hxs];exact Nat.le_trans (List.length_filter_le _ _) hTl
 have mem:∀t,t∈xs↔t∈T/\c∉cor t:=fun t=>by rw [hxs,List.mem_filter,(z0x T).mem_iff,decide_eq_true_eq]
 obtain ⟨ys,pm,pw,e⟩:=zif (0,0,0) xs (fun t=>((rt c t).1 - (rt c t).2.2) % n) (fun t=>L (cor (rt c t)))
 refine ⟨ys,fun t=>by rw [pm.mem_iff,mem],pw,by rw [pm.length_eq];omega,?_⟩
 unfold z2h
 rw [zcc,if_pos (show [D.tup [D.int n,D.tup (ls'.map T2)],D.int c].length=2 from rfl)]
 show SR.out true (z5h [.im (.tup [.int n,.tup (ls'.map T2)]),.im (.int c),.em,.em])=_
 unfold z5h
 rw [z0l (ρ':=[.im (.tup [.int n,.tup (ls'.map T2)]),.im (.int c),.im (.int n),.em]) (by walk_at "dz")]
 obtain ⟨zs,hz⟩:∃zs,zs=xs.map fun t=>L (cor (rt c t)):=⟨_,rfl⟩
 rw [z0l (ρ':=[.im (.tup [.int n,.tup (ls'.map T2)]),.im (.int c),.im (.int n),.ow (.lst zs)]) (by
  walk_at "dz"
  rw [z7m I p hl]
  walk_at "dz"
  rw [if_pos (by rw [List.length_map];omega),z4m (en:=T3) (bs:=fun q=>[T3 q]) (p:=fun t=>decide (c∉cor t)) (g:=fun t=>L (cor (rt c t))) (so3 T) (fun x _=>rfl) (fun t _=>by
   unfold z5y
   walk_at "dz"
   rw [show T3 t=TuI (cor t) from rfl,zia]
   walk_at "dz"
   congr 1
   by_cases h:c∈cor t<;>simp [h]) (fun t ht _=>by
   unfold z5z
   walk_at "dz"
   rw [zqh hc (I.rng ((z0x T).mem_iff.mp ht))]),<-hxs,<-hz]
  walk_at "dz"
  cases z3s zs<;>walk_at "dz")]
 have e3:z3t z38 [some (.int n)] zs=some (xs.map fun t=>((rt c t).1 - (rt c t).2.2) % n):=by
  rw [hz]
  exact z5m _ fun t _=>by
   unfold z38
   walk_at "dz"
   rw [show z93 (L (cor (rt c t))) (.int 0)=some (.int (rt c t).1) from rfl,show z93 (L (cor (rt c t))) (.int 2)=some (.int (rt c t).2.2) from rfl]
   walk_at "dz"
   rw [z4n hn]
   walk_at "dz"
 rw [<-hz] at e
 rw [zls,zie (d:=.lst zs) (ds:=zs) (kz:=xs.map fun t=>((rt c t).1 - (rt c t).2.2) % n) rfl rfl (by rw [hz,List.length_map];omega) (by
  rw [hz,List.all_eq_true];intro d hd;obtain ⟨t,_,rfl⟩:=List.mem_map.mp hd;simp [z9o,L,cor,isI]) rfl e3,e]
 rfl
theorem zmo (x:D):∀k:Nat,(List.replicate k [x]).flatten=List.replicate k x
 | 0=>rfl
 | k+1=>by rw [List.replicate_succ,List.flatten_cons,zmo x k];rfl
theorem zw4 (x:Int) (n:Nat) (h:n<=60):zqr (D.lst [D.int x]) (D.int (n:Int))=some (L (List.replicate n x)):=by
 simp only [zqr]
 rw [if_pos (by simp;omega),Int.toNat_natCast,zmo]
 simp [L]
theorem zkm (A B:Sl) (ns:List Int) (h2:ns.length<=1000) (x y z:Int) (hx:0<=x/\x<ns.length) (hy:0<=y/\y<ns.length) (hz:0<=z/\z<ns.length) :
  z3n [A,B,.ow (L ns),.im (.int x),.im (.int y),.im (.int z)]=.nx [A,B,.ow (L (ns.set y.toNat (ns.getD x.toNat 0+ns.getD z.toNat 0))),.im (.int x),.im (.int y),.im (.int z)]:=by
 unfold z3n
 walk_at "dz"
 rw [zuc hx.1 (by omega),zuc hz.1 (by omega)]
 walk_at "dz"
 rw [zp1 hy.1 hy.2]
 walk_at "dz"
def spr (v:Nat->Vc) (n:Nat) (c:Int):List Int:=(List.range n).map fun (j:Nat)=>if (j:Int)=c then 0 else mm v c.toNat j
theorem zw5 (v:Nat->Vc) (n:Nat) (c j:Int) (hj:0<=j/\j<n):(spr v n c).getD j.toNat 0=if j=c then 0 else mm v c.toNat j.toNat:=by
 unfold spr
 rw [List.getD_eq_getElem?_getD,List.getElem?_map,List.getElem?_range (by omega)]
 simp only [Option.map_some,Option.getD_some]
 rw [Int.toNat_of_nonneg hj.1]
theorem zkn {row:List Int} {ls ls':List P2} {T:List P3} {v:Nat->Vc} (I:CInv (row.length:Int) ls T) (O:On row.length ls v) (M:Md (row.length:Int) T) (p:ls'.Perm ls) (hl:ls.length<=57) (h60:row.length<=60) {c:Int} (hc:0<=c/\c<row.length) :
  z1l [.tup [.int (row.length:Int),.tup (ls'.map T2)],.int c]=.ok (L (spr v row.length c)):=by
 obtain ⟨ms,mem,pw,ml,e⟩:=zzo I p (Nat.le_trans hl (by decide)) hc
 obtain ⟨cut,hcut⟩:∃cut,cut=D.tup (ls'.map T2):=⟨_,rfl⟩
 rw [<-hcut] at e ⊢
 unfold z1l
 rw [zcc,if_pos (show [D.tup [D.int (row.length:Int),cut],D.int c].length=2 from rfl)]
 show SR.out true (z6k [.im (.tup [.int (row.length:Int),cut]),.im (.int c),.em,.em,.em,.em])=_
 unfold z6k
 rw [z0l (ρ':=[.im (.tup [.int (row.length:Int),cut]),.im (.int c),.em,.em,.em,.em]) (by
  walk_at "dz"
  rw [z56 _ c hc]
  walk_at "dz")]
 rw [z0l (ρ':=[.im (.tup [.int (row.length:Int),cut]),.im (.int c),.ow (L (List.replicate row.length 1)),.em,.em,.em]) (by
  walk_at "dz"
  rw [zw4 1 _ h60]
  walk_at "dz")]
 rw [z0l (ρ':=[.im (.tup [.int (row.length:Int),cut]),.im (.int c),.ow (L ((List.replicate row.length (1:Int)).set c.toNat 0)),.em,.em,.em]) (by
  walk_at "dz"
  rw [zp1 hc.1 (by rw [List.length_replicate];exact hc.2)]
  walk_at "dz")]
 have ini:∀j:Int,0<=j->j<row.length->((List.replicate row.length (1:Int)).set c.toNat 0).getD j.toNat 0=if j=c then 0 else 1:=fun j j0 j1=>by
  rw [z34 _ _ _ _ (by rw [List.length_replicate];omega)]
  by_cases h:j=c
  . rw [if_pos (by rw [h]),if_pos h]
  . rw [if_neg (by omega),if_neg h,List.getD_eq_getElem?_getD,List.getElem?_replicate,if_pos (by omega)];rfl
 obtain ⟨ρ',e2,ns,s3,s4,s5,n1,n2,n3,n4,hr⟩:=z3i (tg:=.t [3,4,5]) (g:=z3n) (en:=fun t=>L (cor (rt c t)))
  (fun r ρ=>∃(ns:List Int) (s3 s4 s5:Sl),ns.length=row.length/\(∀t∈r,t∈T/\c∉cor t)/\(r.Pairwise fun t u=>((rt c t).1 - (rt c t).2.2) % (row.length:Int)<=((rt c u).1 - (rt c u).2.2) % (row.length:Int)) /\
   (∀j:Int,0<=j->j<row.length->(∀t∈r,(rt c t).2.1≠j)->ns.getD j.toNat 0=if j=c then 0 else mm v c.toNat j.toNat)/\ρ=[.im (.tup [.int (row.length:Int),cut]),.im (.int c),.ow (L ns),s3,s4,s5])
  ms [.im (.tup [.int (row.length:Int),cut]),.im (.int c),.ow (L ((List.replicate row.length (1:Int)).set c.toNat 0)),.em,.em,.em]
  ⟨_,.em,.em,.em,by rw [List.length_set,List.length_replicate],fun t ht=>(mem t).mp ht,pw,fun j j0 j1 hj=>by
   rw [ini j j0 j1]
   by_cases h:j=c
   . rw [if_pos h,if_pos h]
   . rw [if_neg h,if_neg h]
     rcases y1y I O M hc ⟨j0,j1⟩ h with z | ⟨t,ht,hm,z⟩
     . exact z.symm
     . exact absurd z (hj t ((mem t).mpr ⟨ht,hm⟩)),rfl⟩ (by
   rintro t r ρ ⟨ns,s3,s4,s5,n1,n2,n3,n4,rfl⟩
   obtain ⟨tT,tc⟩:=n2 t (by simp)
   have tr:=I.rtr (c:=c) tT
   have t1:=tr (rt c t).1 (by simp [cor])
   have t2:=tr (rt c t).2.1 (by simp [cor])
   have t3:=tr (rt c t).2.2 (by simp [cor])
   have k3:=zkd hc (I.rng tT)
   have ne:∀x∈cor (rt c t),x≠c:=fun x hx e=>tc (by rw [zmi,e] at hx;exact hx)
   have pwt:=List.pairwise_cons.mp n3
   have far:∀x,(x=(rt c t).1\/x=(rt c t).2.2)->∀u∈t::r,(rt c u).2.1≠x:=fun x hx u hu eu=>by
    have w:=I.wide hc tT (n2 u hu).1 (by rcases hx with z | z<;>rw [<-z]<;>first | exact .inl eu | exact .inr eu)
    rcases List.mem_cons.mp hu with rfl | hu
    . omega
    . have:=pwt.1 u hu;omega
   have v1:=n4 (rt c t).1 t1.1 t1.2 (far _ (.inl rfl))
   have v3:=n4 (rt c t).2.2 t3.1 t3.2 (far _ (.inr rfl))
   rw [if_neg (ne _ (by simp [cor]))] at v1 v3
   have sm:=zq1 I O hc tT tc
   refine ⟨_,[.im (.tup [.int (row.length:Int),cut]),.im (.int c),.ow (L (ns.set (rt c t).2.1.toNat (ns.getD (rt c t).1.toNat 0+ns.getD (rt c t).2.2.toNat 0))),.im (.int (rt c t).1),.im (.int (rt c t).2.1),.im (.int (rt c t).2.2)],rfl,Or.inl (zkm _ _ ns (by omega) _ _ _ (by omega) (by omega) (by omega)),⟨_,_,_,_,by rw [List.length_set];exact n1,fun u hu=>n2 u (by simp [hu]),pwt.2,fun j j0 j1 hj=>?_,rfl⟩⟩
   rw [z34 _ _ _ _ (by omega)]
   by_cases h:j.toNat=(rt c t).2.1.toNat
   . have hj2:j=(rt c t).2.1:=by omega
     rw [if_pos h,v1,v3,<-sm,<-hj2,if_neg (by rw [hj2];exact ne _ (by simp [cor]))]
   . rw [if_neg h]
     refine n4 j j0 j1 fun u hu=>?_
     rcases List.mem_cons.mp hu with rfl | hu
     . omega
     . exact hj u hu)
 have hns:ns=spr v row.length c:=by
  refine List.ext_getElem (by rw [n1];simp [spr]) fun i h1 h2=>?_
  have a:=n4 (i:Int) (by omega) (by omega) (by simp)
  have b:=zw5 v row.length c (i:Int) (by omega)
  rw [Int.toNat_natCast] at a b
  rw [<-b] at a
  rw [List.getD_eq_getElem?_getD,List.getElem?_eq_getElem h1,List.getD_eq_getElem?_getD,List.getElem?_eq_getElem h2] at a
  exact a
 walk_at "dz"
 rw [e]
 walk_at "dz"
 rw [e2,hr,hns]
 walk_at "dz"
def Bad (n:Int) (bad:D):Prop:=(∃x,bad=.int x/\¬(0<=x/\x<n))\/(∃b,bad=.bl b)\/bad=.non\/(∃s,bad=.str s)\/(∃ds,bad=.tup ds)\/(∃ds,bad=.lst ds)
theorem z7n (n:Int) (bad:D) (h:Bad n bad):z0c [.int n,bad]=.er ⟨"NoCorner",[]⟩:=by
 have nw:∀d:D,(∃b,d=.bl b)\/d=.non\/(∃s,d=.str s)\/(∃ds,d=.tup ds)\/(∃ds,d=.lst ds)->z13 [d]=.ok (.bl false):=by
  rintro d (⟨b,rfl⟩ | rfl | ⟨s,rfl⟩ | ⟨ds,rfl⟩ | ⟨ds,rfl⟩)<;>unfold z13 z5f<;>walk_at "dz"
  . rw [show z57 "int" (.bl b)=some (.bl true) by simp [z57,z2v,z3o,zbf]]
    walk_at "dz"
  . rw [show z57 "int" .non=some (.bl false) by simp [z57,z2v,z3o,zbf]]
    walk_at "dz"
  . rw [show z57 "int" (.str s)=some (.bl false) by simp [z57,z2v,z3o,zbf]]
    walk_at "dz"
  . rw [show z57 "int" (.tup ds)=some (.bl false) by simp [z57,z2v,z3o,zbf]]
    walk_at "dz"
  . rw [show z57 "int" (.lst ds)=some (.bl false) by simp [z57,z2v,z3o,zbf]]
    walk_at "dz"
 rcases h with ⟨x,rfl,h⟩ | h
 . unfold z0c z1a
   walk_at "dz"
   rw [zi5]
   walk_at "dz"
   rw [show (decide (0<=x)&&decide (x<n))=false by
    cases e:(decide (0<=x)&&decide (x<n)) with
    | false=>rfl
    | true=>simp only [Bool.and_eq_true,decide_eq_true_eq] at e;exact absurd e h]
   walk_at "dz"
   simp only [z5o]
   walk_at "dz"
 . unfold z0c z1a
   walk_at "dz"
   rw [nw bad h]
   walk_at "dz"
   simp only [z5o]
   walk_at "dz"
theorem zzp (cell n:Int):∃bad:D,Bad n bad/\z2g [.int cell,.int n]=.ok bad:=by
 have hp:(0:Int)<10 ^ Int.toNat 30:=Int.pow_pos (by decide)
 unfold z2g z8c
 walk_at "dz"
 rw [zp4 (by omega),show zwd (.int 10) (.int 30)=some (.int (10 ^ Int.toNat 30)) by
  unfold zwd;rw [zdq,if_pos (show zmz 10 30 from ⟨by decide,by decide,by decide⟩)]]
 walk_at "dz"
 rw [z4n hp]
 walk_at "dz"
 have f0:0<=cell / 10 % 10 ^ Int.toNat 30:=Int.emod_nonneg _ (by omega)
 generalize cell / 10 % 10 ^ Int.toNat 30=far at f0
 rw [z4n (by omega)]
 walk_at "dz"
 have j0:0<=cell % 10:=Int.emod_nonneg _ (by decide)
 have j1:cell % 10<10:=Int.emod_lt_of_pos _ (by decide)
 generalize cell % 10=j at j0 j1
 have:j=0\/j=1\/j=2\/j=3\/j=4\/j=5\/j=6\/j=7\/j=8\/j=9:=by omega
 rcases this with rfl | rfl | rfl | rfl | rfl | rfl | rfl | rfl | rfl | rfl
 . exact ⟨.int (-1),.inl ⟨_,rfl,by omega⟩,rfl⟩
 . exact ⟨.int n,.inl ⟨_,rfl,by omega⟩,rfl⟩
 . exact ⟨.int (-1 - far),.inl ⟨_,rfl,by omega⟩,rfl⟩
 . exact ⟨.int (n+far),.inl ⟨_,rfl,by omega⟩,rfl⟩
 . exact ⟨.bl true,.inr (.inl ⟨_,rfl⟩),rfl⟩
 . exact ⟨.bl false,.inr (.inl ⟨_,rfl⟩),rfl⟩
 . exact ⟨.non,.inr (.inr (.inl rfl)),rfl⟩
 . exact ⟨_,.inr (.inr (.inr (.inl ⟨_,rfl⟩))),rfl⟩
 . exact ⟨_,.inr (.inr (.inr (.inr (.inl ⟨_,rfl⟩)))),rfl⟩
 . exact ⟨_,.inr (.inr (.inr (.inr (.inr ⟨_,rfl⟩)))),rfl⟩
theorem zig (n:Int) (t bad:D) (h:Bad n bad):z1l [.tup [.int n,t],bad]=.er ⟨"NoCorner",[]⟩:=by
 unfold z1l z6k
 walk_at "dz"
 rw [z7n n bad h]
 walk_at "dz"
theorem ze2 (n:Int) (t bad other:D) (h:Bad n bad):z0a [.tup [.int n,t],bad,other]=.er ⟨"NoCorner",[]⟩:=by
 unfold z0a z1m
 walk_at "dz"
 rw [z7n n bad h]
 walk_at "dz"
theorem zko (n:Int) (t bad:D) (c:Int) (hc:0<=c/\c<n) (h:Bad n bad):z0a [.tup [.int n,t],.int c,bad]=.er ⟨"NoCorner",[]⟩:=by
 unfold z0a z1m
 walk_at "dz"
 rw [z56 n c hc]
 walk_at "dz"
 rw [z7n n bad h]
 walk_at "dz"
theorem zqi (n:Int) (t:D) (i j:Int) (hi:0<=i/\i<n) (hj:0<=j/\j<n) (h:12<n):z0a [.tup [.int n,t],.int i,.int j]=.er ⟨"TooMany",[]⟩:=by
 unfold z0a z1m
 walk_at "dz"
 rw [z56 n i hi]
 walk_at "dz"
 rw [z56 n j hj]
 walk_at "dz"
 rw [decide_eq_true h]
 walk_at "dz"
 simp only [z5o]
 walk_at "dz"
def zih (a b:Bool):D:=.lst [.bl true,.bl a,.bl b,.bl false]
abbrev zzq:DS->SR:=sIf (fun ρ=>((z2i asB (eOp dEq (z04 0) (eC (.int 0)))) ρ).noE) (z22 (zbh knX z1l (z01 (z04 1) (z01 (z04 2) z0e)))) (sIf (fun ρ=>((z2i asB (eOp dEq (z04 0) (eC (.int 1)))) ρ).noE) (z22 (zbh knX z0a (z01 (z04 1) (z01 (z04 2) (z01 (z04 3) z0e))))) (sIf (fun ρ=>((z2i asB (eOp dEq (z04 0) (eC (.int 2)))) ρ).noE) (z22 (zbh knX z0a (z01 (z04 1) (z01 (z04 3) (z01 (z04 2) z0e))))) (z22 (zbh knX z0a (z01 (z04 1) (z01 (z04 2) (z01 (z04 2) z0e)))))))
def zcq (w:Int) (cut a b:D):R D:=if w=0 then z1l [cut,a] else if w=1 then z0a [cut,a,b] else if w=2 then z0a [cut,b,a] else z0a [cut,a,a]
theorem zmp (w:Int) (hw:w=0\/w=1\/w=2\/w=3) (cut a b:D):zzq [.im (.int w),.im cut,.im a,.im b,.ow (.lst []),.em]=((zcq w cut a b).kn knX).toS fun _=>.nx [.im (.int w),.im cut,.im a,.im b,.ow (.lst []),.em]:=by
 unfold zzq zcq
 rcases hw with rfl | rfl | rfl | rfl
 . walk_at "dz"
   simp only [zbh]
   walk_at "dz"
 . walk_at "dz"
   simp only [zbh]
   walk_at "dz"
 . walk_at "dz"
   simp only [zbh]
   walk_at "dz"
 . walk_at "dz"
   simp only [zbh]
   walk_at "dz"
theorem zbe (w:Int) (cut a b:D):z07 [.int w,cut,a,b]=SR.out true (z1h (zob zzq (hAs z0y 5 (z30 true 4 [false,false,false,false,false,true] (z64 (z01 (eUn (z9g z0z) (z04 5)) (z01 (eUn (z9g z1t) (z04 5)) (z01 (eUn (z9g z2c) (z04 5)) (z01 (z0k z0g (z01 (z04 5) z0e)) z0e)))))) zy8)) (z7s 4) [.im (.int w),.im cut,.im a,.im b,.ow (.lst []),.em]):=by
 unfold z07
 rw [zcc,if_pos (show [D.int w,cut,a,b].length=4 from rfl)]
 show SR.out true (z24 [.im (.int w),.im cut,.im a,.im b,.em,.em])=_
 unfold z24
 rw [z0l (ρ':=[.im (.int w),.im cut,.im a,.im b,.ow (.lst []),.em]) (by walk_at "dz")]
theorem zmq (w:Int) (hw:w=0\/w=1\/w=2\/w=3) (cut a b r:D) (h:zcq w cut a b=.ok r):z07 [.int w,cut,a,b]=.ok (.lst []):=by
 rw [zbe,z0l (ρ':=[.im (.int w),.im cut,.im a,.im b,.ow (.lst []),.em]) (by
  unfold zob
  rw [zmp w hw,h]
  rfl)]
 rfl
theorem zmr (w:Int) (hw:w=0\/w=1\/w=2\/w=3) (cut a b:D) (c:String) (hc:c="NoCorner"\/c="TooMany") (h:zcq w cut a b=.er ⟨c,[]⟩):z07 [.int w,cut,a,b]=.ok (zih (decide (c="NoCorner")) (decide (c="TooMany"))):=by
 rw [zbe,z0l (ρ':=[.im (.int w),.im cut,.im a,.im b,.ow (zih (decide (c="NoCorner")) (decide (c="TooMany"))),.em]) (by
  unfold zob
  rw [zmp w hw,h]
  rcases hc with rfl | rfl<;>rfl)]
 rfl
theorem zw6 (c:Int):∃m:Nat,m<=57/\z14 [.int c]=.ok (.int (m:Int)):=by
 have a0:0<=c % 4:=Int.emod_nonneg _ (by decide)
 have a1:c % 4<4:=Int.emod_lt_of_pos _ (by decide)
 have b0:0<=c / 4 % 58:=Int.emod_nonneg _ (by decide)
 have b1:c / 4 % 58<58:=Int.emod_lt_of_pos _ (by decide)
 by_cases h:c % 4<2
 . refine ⟨(9+c % 4).toNat,by omega,?_⟩
   rw [Int.toNat_of_nonneg (by omega)]
   unfold z14 z45
   walk_at "dz"
   rw [z4n (by decide)]
   walk_at "dz"
   rw [decide_eq_true h]
   walk_at "dz"
 . refine ⟨(c / 4 % 58).toNat,by omega,?_⟩
   rw [Int.toNat_of_nonneg b0]
   unfold z14 z45
   walk_at "dz"
   rw [z4n (by decide)]
   walk_at "dz"
   rw [decide_eq_false h]
   walk_at "dz"
   rw [zp4 (by decide)]
   walk_at "dz"
   rw [z4n (by decide)]
   walk_at "dz"
theorem zkp (S1:Sl) (m:Nat) (hm:m<=100) (xs:List Int) (hx:xs.length=m) (k:Nat) (one:Int) :
  ∃ys:List Int,ys.length=m/\z11 [.im (.int (m:Int)),S1,.ow (L xs),.im (.int (k:Int)),.im (.int one)]=.nx [.im (.int (m:Int)),S1,.ow (L ys),.im (.int (k:Int)),.im (.int one)]:=by
 unfold z11
 by_cases h:(0:Int)<(m:Int)
 . have m0:0<=(k:Int) % (m:Int):=Int.emod_nonneg _ (Int.ne_of_gt h)
   have m1:(k:Int) % (m:Int)<m:=Int.emod_lt_of_pos _ h
   refine ⟨xs.set ((k:Int) % (m:Int)).toNat ((xs.getD ((k:Int) % (m:Int)).toNat 0 * 48271+one) % 2147483647),by rw [List.length_set];exact hx,?_⟩
   walk_at "dz"
   rw [decide_eq_true h]
   walk_at "dz"
   rw [z4n h]
   walk_at "dz"
   rw [zuc m0 ((Int.toNat_lt m0).mpr (by rw [hx];exact m1))]
   walk_at "dz"
   rw [zyz (by first | decide | omega)]
   walk_at "dz"
   rw [z4n (by first | decide | omega)]
   walk_at "dz"
   rw [z4n h]
   walk_at "dz"
   rw [zp1 m0 (by rw [hx];exact m1)]
   walk_at "dz"
 . refine ⟨xs,hx,?_⟩
   walk_at "dz"
   rw [decide_eq_false h]
   walk_at "dz"
theorem zkq (m:Nat) (hm:m<=100) (cells:List Int) (hc:cells.length<=100):∃sp:List Int,sp.length=m/\z12 [.int (m:Int),L cells]=.ok (L sp):=by
 unfold z12
 rw [zcc,if_pos (show [D.int (m:Int),L cells].length=2 from rfl)]
 show ∃sp:List Int,sp.length=m/\SR.out true (z2s [.im (.int (m:Int)),.im (L cells),.em,.em,.em])=_
 unfold z2s
 obtain ⟨xs,hx,ex⟩:=y20 (fs:=z01 (z04 0) z0e) (ρ:=vis [true] [.im (.int (m:Int)),.im (L cells),.em,.em,.em]) m (Nat.le_trans hm (by decide)) (by walk_at "dz")
 rw [z0l (ρ':=[.im (.int (m:Int)),.im (L cells),.ow (L xs),.em,.em]) (by
  rw [zlt,ex]
  walk_at "dz")]
 walk_at "dz"
 simp only [iEn]
 walk_at "dz"
 simp only [L]
 walk_at "dz"
 rw [y0u]
 obtain ⟨ρ',e,ys,s4,s5,hy,hr⟩:=z9i (tg:=.t [3,4]) (g:=z11) cells.length (fun (i:Nat)=>D.tup [.int (i:Int),.int (cells.getD i 0)])
  (fun k ρ=>∃(ys:List Int) (s4 s5:Sl),ys.length=m/\ρ=[.im (.int (m:Int)),.im (L cells),.ow (L ys),s4,s5])
  [.im (.int (m:Int)),.im (L cells),.ow (L xs),.em,.em] ⟨xs,.em,.em,hx,rfl⟩ (by
   rintro i hi ρ ⟨ys,s4,s5,hy,rfl⟩
   obtain ⟨zs,hz,e⟩:=zkp (.im (L cells)) m hm ys hy i (cells.getD i 0)
   exact ⟨_,_,rfl,Or.inl e,⟨zs,_,_,hz,rfl⟩⟩)
 simp only [L] at e
 rw [e,hr]
 walk_at "dz"
 exact ⟨ys,hy,rfl⟩
theorem kL3 {ts:List P3} (h:ts≠[]):z3s (ts.map L3)=false:=by
 cases ts with
 | nil=>exact absurd rfl h
 | cons t ts=>rw [List.map_cons,zlu];rfl
theorem zms (x:Int) {n:Nat} (h:0<(n:Int)):∃i:Nat,i<n/\x % (n:Int)=(i:Int):=
 ⟨(x % (n:Int)).toNat,Int.ofNat_lt.mp (by rw [Int.toNat_of_nonneg (Int.emod_nonneg _ (Int.ne_of_gt h))];exact Int.emod_lt_of_pos _ h),(Int.toNat_of_nonneg (Int.emod_nonneg _ (Int.ne_of_gt h))).symm⟩
theorem zkr (ns:List Int) (hns:ns.length<=63):zew [.scr ns]=.ok (.bl true):=by
 have hcl:=zi6 ns (some 3) none
 obtain ⟨m,hm,em⟩:=zw6 (pkv ns 0)
 obtain ⟨sp,hsp,ep⟩:=zkq m (by omega) (zc8 ns (some 3) none) (by omega)
 have er:=zki sp (by omega)
 obtain ⟨O,hol⟩:=zvy sp
 have hrl:=O.len
 have h60:(bs sp).row.length<=60:=by rw [hrl,hol];omega
 have h3:3<=(bs sp).row.length:=by rw [hrl,hol];omega
 have F:=O.fl
 have On':=O.on
 have Md':=O.md
 rw [<-hrl] at On' Md'
 clear hrl hol hcl hsp O
 generalize (bs sp).row=row at *
 generalize (bs sp).ls=ls at *
 generalize (bs sp).T=T at *
 generalize (bs sp).v=v at *
 have hl:=F.len
 have hT:(so3 T).length+2=row.length:=by rw [(z0x T).length_eq];exact F.inv.tlen hl
 have hn0:0<(row.length:Int):=by omega
 obtain ⟨bad,hb,eb⟩:=zzp (pkv ns 1) (row.length:Int)
 obtain ⟨c,c1,hc⟩:=zms (pkv ns 2) hn0
 obtain ⟨o,o1,ho⟩:=zms (pkv ns 2 / (row.length:Int)) hn0
 have ec:=zzl F.inv (by omega)
 have hcc:0<=(c:Int)/\(c:Int)<row.length:=by omega
 have hoo:0<=(o:Int)/\(o:Int)<row.length:=by omega
 have es:=zkn F.inv On' Md' (z4p ls) (by omega) h60 hcc
 have nl:z3s ((so3 T).map L3)=false:=kL3 fun e=>by rw [e] at hT;simp at hT;omega
 have hT':((so3 T).length:Int)+2=(row.length:Int):=by omega
 obtain ⟨cut,hcut⟩:∃cut,cut=D.tup [.int (row.length:Int),.tup ((so2 ls).map T2)]:=⟨_,rfl⟩
 have ncut:cut.noL=true:=by
  rw [hcut]
  simp only [D.noL,z3s]
  rw [z2q _ _ fun x _=>zds x];rfl
 have r4:∀w:Int,w=0\/w=1\/w=2\/w=3->z07 [.int w,cut,bad,.int (c:Int)]=.ok (zih true false):=fun w hw=>by
  refine zmr w hw cut bad (.int (c:Int)) "NoCorner" (.inl rfl) ?_
  rw [hcut]
  unfold zcq
  rcases hw with rfl | rfl | rfl | rfl
  . exact zig _ _ _ hb
  . exact ze2 _ _ _ _ hb
  . exact zko _ _ _ _ hcc hb
  . exact ze2 _ _ _ _ hb
 have due:∀i:Int,0<=i/\i<row.length->z07 [.int 1,cut,.int i,.int (c:Int)]=.ok (if 12<(row.length:Int) then zih false true else .lst []):=fun i hi=>by
  by_cases h:12<(row.length:Int)
  . rw [if_pos h]
    refine zmr 1 (.inr (.inl rfl)) cut _ _ "TooMany" (.inr rfl) ?_
    rw [hcut]
    exact zqi _ _ _ _ hi hcc h
  . rw [if_neg h]
    refine zmq 1 (.inr (.inl rfl)) cut _ _ _ (?_:zcq 1 cut _ _=.ok (.lst ((shr i (c:Int) (so3 T)).map TuI)))
    rw [hcut]
    exact zex F.inv (by omega) (by omega) i (c:Int) hi hcc
 have r0:z07 [.int 0,cut,.int (c:Int),.int (c:Int)]=.ok (.lst []):=by
  refine zmq 0 (.inl rfl) cut _ _ _ (?_:zcq 0 cut _ _=.ok (L (spr v row.length (c:Int))))
  rw [hcut]
  exact es
 rw [<-hcut] at ec
 obtain ⟨ts,hts⟩:∃ts,ts=so3 T:=⟨_,rfl⟩
 rw [<-hts] at er ec nl hT'
 clear es hcut
 obtain ⟨ρ',el,hr⟩:=z9i (tg:=.n 7) (g:=zch) 4 (fun (d:Nat)=>D.int (0+(d:Int)))
  (fun d ρ=>∃s7:Sl,ρ=[.im (.scr ns),.ow (.lst (ts.map L3)),.im (.int (row.length:Int)),.im cut,.im bad,.im (.int (c:Int)),.im (.int (o:Int)),s7,.em])
  [.im (.scr ns),.ow (.lst (ts.map L3)),.im (.int (row.length:Int)),.im cut,.im bad,.im (.int (c:Int)),.im (.int (o:Int)),.em,.em] ⟨.em,rfl⟩ (by
   rintro d hd ρ ⟨s7,rfl⟩
   refine ⟨_,[.im (.scr ns),.ow (.lst (ts.map L3)),.im (.int (row.length:Int)),.im cut,.im bad,.im (.int (c:Int)),.im (.int (o:Int)),.im (.int (0+(d:Int))),.em],rfl,Or.inl ?_,⟨_,rfl⟩⟩
   unfold zch
   walk_at "dz"
   rw [r4 _ (by omega)]
   walk_at "dz"
   rw [show dNe (zih true false) (.lst [.bl true,.bl true,.bl false,.bl false])=some (.bl false) from rfl]
   walk_at "dz")
 obtain ⟨s7,hr⟩:=hr
 unfold zew
 rw [zcc,if_pos (show [D.scr ns].length=1 from rfl)]
 show SR.out false (zq2 [.im (.scr ns),.em,.em,.em,.em,.em,.em,.em,.em])=_
 unfold zq2
 rw [z0l (ρ':=[.im (.scr ns),.ow (.lst (ts.map L3)),.em,.em,.em,.em,.em,.em,.em]) (by
  walk_at "dz"
  rw [ze1 ns hns]
  walk_at "dz"
  rw [em]
  walk_at "dz"
  rw [ep]
  walk_at "dz"
  rw [er]
  walk_at "dz"
  rw [nl]
  walk_at "dz")]
 rw [z0l (ρ':=[.im (.scr ns),.ow (.lst (ts.map L3)),.im (.int (row.length:Int)),.em,.em,.em,.em,.em,.em]) (by
  walk_at "dz"
  rw [List.length_map,hT']
  walk_at "dz")]
 rw [z0l (ρ':=[.im (.scr ns),.ow (.lst (ts.map L3)),.im (.int (row.length:Int)),.im cut,.em,.em,.em,.em,.em]) (by
  walk_at "dz"
  rw [ec,z5p,show keeps false cut=true from ncut]
  walk_at "dz")]
 rw [z0l (ρ':=[.im (.scr ns),.ow (.lst (ts.map L3)),.im (.int (row.length:Int)),.im cut,.im bad,.em,.em,.em,.em]) (by
  walk_at "dz"
  rw [ze1 ns hns]
  walk_at "dz"
  rw [eb,z5p]
  cases keeps false bad<;>walk_at "dz")]
 rw [z0l (ρ':=[.im (.scr ns),.ow (.lst (ts.map L3)),.im (.int (row.length:Int)),.im cut,.im bad,.im (.int (c:Int)),.em,.em,.em]) (by
  walk_at "dz"
  rw [ze1 ns hns]
  walk_at "dz"
  rw [z4n hn0,hc]
  walk_at "dz")]
 rw [z0l (ρ':=[.im (.scr ns),.ow (.lst (ts.map L3)),.im (.int (row.length:Int)),.im cut,.im bad,.im (.int (c:Int)),.im (.int (o:Int)),.em,.em]) (by
  walk_at "dz"
  rw [ze1 ns hns]
  walk_at "dz"
  rw [zp4 (by omega)]
  walk_at "dz"
  rw [z4n hn0,ho]
  walk_at "dz")]
 rw [z0l (ρ':=[.im (.scr ns),.ow (.lst (ts.map L3)),.im (.int (row.length:Int)),.im cut,.im bad,.im (.int (c:Int)),.im (.int (o:Int)),s7,.em]) (by
  walk_at "dz"
  rw [zz0 4 ⟨by decide,by decide⟩ (by walk_at "dz")]
  walk_at "dz"
  simp only [zD]
  rw [show (4:Int).toNat=4 from rfl,el,hr])]
 rw [z0l (ρ':=[.im (.scr ns),.ow (.lst (ts.map L3)),.im (.int (row.length:Int)),.im cut,.im bad,.im (.int (c:Int)),.im (.int (o:Int)),s7,.ow (.lst [])]) (by walk_at "dz")]
 rw [z0l (ρ':=[.im (.scr ns),.ow (.lst (ts.map L3)),.im (.int (row.length:Int)),.im cut,.im bad,.im (.int (c:Int)),.im (.int (o:Int)),s7,.ow (if 12<(row.length:Int) then zih false true else .lst [])]) (by
  by_cases h:12<(row.length:Int)
  . rw [if_pos h]
    walk_at "dz"
    rw [decide_eq_true h]
    walk_at "dz"
    rfl
  . rw [if_neg h]
    walk_at "dz"
    rw [decide_eq_false h]
    walk_at "dz")]
 have d1:=due (c:Int) hcc
 have d2:=due (o:Int) hoo
 have q1:dNe (if 12<(row.length:Int) then zih false true else .lst []) (if 12<(row.length:Int) then zih false true else .lst [])=some (.bl false):=by split<;>rfl
 have q2:dEq (if 12<(row.length:Int) then zih false true else .lst []) (if 12<(row.length:Int) then zih false true else .lst [])=some (.bl true):=by split<;>rfl
 generalize (if 12<(row.length:Int) then zih false true else .lst [])=du at *
 rw [z0l (ρ':=[.im (.scr ns),.ow (.lst (ts.map L3)),.im (.int (row.length:Int)),.im cut,.im bad,.im (.int (c:Int)),.im (.int (o:Int)),s7,.ow du]) (by
  walk_at "dz"
  rw [d1]
  walk_at "dz"
  rw [q1]
  walk_at "dz")]
 walk_at "dz"
 rw [d2]
 walk_at "dz"
 rw [q2]
 walk_at "dz"
 rw [r0]
 walk_at "dz"
 rfl
end K44
namespace K44
open PySem PySem.Spec PyProof.Rows L2
theorem walk {l:PySem.W.OpenLaw} {q:Program} {loose:List Str} {XP:(Str->Option Value)->Heap->Prop} {YP:World->Heap->Prop} {d:DefRec} {K:Params->Frag} {M:List Mkr} (hn:l.most=some 63) (hdf:d.params.defaults=[])
  (hY:∀(w:World) (h:Heap),YP w h->(K w.params).In h) (hK:∀w:World,PySem.W.noTabs (K w.params)=true) (hd:(M.map (·.P)).Nodup) (hM:∀m∈M,((recsOf q).find? (fun e=>e.name==m.x)).isSome=true/\∀w:World,tabIn (K w.params) m.x=some (m.c,m.P))
  (F:∀(w:World) (mg:Str->Option Value) (fa:Addr) (h:Heap),(K w.params).In h->h.Ns mainGlobals mg->mg d.name=some (.ref fa) ->
   ∃fd:FuncData,(∀(s:Shared) (u:Value),BindsTo s fd ⟨[u],[]⟩ [("_law_script",u)])/\∀base:Heap,(K w.params).In base->base.Ns mainGlobals mg->z7u mg base (mkB M)->FnOk l.prog w (K w.params) mg base (CX1 l.prog w) 8 fa fd ["_law_script"] (spTL (mkT M) (K w.params) false zew 1)) :
  PySem.W.WalkO q loose XP YP l.row.toRowW d [] (fun f vs=>PySem.call f vs):=
 L2.walk_ofT (n:=63) (k:=8) (x:="_law_script") (CX:=fun w=>CX1 l.prog w) (sp:=fun w=>(spTL (mkT M) (K w.params) false zew 1)) hn (by decide) hdf ⟨rfl,by decide,by decide⟩ hY hK hd hM F (fun _ _ a ns hl hO hH hS=>zpq hO hH hS (zkr ns hl)) fun _ _ _ _ _ ⟨_,_,_,_,_,_,z⟩=>z
end K44
open PySem PySem.W PyProof.Rows
set_option maxRecDepth 100000 in
set_option maxHeartbeats 0 in
theorem PySem.Challenge.cw_friezeyard_k44_no_sharing_there_holds : PySem.Challenge.rw_friezeyard_k44_no_sharing_there.Holds := by
 w_on;o_law
 refine holds_open (q:=K44.q) (loose:=[]) (Xt:=K44.xtH) (XP:=XL K44.q []) (Yf:=K44.hook.obs) (Ya:=K44.hook.val)
  (YP:=K44.hook.says) (N:=6940) K44.left K44.hook.of K44.hook.keeps
  (fun s e=>xl_of s (Bool.and_eq_true_iff.mp e).1) XL.keeps (by rfl) (by rfl) (by rfl)
  (fun s e=>recFacts_of (Bool.and_eq_true_iff.mp e).2) (by rfl) (by assumption) (by decide +kernel)
  ⟨rfl,rfl,rfl,rfl,rfl,by decide +kernel⟩ ?hw ?hc
 (case hw=>w_witness2)
 refine K44.walk (l:=PySem.Challenge.rw_friezeyard_k44_no_sharing_there) (K:=K44.K) (M:=K44.makers) rfl rfl (fun w h Y=>Y) (fun w=>by kernel_rfl) (by decide) (K44.makers_ok) ?F
 case F=>
  intro w mg fa h KX G hmg
  k_fill
  refine' K44.all_mk KX G hmg ?A0 ?A1 ?A2 ?A3 ?A4 ?A5 ?A6 ?A7 ?A8 ?A9 ?A10 ?A11 ?A12 ?A13 ?A14 ?A15 ?A16 ?A17 ?A18 ?A19 ?T ?Z ?B0 ?hM0 ?B1 ?hM1
  (case A0=>apply L2.fat;k_is;k_is;k_is;k_is)
  (case A1=>apply L2.fat;k_is;k_is;k_is;k_is)
  (case A2=>apply L2.fat;k_is;k_is;k_is;k_is)
  (case A3=>apply L2.fat;k_is;k_is;k_is;k_is)
  (case A4=>apply L2.fat;k_is;k_is;k_is;k_is)
  (case A5=>apply L2.fat;k_is;k_is;k_is;k_is)
  (case A6=>apply L2.fat;k_is;k_is;k_is;k_is)
  (case A7=>apply L2.fat;k_is;k_is;k_is;k_is)
  (case A8=>apply L2.fat;k_is;k_is;k_is;k_is)
  (case A9=>apply L2.fat;k_is;k_is;k_is;k_is)
  (case A10=>apply L2.fat;k_is;k_is;k_is;k_is)
  (case A11=>apply L2.fat;k_is;k_is;k_is;k_is)
  (case A12=>apply L2.fat;k_is;k_is;k_is;k_is)
  (case A13=>apply L2.fat;k_is;k_is;k_is;k_is)
  (case A14=>apply L2.fat;k_is;k_is;k_is;k_is)
  (case A15=>apply L2.fat;k_is;k_is;k_is;k_is)
  (case A16=>apply L2.fat;k_is;k_is;k_is;k_is)
  (case A17=>apply L2.fat;k_is;k_is;k_is;k_is)
  (case A18=>apply L2.fat;k_is;k_is;k_is;k_is)
  (case A19=>apply L2.fat;k_is;k_is;k_is;k_is)
  (case T=>constructor<;>exact mg_none_of KX G (by k_is))
  (case Z=>constructor;exact mg_of KX G (by k_is);exact mg_of KX G (by k_is);exact mg_of KX G (by k_is);exact mg_of KX G (by k_is);exact mg_of KX G (by k_is);exact mg_of KX G (by k_is);exact mg_of KX G (by k_is);exact mg_of KX G (by k_is);exact mg_of KX G (by k_is);exact mg_of KX G (by k_is);exact mg_of KX G (by k_is);exact mg_of KX G (by k_is);exact mg_of KX G (by k_is);k_is;k_is;k_is;k_exc;k_exc;k_exc;k_is;k_is;k_is;k_is;k_is;k_is;kit_is;kit_is;kit_is;kit_is;kit_is;kit_is;kit_is;kit_is;kit_is;kit_is;kit_is;kit_is;kit_is;k_is;k_is;k_is;k_is;k_is;k_is;kit_is;kit_is;kit_is;kit_is;kit_is;kit_is;kit_is;kit_is;kit_is;kit_is;kit_is;kit_is;kit_is)
  (case hM0=>(show _∈K44.makers;repeat (first | exact List.Mem.head _ | apply List.Mem.tail)))
  (case hM1=>(show _∈K44.makers;repeat (first | exact List.Mem.head _ | apply List.Mem.tail)))
  (case B0=>kernel_rfl)
  (case B1=>kernel_rfl)
