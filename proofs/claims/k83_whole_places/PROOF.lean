import PyProof.Rows.All
import Wide.All
import OpenK.AllK
import Wide.FinOn
import Lean
import PyProof.EqAt
import PyProof.EqKinds
import PyProof.TupleCall
import KE.KIsAll
import KE.RegKIsAll
import PyProof.ExcArgsOwn
import PyProof.InstStoreFacts
import PyProof.Rows.MinMaxN
import PyProof.Rows.CallKwBuiltin
import KE.KMinKey
import KE.KDictOf
import PyProof.AttrMissSeq
import PyProof.Rows.TupDisplay
import PySem.Challenge.RW_friezeyard_k83_whole_places
set_option compiler.extract_closed false
noncomputable section
open PySem.W (Frag Looks codeIn hideAll hideAll_get hideAll_none keepIn kia_one kitAny kitOne mroIn nsIn of_hideAll)
set_option Elab.async false
set_option linter.all false
set_option maxRecDepth 100000
namespace L2
open PySem PySem.Spec PyProof.Rows
abbrev Key:=Sum Int Str
noncomputable def zel:Key->Value->Bool
 | .inl k,v=>Value.isInt k v
 | .inr x,v=>Value.isStrOf x v
noncomputable def y0y (w:World):Key->Int
 | .inl k=>hashInt k
 | .inr x=>hashStr w x
theorem z0w:∀{k:Key} {v:Value},zel k v=true->(∃i t,k=Sum.inl i/\v=Value.int i t)\/(∃x t,k=Sum.inr x/\v=Value.str x t)
 | .inl i,v,h=>by
  obtain ⟨t,e⟩:=Value.isInt_shape (k:=i) (v:=v) h
  exact .inl ⟨i,t,rfl,e⟩
 | .inr x,v,h=>by
  obtain ⟨t,e⟩:=Value.isStrOf_shape (x:=x) (v:=v) h
  exact .inr ⟨x,t,rfl,e⟩
theorem zfn (i:Int) (t:Tok):zel (.inl i) (.int i t)=true:=by simp [zel,Value.isInt]
theorem zfo (x:Str) (t:Tok):zel (.inr x) (.str x t)=true:=by simp [zel,Value.isStrOf]
theorem zqr (a b:Int):decide ((Sum.inl a:Key)=Sum.inl b)=(a==b):=by
 by_cases e:a=b
 . subst e;simp
 . have h:¬(Sum.inl a:Key)=Sum.inl b:=fun q=>e (Sum.inl.inj q)
   rw [decide_eq_false h]
   exact (beq_eq_false_iff_ne.mpr e).symm
theorem zqs (a b:Str):decide ((Sum.inr a:Key)=Sum.inr b)=decide (a=b):=by
 by_cases e:a=b
 . subst e;simp
 . have h:¬(Sum.inr a:Key)=Sum.inr b:=fun q=>e (Sum.inr.inj q)
   rw [decide_eq_false h,decide_eq_false e]
theorem zqt (a:Int) (b:Str):decide ((Sum.inl a:Key)=Sum.inr b)=false:=decide_eq_false (fun q=>nomatch q)
theorem zqu (a:Str) (b:Int):decide ((Sum.inr a:Key)=Sum.inl b)=false:=decide_eq_false (fun q=>nomatch q)
noncomputable def z2h (prog:Program) (w:World):PySem.KeyKind prog w Key where
 is:=zel
 hash:=y0y w
 inj:=fun v a b ha hb=>by
  rcases z0w ha with ⟨i,t,rfl,rfl⟩ | ⟨x,t,rfl,rfl⟩
  . rcases z0w hb with ⟨j,u,rfl,e⟩ | ⟨y,u,rfl,e⟩
    . injection e with e1 _;rw [e1]
    . exact nomatch e
  . rcases z0w hb with ⟨j,u,rfl,e⟩ | ⟨y,u,rfl,e⟩
    . exact nomatch e
    . injection e with e1 _;rw [e1]
 byValue:=fun k v h=>by
  rcases z0w h with ⟨i,t,rfl,rfl⟩ | ⟨x,t,rfl,rfl⟩<;>rfl
 pyHash:=fun hv h=>by
  rcases z0w hv with ⟨i,t,rfl,rfl⟩ | ⟨x,t,rfl,rfl⟩
  . exact wpAny_pyHash_int h
  . exact wpAny_pyHash_str h
 eqBool:=fun hu hv h=>by
  rcases z0w hu with ⟨i,t,rfl,rfl⟩ | ⟨x,t,rfl,rfl⟩
  . rcases z0w hv with ⟨j,u,rfl,rfl⟩ | ⟨y,u,rfl,rfl⟩
    . rw [zqr] at h;exact wpAny_eqBool_int h
    . rw [zqt] at h;exact SeqAt.EqAt.int_str i t y u _ _ _ _ h
  . rcases z0w hv with ⟨j,u,rfl,rfl⟩ | ⟨y,u,rfl,rfl⟩
    . rw [zqu] at h;exact SeqAt.EqAt.str_int x t j u _ _ _ _ h
    . rw [zqs] at h;exact wpAny_eqBool_str h
 «strs»:=fun k x t v h=>by
  rcases z0w h with ⟨i,u,rfl,e⟩ | ⟨y,u,rfl,e⟩
  . exact nomatch e
  . injection e with e1 _
    subst e1
    cases v<;>rfl
theorem zbv (prog:Program) (w:World) (i:Int) (t:Tok):(z2h prog w).is (.inl i) (.int i t)=true:=zfn i t
theorem zbw (prog:Program) (w:World) (x:Str) (t:Tok):(z2h prog w).is (.inr x) (.str x t)=true:=zfo x t
inductive V where
 | non | bl (b:Bool) | int (i:Int) | str (x:Str) | byt (b:Array UInt8) | flt (b:UInt64) | ref (a:Addr) | ty (n:String)
 deriving DecidableEq
def RelV:V->Value->Prop
 | .non,u=>u=Value.none
 | .bl b,u=>u=Value.bool b
 | .int i,u=>∃t,u=Value.int i t
 | .str x,u=>∃t,u=Value.str x t
 | .byt b,u=>∃t,u=Value.bytes b t
 | .flt b,u=>∃t,u=Value.float b t
 | .ref a,u=>u=Value.ref a
 | .ty n,u=>u=Value.type n
abbrev Vals:List V->List Value->Prop:=Paired RelV
theorem Vals.length {xs:List V} {us:List Value} (r:Vals xs us):xs.length=us.length:=Paired.length r
theorem Vals.get:∀{xs:List V} {us:List Value} {i:Nat} {x:V},Vals xs us->xs[i]?=some x->∃u,us[i]?=some u/\RelV x u
 | _,_,_,_,.nil,e=>by simp at e
 | _,_,0,_,.cons r _,e=>by simp at e;subst e;exact ⟨_,rfl,r⟩
 | _,_,i+1,x,.cons _ t,e=>by
  obtain ⟨u,h1,h2⟩:=Vals.get (i:=i) (x:=x) t (by simpa using e)
  exact ⟨u,by simpa using h1,h2⟩
theorem Vals.set {x:V} {u:Value} (r:RelV x u):∀{xs:List V} {us:List Value} (i:Nat),Vals xs us->Vals (xs.set i x) (us.set i u)
 | _,_,_,.nil=>.nil
 | _,_,0,.cons _ t=>.cons r t
 | _,_,i+1,.cons q t=>.cons q (Vals.set r i t)
theorem Vals.append:∀{xs ys:List V} {us ws:List Value},Vals xs us->Vals ys ws->Vals (xs++ys) (us++ws)
 | _,_,_,_,.nil,s=>s
 | _,_,_,_,.cons r t,s=>.cons r (Vals.append t s)
theorem Vals.take:∀{xs:List V} {us:List Value} (n:Nat),Vals xs us->Vals (xs.take n) (us.take n)
 | _,_,0,_=>.nil
 | _,_,_+1,.nil=>.nil
 | _,_,n+1,.cons r t=>.cons r (Vals.take n t)
theorem Vals.drop:∀{xs:List V} {us:List Value} (n:Nat),Vals xs us->Vals (xs.drop n) (us.drop n)
 | _,_,0,r=>r
 | _,_,_+1,.nil=>.nil
 | _,_,n+1,.cons _ t=>Vals.drop n t
def RelO:Option V->Option Value->Prop
 | some v,some u=>RelV v u
 | none,none=>True
 | _,_=>False
def KV {κ:Type}:List (κ×V)->List (κ×Value)->Prop:=Paired fun (p:κ×V) (q:κ×Value)=>p.1=q.1/\RelV p.2 q.2
noncomputable def kV:Key->V
 | .inl i=>.int i
 | .inr x=>.str x
def IsTp (h:Heap) (a:Addr) (its:Array Value):Prop:=∃o,h.get? a=some o/\o.cls=.type "tuple"/\(∃n,o.data=.seq its n)/\o.dict=none
theorem IsTp.tup {h:Heap} {a:Addr} {its:Array Value} (p:IsTp h a its):IsTup h a its:=by obtain ⟨o,e,c,d,_⟩:=p;exact ⟨o,e,c,d⟩
theorem IsTp.lt {h:Heap} {a:Addr} {its:Array Value} (p:IsTp h a its):a<h.objs.size:=by obtain ⟨o,e,_⟩:=p;exact Heap.lt_size e
theorem IsTp.mk' {h:Heap} {a:Addr} {its:Array Value} {n:Nat} {sl:Array (Option Value)} (e:h.get? a=some { cls:=.type "tuple",data:=.seq its n,slots:=sl }):IsTp h a its:=⟨_,e,rfl,⟨n,rfl⟩,rfl⟩
inductive HO where
 /-- a list -/
 | lst (xs:List V)
 /-- a tuple (never changes) -/
 | tup (xs:List V)
 /-- a dict whose keys are ints and texts;one whose keys are tuples of ints and texts (the empty one is both) -/
 | dK (kvs:List (Key×V)) | dT (kvs:List (List Key×V))
 /-- a set of ints: its members,its size -/
 | set (S:Int->Bool) (n:Nat)
 /-- an instance of the class at C,its dict at dx,its attributes -/
 | ins (C dx:Addr) (fs:List (Str×V))
 /-- the dict of the instance at x -/
 | own (x:Addr)
 /-- the dict of an exception -/
 | xd (fs:List (Str×V))
 /-- a bound method,f of x -/
 | met (f x:Addr)
 /-- a range object lo,lo+1,.. below hi -/
 | rng (lo hi:Int)
 /-- a thing that is known to the object (the script;a dict while a loop walks it): read,never written while it is so -/
 | frz (o:Obj) (u:HO)
 /-- a code object's table -/
 | tbl (ps:Array Value)
 /-- the table of a def that makes lambdas,all of the qualname q -/
 | ctb (q:Str)
 /-- any other thing,by what is true of its one object (a def of one's own: SetO a S n:=HO.ext fun h=>..) -/
 | ext (φ:Heap->Prop)
abbrev Hp:=Addr->Option HO
noncomputable def upd (H:Hp) (a:Addr) (o:HO):Hp:=fun b=>if b=a then some o else H b
theorem z0d {H:Hp} {a:Addr} {o:HO}:upd H a o a=some o:=by unfold upd;rw [if_pos rfl]
theorem z08 {H:Hp} {a b:Addr} {o:HO} (h:b≠a):upd H a o b=H b:=by unfold upd;rw [if_neg h]
theorem z0f {H:Hp} {a b:Addr} {o:HO} (h:H a=some o) (h':H b=none):a≠b:=by
 intro e;subst e;rw [h] at h';cases h'
section
variable (P:Program) (w:World)
def ObjOk (H:Hp) (h:Heap) (a:Addr):HO->Prop
 | .lst xs=>xs.length<=sizeLine/\∃(its:List Value) (n:Nat),Vals xs its/\h.get? a=some { cls:=.type "list",data:=.seq its.toArray n }
 | .tup xs=>xs.length<=sizeLine/\∃its:List Value,Vals xs its/\IsTp h a its.toArray
 | .dK kvs=>kvs.length<=sizeLine/\(a==sysModules)=false/\∃vs,KV kvs vs/\h.DictOf (z2h P w) a vs
 | .dT kvs=>kvs.length<=sizeLine/\(a==sysModules)=false/\∃xs:List (List Key×Addr×Value),
  Paired (fun (p:List Key×V) (q:List Key×Addr×Value)=>p.1=q.1/\H q.2.1=some (.tup (p.1.map kV))/\RelV p.2 q.2.2) kvs xs /\
  ∃o es ep,h.get? a=some o/\o.ExactDict/\o.data=.dict es ep/\es.toList=xs.map (entryOfKey (tupleKind (z2h P w)))/\(xs.map (·.1)).Nodup
 | .set S n=>h.SetOf (intKind P w) a S n
 | .ins C dx fs=>H dx=some (.own a)/\fs.length<=1000/\dx≠a/\h.get? a=some (PySem.W.instObj C dx) /\
  ∃mA,h.Ns1 dx mA/\(∀f,RelO (fs.lookup f) (mA f))/\PySem.Within mA (fs.map (·.1))
 | .own _=>∃o,h.get? a=some o
 | .xd fs=>∃mA,h.Ns1 a mA/\∀f,RelO (fs.lookup f) (mA f)
 | .rng lo hi=>∃t u v,h.get? a=some { cls:=.type "range",data:=.fields #[.int lo t,.int hi u,.int 1 v] }
 | .frz o u=>h.get? a=some o/\ObjOk H h a u
 | .tbl ps=>h.get? a=some { cls:=.none,data:=.fields ps }
 | .ctb q=>∃ps:Array Value,h.get? a=some { cls:=.none,data:=.fields ps }/\TriplesOk ps.toList/\∀(pos:Pos) (v:Value),codeAmong pos ps.toList=some v->∃c,v=.ref c/\H c=some (.own a)/\h.CodeRec (.ref c) q
 | .met f x=>h.get? a=some (PySem.W.methodObj (.ref f) (.ref x))
 | .ext φ=>φ h/\(∃o,h.get? a=some o)/\∀h1 h2:Heap,φ h1->(∀o,h1.get? a=some o->h2.get? a=some o)->φ h2
def HOk (H:Hp) (h:Heap):Prop:=∀a o,H a=some o->ObjOk P w H h a o
end
section
variable {P:Program} {w:World} {H H':Hp} {h h':Heap} {a:Addr} {o:HO}
theorem ObjOk.lt (x:ObjOk P w H h a o):a<h.objs.size:=by
 cases o with
 | lst xs=>obtain ⟨_,_,_,_,e⟩:=x;exact Heap.lt_size e
 | tup xs=>obtain ⟨_,_,_,p⟩:=x;exact p.lt
 | dK kvs=>obtain ⟨_,_,_,_,o,_,_,e,_⟩:=x;exact Heap.lt_size e
 | dT kvs=>obtain ⟨_,_,_,_,o,_,_,e,_⟩:=x;exact Heap.lt_size e
 | set S n=>obtain ⟨o,_,_,_,e,_⟩:=x;exact Heap.lt_size e
 | ins C dx fs=>obtain ⟨_,_,_,e,_⟩:=x;exact Heap.lt_size e
 | own y=>obtain ⟨_,e⟩:=x;exact Heap.lt_size e
 | xd fs=>obtain ⟨_,⟨_,_,_,e,_⟩,_⟩:=x;exact Heap.lt_size e
 | rng lo hi=>obtain ⟨_,_,_,e⟩:=x;exact Heap.lt_size e
 | frz ob u=>obtain ⟨e,_⟩:=x;exact Heap.lt_size e
 | tbl ps=>exact Heap.lt_size (show h.get? a=some _ from x)
 | ctb q=>obtain ⟨_,e,_⟩:=x;exact Heap.lt_size e
 | met f y=>exact Heap.lt_size (show h.get? a=some _ from x)
 | ext φ=>obtain ⟨_,⟨_,e⟩,_⟩:=x;exact Heap.lt_size e
theorem Paired.mapP {α β:Type} {F G:α->β->Prop}:∀{l₁:List α} {l₂:List β},Paired F l₁ l₂->(∀a b,F a b->G a b)->Paired G l₁ l₂
 | _,_,.nil,_=>.nil
 | _,_,.cons r t,f=>.cons (f _ _ r) (Paired.mapP t f)
theorem ObjOk.stay (x:ObjOk P w H h a o) (k:∀b u,(b=a\/H b=some (.own a))->h.get? b=some u->h'.get? b=some u)
  (ho:∀b,H b=some (.own a)->H' b=some (.own a)) (ht:∀b xs,H b=some (.tup xs)->H' b=some (.tup xs)):ObjOk P w H' h' a o:=by
 induction o with
 | lst xs=>obtain ⟨z,its,n,r,e⟩:=x;exact ⟨z,its,n,r,k _ _ (.inl rfl) e⟩
 | tup xs=>obtain ⟨z,its,r,ob,e,c⟩:=x;exact ⟨z,its,r,ob,k _ _ (.inl rfl) e,c⟩
 | dK kvs=>obtain ⟨z,y,vs,r,ob,es,ep,e,c⟩:=x;exact ⟨z,y,vs,r,ob,es,ep,k _ _ (.inl rfl) e,c⟩
 | dT kvs=>
  obtain ⟨z,y,xs,r,ob,es,ep,e,c⟩:=x
  exact ⟨z,y,xs,Paired.mapP r fun p q z=>⟨z.1,ht _ _ z.2.1,z.2.2⟩,ob,es,ep,k _ _ (.inl rfl) e,c⟩
 | set S n=>obtain ⟨ob,es,ep,t,e,c⟩:=x;exact ⟨ob,es,ep,t,k _ _ (.inl rfl) e,c⟩
 | ins C dx fs=>
  obtain ⟨d,z,ne,e,mA,⟨od,es,ep,e2,c⟩,r⟩:=x
  exact ⟨ho _ d,z,ne,k _ _ (.inl rfl) e,mA,⟨od,es,ep,k _ _ (.inr d) e2,c⟩,r⟩
 | own y=>obtain ⟨ob,e⟩:=x;exact ⟨ob,k _ _ (.inl rfl) e⟩
 | xd fs=>obtain ⟨mA,⟨od,es,ep,e,c⟩,r⟩:=x;exact ⟨mA,⟨od,es,ep,k _ _ (.inl rfl) e,c⟩,r⟩
 | rng lo hi=>obtain ⟨t,u,v,e⟩:=x;exact ⟨t,u,v,k _ _ (.inl rfl) e⟩
 | frz ob u ih=>obtain ⟨e,q⟩:=x;exact ⟨k _ _ (.inl rfl) e,ih q⟩
 | tbl ps=>
  have e:h.get? a=some { cls:=.none,data:=.fields ps }:=x
  show h'.get? a=some { cls:=.none,data:=.fields ps }
  exact k a _ (.inl rfl) e
 | ctb q=>
  obtain ⟨ps,e,t,c⟩:=x
  refine ⟨ps,k _ _ (.inl rfl) e,t,fun pos v hb=>?_⟩
  obtain ⟨b,rfl,z,c2,oc,vs,tq,e1,e2,e3⟩:=c pos v hb
  cases e1
  exact ⟨b,rfl,ho _ z,b,oc,vs,tq,rfl,k _ _ (.inr z) e2,e3⟩
 | met f y=>
  have e:h.get? a=some (PySem.W.methodObj (.ref f) (.ref y)):=x
  show h'.get? a=some (PySem.W.methodObj (.ref f) (.ref y))
  exact k a _ (.inl rfl) e
 | ext φ=>obtain ⟨p,⟨o,e⟩,st⟩:=x;exact ⟨st _ _ p fun o q=>k _ _ (.inl rfl) q,⟨o,k _ _ (.inl rfl) e⟩,st⟩
theorem HOk.lt (x:HOk P w H h) (e:H a=some o):a<h.objs.size:=(x a o e).lt
theorem HOk.fresh (x:HOk P w H h) (e:h.objs.size<=a):H a=none:=by
 cases q:H a with
 | none=>rfl
 | some u=>exact absurd (Nat.lt_of_lt_of_le (x.lt q) e) (Nat.lt_irrefl _)
theorem HOk.kept (x:HOk P w H h) (k:∀b u,h.get? b=some u->h'.get? b=some u):HOk P w H h':=fun a o e=>
 (x a o e).stay (fun b u _ q=>k b u q) (fun _ q=>q) fun _ _ q=>q
theorem HOk.laid (x:HOk P w H h) (k:∀b u,h.get? b=some u->h'.get? b=some u) (hp:h.objs.size<=a) (new:ObjOk P w (upd H a o) h' a o):HOk P w (upd H a o) h':=fun b u e=>by
 have hn:=x.fresh hp
 by_cases hb:b=a
 . subst hb;rw [z0d] at e;cases e;exact new
 . rw [z08 hb] at e
   exact (x b u e).stay (fun c v _ q=>k c v q) (fun c q=>by rw [z08 (z0f q hn)];exact q) fun c xs q=>by rw [z08 (z0f q hn)];exact q
end
def Rd (H:Hp) (a:Addr) (u:HO):Prop:=H a=some u\/∃o,H a=some (.frz o u)
theorem Rd.of {H:Hp} {a:Addr} {u:HO} (h:H a=some u):Rd H a u:=.inl h
theorem Rd.ok {P:Program} {w:World} {H:Hp} {h:Heap} {a:Addr} {u:HO} (r:Rd H a u) (x:HOk P w H h):ObjOk P w H h a u:=by
 rcases r with r | ⟨o,r⟩
 . exact x a u r
 . obtain ⟨_,q⟩:=x a _ r
   exact q
def Mut:Option HO->Prop
 | some (.lst _)=>True
 | some (.dK _)=>True
 | some (.dT _)=>True
 | some (.set _ _)=>True
 | some (.ins _ _ _)=>True
 | some (.ext _)=>True
 | _=>False
section
variable {P:Program} {w:World} {H:Hp} {h h':Heap} {x e:Addr} {o':HO}
theorem HOk.write (ok:HOk P w H h) (mu:Mut (H x)) (he:e=x\/H e=some (.own x)) (k:∀b u,b≠e->h.get? b=some u->h'.get? b=some u) (heo:∃u,h'.get? e=some u)
  (new:ObjOk P w (upd H x o') h' x o'):HOk P w (upd H x o') h':=fun b u q=>by
 have nown:∀c y,H c=some (.own y)->c≠x:=fun c y r z=>by subst z;rw [r] at mu;exact mu
 have ntup:∀c xs,H c=some (.tup xs)->c≠x:=fun c xs r z=>by subst z;rw [r] at mu;exact mu
 by_cases hb:b=x
 . subst hb;rw [z0d] at q;cases q;exact new
 . rw [z08 hb] at q
   by_cases hbe:b=e
   . have q':H b=some (.own x):=by
      rcases he with z | z
      . exact absurd (hbe.trans z) hb
      . rw [hbe];exact z
     rw [q] at q';cases q'
     obtain ⟨v,hv⟩:=heo
     exact ⟨v,by rw [hbe];exact hv⟩
   . refine (ok b u q).stay (fun c v hc r=>k c v ?_ r) (fun c r=>by rw [z08 (nown c b r)];exact r) fun c xs r=>by rw [z08 (ntup c xs r)];exact r
     rcases hc with rfl | hc
     . exact hbe
     . rintro rfl
       rcases he with z | z
       . exact nown c b hc z
       . rw [hc] at z;cases z;exact hb rfl
end
structure Un (fs ex:List Addr) (H H':Hp) (h h':Heap):Prop where
 keep:∀b o,h.get? b=some o->H b=none->b∉fs->b∉ex->h'.get? b=some o
 slot:∀b o,h.get? b=some o->H b=none->b∈fs->b∉ex->∃sl,h'.get? b=some { o with slots:=sl }
 free:∀b o,h.get? b=some o->H b=none->b∉ex->H' b=none
 there:∀b o,h.get? b=some o->b∉ex->∃o',h'.get? b=some o'
 tups:∀b xs,H b=some (.tup xs)->H' b=some (.tup xs)
 frzs:∀b o u,H b=some (.frz o u)->H' b=some (.frz o u)
 tbls:∀b ps,H b=some (.tbl ps)->∃more,H' b=some (.tbl (ps++more))
section
variable {fs ex:List Addr} {H H1 H2:Hp} {h h1 h2 h':Heap} {a x e:Addr} {o:HO}
theorem Un.any (u:Un fs ex H H1 h h1) {b:Addr} {ob:Obj} (q:h.get? b=some ob) (n:H b=none) (hx:b∉ex):∃sl,h1.get? b=some { ob with slots:=sl }:=by
 by_cases hb:b∈fs
 . exact u.slot b ob q n hb hx
 . exact ⟨ob.slots,u.keep b ob q n hb hx⟩
theorem Un.trans (a:Un fs ex H H1 h h1) (b:Un fs ex H1 H2 h1 h2):Un fs ex H H2 h h2 where
 keep:=fun c ob q n hc hx=>b.keep c ob (a.keep c ob q n hc hx) (a.free c ob q n hx) hc hx
 slot:=fun c ob q n hc hx=>by
  obtain ⟨sl,e1⟩:=a.slot c ob q n hc hx
  obtain ⟨sl',e2⟩:=b.slot c _ e1 (a.free c ob q n hx) hc hx
  exact ⟨sl',e2⟩
 free:=fun c ob q n hx=>by
  obtain ⟨o',e1⟩:=a.there c ob q hx
  exact b.free c o' e1 (a.free c ob q n hx) hx
 there:=fun c ob q hx=>by
  obtain ⟨o',e1⟩:=a.there c ob q hx
  exact b.there c o' e1 hx
 tups:=fun c xs q=>b.tups c xs (a.tups c xs q)
 frzs:=fun c ob xs q=>b.frzs c ob xs (a.frzs c ob xs q)
 tbls:=fun c ps q=>by
  obtain ⟨m1,e1⟩:=a.tbls c ps q
  obtain ⟨m2,e2⟩:=b.tbls c _ e1
  exact ⟨m1++m2,by rw [e2,Array.append_assoc]⟩
theorem Un.kept (k:∀b u,h.get? b=some u->h'.get? b=some u):Un fs ex H H h h':=
 ⟨fun b ob q _ _ _=>k b ob q,fun b ob q _ _ _=>⟨ob.slots,k b ob q⟩,fun _ _ _ n _=>n,fun b ob q _=>⟨ob,k b ob q⟩,fun _ _ q=>q,fun _ _ _ q=>q,fun _ ps q=>⟨#[],by rw [q];simp⟩⟩
theorem Un.refl:Un fs ex H H h h:=Un.kept fun _ _ q=>q
theorem Un.laid (k:∀b u,h.get? b=some u->h'.get? b=some u) (hp:h.objs.size<=a) (hn:H a=none):Un fs ex H (upd H a o) h h' where
 keep:=fun b u q _ _ _=>k b u q
 slot:=fun b u q _ _ _=>⟨u.slots,k b u q⟩
 free:=fun b u q n _=>by rw [z08 (Nat.ne_of_lt (Nat.lt_of_lt_of_le (Heap.lt_size q) hp))];exact n
 there:=fun b u q _=>⟨u,k b u q⟩
 tups:=fun b xs q=>by rw [z08 (z0f q hn)];exact q
 frzs:=fun b u xs q=>by rw [z08 (z0f q hn)];exact q
 tbls:=fun b ps q=>⟨#[],by rw [z08 (z0f q hn),q];simp⟩
theorem Un.write (mu:Mut (H x)) (he:e=x\/H e=some (.own x)) (k:∀b u,b≠e->h.get? b=some u->h'.get? b=some u) (heo:∃u,h'.get? e=some u):Un fs ex H (upd H x o) h h':=by
 have hx:∀b,H b=none->b≠x:=fun b n z=>by subst z;rw [n] at mu;exact mu
 have hb:∀b,H b=none->b≠e:=fun b n z=>by
  subst z
  rcases he with r | r
  . exact hx b n r
  . rw [n] at r;cases r
 have hm:∀b u,H b=some u->¬Mut (some u)->b≠x:=fun b u q nm z=>by subst z;rw [q] at mu;exact nm mu
 refine ⟨fun b u q n _ _=>k b u (hb b n) q,fun b u q n _ _=>⟨u.slots,k b u (hb b n) q⟩,fun b u q n _=>by rw [z08 (hx b n)];exact n,fun b u q _=>?_,
  fun b xs q=>by rw [z08 (hm b _ q fun z=>z)];exact q,fun b u xs q=>by rw [z08 (hm b _ q fun z=>z)];exact q,fun b ps q=>⟨#[],by rw [z08 (hm b _ q fun z=>z),q];simp⟩⟩
 by_cases hbe:b=e
 . subst hbe;exact heo
 . exact ⟨u,k b u hbe q⟩
end
noncomputable def trk (h:Heap) (H:Hp):List Addr:=(List.range h.objs.size).filter fun a=>(H a).isSome
noncomputable def zj4 (h:Heap) (H:Hp):Heap:=hideAll h (trk h H)
theorem zfp (h:Heap) (H:Hp):(zj4 h H).objs.size=h.objs.size:=PySem.W.hideAll_size _ _
theorem zj5 {h:Heap} {H:Hp} {b:Addr} {o:Obj} (e:h.get? b=some o) (n:H b=none):(zj4 h H).get? b=some o:=
 hideAll_get _ e fun hm=>by
  have q:(H b).isSome=true:=(List.mem_filter.mp hm).2
  rw [n] at q;simp at q
theorem zn1 {h:Heap} {H:Hp} {b:Addr} {o:Obj} (e:(zj4 h H).get? b=some o):h.get? b=some o/\H b=none:=by
 have e':h.get? b=some o:=of_hideAll (trk h H) e
 refine ⟨e',?_⟩
 cases q:H b with
 | none=>rfl
 | some x=>
  have hm:b∈trk h H:=List.mem_filter.mpr ⟨List.mem_range.mpr (Heap.lt_size e'),by simp [q]⟩
  have z:(zj4 h H).get? b=none:=hideAll_none (trk h H) hm
  rw [z] at e;cases e
noncomputable def z6u (g h:Heap) (L:Addr):List (Addr×Obj):=(List.range h.objs.size).filterMap fun a=>if a=L\/(g.get? a).isSome=true then none else (h.get? a).map fun o=>(a,o)
theorem z6v {g h:Heap} {L a:Addr} {o:Obj} (h1:a≠L) (h2:g.get? a=none) (h3:h.get? a=some o):(a,o)∈z6u g h L:=
 List.mem_filterMap.mpr ⟨a,List.mem_range.mpr (Heap.lt_size h3),by simp [h1,h2,h3]⟩
theorem z87 {g h:Heap} {L:Addr} {p:Addr×Obj} (hp:p∈z6u g h L):p.1≠L/\g.get? p.1=none/\h.get? p.1=some p.2:=by
 obtain ⟨b,_,e⟩:=List.mem_filterMap.mp hp
 split at e
 . cases e
 . rename_i hn
   cases q:h.get? b with
   | none=>rw [q] at e;simp at e
   | some u=>
    rw [q] at e
    simp only [Option.map_some,Option.some.injEq] at e
    subst e
    refine ⟨fun z=>hn (.inl z),?_,q⟩
    show g.get? b=none
    cases r:g.get? b with
    | none=>rfl
    | some v=>exact (hn (.inr (by simp [r]))).elim
noncomputable def rest (g h:Heap) (L d:Addr):List (Addr×Obj):=(z6u g h L).filter fun p=>decide (p.1≠d)
theorem z53 {g h:Heap} {L:Addr}:News g L h (z6u g h L):=fun p hp=>let ⟨a,b,c⟩:=z87 hp;⟨c,a,b⟩
structure Mod (K:Frag) (mg:Str->Option Value) (base:Heap):Prop where
 kin:K.In base
 glob:base.Ns mainGlobals mg
 blt:∃mb,base.Ns builtinsNs mb/\∀x:Str,x≠"__name__"->mb x=bootBuiltins x
 nolimit:base.NoLimit
structure Cx where
 prog:Program
 w:World
 K:Frag
 mg:Str->Option Value
 base:Heap
 A:Around
 N:List Str
 s₀:Shared
 H₀:Hp
 env:Env
 outer:List Env
 stack:List Env
 ex:List Addr
 fn:Str->Bool
 calm:Bool
 pn:List (Addr×Obj)
 xe:Value->Shared->Prop
noncomputable def frs (l:List Env):List Addr:=l.filterMap (·.frame)
abbrev Cx.fs (X:Cx):List Addr:=frs X.outer
def Vis (sc:Scope) (x:Str):Prop:=sc.names.lookup x=some .local\/sc.names.lookup x=some .cell\/sc.names.lookup x=some .free
def Loc (sc:Scope) (x:Str):Prop:=sc.names.lookup x=some .local\/sc.names.lookup x=some .cell
def y0z (env:Env) (h:Heap) (m:Str->Option Value) (x:Str) (u:Value):Prop:=
 (env.kindOf x=some .local/\m x=some u)\/((env.kindOf x=some .cell\/env.kindOf x=some .free)/\∃c,env.cells.lookup x=some c/\h.IsCell c (some u))
structure Cx.Ok (X:Cx):Prop where
 mod:Mod X.K X.mg X.base
 kind:X.env.scope.kind=.function
 glob:X.env.globals=mainGlobals
 blt:X.env.builtins=builtinsNs
 above:X.s₀.heap.objs.size<=X.env.locals
 inj:∀x y c,X.env.cells.lookup x=some c->X.env.cells.lookup y=some c->x=y
 has:∀x,(X.env.kindOf x=some .cell\/X.env.kindOf x=some .free)->∃c,X.env.cells.lookup x=some c
 cab:∀x c,X.fn x=true->X.env.cells.lookup x=some c->X.s₀.heap.objs.size<=c
 hd:X.calm=true->X.A.handled=none
 frames:X.A.frames=some X.stack
 stk:X.stack=X.outer\/(X.stack=X.env::X.outer/\X.env.frame=some X.env.locals)
 exf:∀b∈X.ex,b≠X.env.locals/\∀x c,X.env.cells.lookup x=some c->c≠b
 bs:∀b o,X.base.get? b=some o->X.s₀.heap.get? b=some o/\X.H₀ b=none
 bsz:X.base.objs.size<=X.s₀.heap.objs.size
 noex:∀b o,X.base.get? b=some o->b∉X.ex
 exfs:∀b∈X.ex,b∉X.fs
 funs:X.s₀.heap.FunFrames X.base X.outer
 frf:∀b∈X.fs,X.H₀ b=none
structure Inv (X:Cx) (pins:List (Addr×Obj)) (U:List (Option V)) (H:Hp) (s:Shared):Prop where
 ok:X.Ok
 os:s.os=X.s₀.os
 bare:AllBare s.gens
 base:Un X.fs X.ex X.H₀ H X.s₀.heap s.heap
 loc:∃m,s.heap.Ns X.env.locals m/\∀(i:Nat) (x:Str) (v:V),X.N[i]?=some x->U[i]?=some (some v)->Vis X.env.scope x->∃u,RelV v u/\y0z X.env s.heap m x u
 cell:∀x c,X.env.cells.lookup x=some c->∃v,s.heap.IsCell c v
 free:H X.env.locals=none
 freeC:∀x c,X.env.cells.lookup x=some c->H c=none
 pin:∀p∈X.pn++pins,s.heap.get? p.1=some p.2/\H p.1=none/\p.1≠X.env.locals/\p.1∉X.fs/\∀v,p.2.data≠.cell v
 hok:HOk X.prog X.w H s.heap
 len:U.length=X.N.length
section
variable {X:Cx} {pins:List (Addr×Obj)} {U:List (Option V)} {H H':Hp} {s:Shared} {h':Heap}
theorem Cx.Ok.nofr (ok:X.Ok) {b:Addr} {o:Obj} (e:X.base.get? b=some o):b∉X.fs:=fun hb=>by
 have:=(ok.funs.mem hb).1
 rw [e] at this;cases this
theorem Inv.bs (I:Inv X pins U H s):∀b o,X.base.get? b=some o->s.heap.get? b=some o/\H b=none:=fun b o e=>
 ⟨I.base.keep b o (I.ok.bs b o e).1 (I.ok.bs b o e).2 (I.ok.nofr e) (I.ok.noex b o e),I.base.free b o (I.ok.bs b o e).1 (I.ok.bs b o e).2 (I.ok.noex b o e)⟩
theorem Inv.bk (I:Inv X pins U H s):∀b o,X.base.get? b=some o->s.heap.get? b=some o:=fun b o e=>(I.bs b o e).1
theorem Inv.mod (I:Inv X pins U H s):Mod X.K X.mg X.base:=I.ok.mod
theorem Inv.kIn (I:Inv X pins U H s):X.K.In s.heap:=I.ok.mod.kin.keeps I.bk
theorem Inv.lt (I:Inv X pins U H s):X.env.locals<s.heap.objs.size:=let ⟨_,hn,_⟩:=I.loc;hn.lt
theorem Inv.sz (I:Inv X pins U H s):X.s₀.heap.objs.size<=s.heap.objs.size:=Nat.le_trans I.ok.above (Nat.le_of_lt I.lt)
theorem Inv.nofs (I:Inv X pins U H s) {a:Addr} (h:s.heap.objs.size<=a):a∉X.fs:=fun hb=>by
 obtain ⟨_,o,ho,_⟩:=I.ok.funs.mem hb
 exact absurd (Nat.lt_of_lt_of_le (Heap.lt_size ho) (Nat.le_trans I.sz h)) (Nat.lt_irrefl _)
theorem Inv.cne (I:Inv X pins U H s):∀x c,X.env.cells.lookup x=some c->c≠X.env.locals:=fun x c e z=>by
 obtain ⟨v,o,ho,hd⟩:=I.cell x c e
 obtain ⟨m,⟨o',es,ep,ho',hd',_⟩,_⟩:=I.loc
 rw [z,ho'] at ho;cases ho;rw [hd'] at hd;cases hd
theorem Inv.funs (I:Inv X pins U H s):s.heap.FunFrames X.base X.outer:=by
 have all:∀(l:List Env),(∀b∈frs l,b∈X.fs)->X.s₀.heap.FunFrames X.base l->s.heap.FunFrames X.base l:=by
  intro l
  induction l with
  | nil=>intro _ _;trivial
  | cons env r ih=>
   intro hs hl
   obtain ⟨hk,⟨L,o,hf,hn,ho,hd⟩,hr⟩:=hl
   have hL:L∈X.fs:=hs L (by unfold frs;rw [List.filterMap_cons,hf];exact List.mem_cons_self)
   obtain ⟨sl,e⟩:=I.base.slot L o ho (I.ok.frf L hL) hL fun z=>I.ok.exfs L z hL
   exact ⟨hk,⟨L,_,hf,hn,e,hd⟩,ih (fun b hb=>hs b (by unfold frs;rw [List.filterMap_cons,hf];exact List.mem_cons_of_mem _ hb)) hr⟩
 exact all X.outer (fun _ hb=>hb) I.ok.funs
theorem Inv.stack (I:Inv X pins U H s):s.heap.FunFrames X.base X.stack:=by
 rcases I.ok.stk with e | ⟨e,hf⟩
 . rw [e];exact I.funs
 . rw [e]
   obtain ⟨m,hn,_⟩:=I.loc
   refine .cons (by rw [I.ok.kind];decide) hf hn ?_ I.funs
   exact Heap.get?_none_of_le (Nat.le_trans I.ok.bsz I.ok.above)
theorem Inv.stkSub (I:Inv X pins U H s):∀b∈frs X.stack,b∈X.env.locals::X.fs:=fun b hb=>by
 rcases I.ok.stk with e | ⟨e,hf⟩
 . rw [e] at hb;exact List.mem_cons_of_mem _ hb
 . rw [e] at hb
   unfold frs at hb
   rw [List.filterMap_cons,hf] at hb
   exact hb
theorem Inv.stkFree (I:Inv X pins U H s):∀b∈frs X.stack,H b=none:=fun b hb=>by
 rcases List.mem_cons.mp (I.stkSub b hb) with e | hb
 . rw [e];exact I.free
 . obtain ⟨_,o,ho,_⟩:=I.ok.funs.mem hb
   exact I.base.free b o ho (I.ok.frf b hb) fun z=>I.ok.exfs b z hb
theorem Inv.step {g':Array GenState} {t':Nat} {d':Drawn} {ch:List Addr} (I:Inv X pins U H s)
  (hch:∀b∈ch,(b∈X.ex\/X.s₀.heap.objs.size<=b)/\b≠X.env.locals/\(∀x c,X.env.cells.lookup x=some c->c≠b)/\∀p∈X.pn++pins,p.1≠b)
  (keep:∀b o,b≠X.env.locals->b∉X.fs->b∉ch->s.heap.get? b=some o->H b=none->h'.get? b=some o)
  (slot:∀b o,b≠X.env.locals->b∈X.fs->b∉ch->s.heap.get? b=some o->H b=none->∃sl,h'.get? b=some { o with slots:=sl }) (free:∀b o,b∉ch->s.heap.get? b=some o->H b=none->H' b=none)
  (there:∀b o,b∉ch->s.heap.get? b=some o->∃o',h'.get? b=some o')
  (tups:∀b xs,H b=some (.tup xs)->H' b=some (.tup xs)) (frzs:∀b o u,H b=some (.frz o u)->H' b=some (.frz o u)) (tbls:∀b ps,H b=some (.tbl ps)->∃more,H' b=some (.tbl (ps++more)))
  (ns:∀m,s.heap.Ns X.env.locals m->h'.Ns X.env.locals m) (hok:HOk X.prog X.w H' h') (hg:AllBare g') :
  Inv X pins U H' { s with heap:=h',gens:=g',drawn:=d',toks:=t' }:=by
 have neL:∀b o,X.s₀.heap.get? b=some o->b≠X.env.locals:=fun b o e=>Nat.ne_of_lt (Nat.lt_of_lt_of_le (Heap.lt_size e) I.ok.above)
 have neC:∀b o,X.s₀.heap.get? b=some o->b∉X.ex->b∉ch:=fun b o e hx hb=>by
  rcases (hch b hb).1 with z | z
  . exact hx z
  . exact absurd (Nat.lt_of_lt_of_le (Heap.lt_size e) z) (Nat.lt_irrefl _)
 have cellK:∀x c,X.env.cells.lookup x=some c->∀v,s.heap.IsCell c v->h'.IsCell c v:=fun x c e v ⟨o,ho,hd⟩=>by
  have nch:c∉ch:=fun z=>(hch c z).2.2.1 x c e rfl
  by_cases hc:c∈X.fs
  . obtain ⟨sl,q⟩:=slot c o (I.cne x c e) hc nch ho (I.freeC x c e)
    exact ⟨_,q,hd⟩
  . exact ⟨o,keep c o (I.cne x c e) hc nch ho (I.freeC x c e),hd⟩
 refine ⟨I.ok,I.os,hg,⟨fun b o e n hb hx=>?_,fun b o e n hb hx=>?_,fun b o e n hx=>?_,fun b o e hx=>?_,fun b xs e=>tups b xs (I.base.tups b xs e),fun b o xs e=>frzs b o xs (I.base.frzs b o xs e),fun b ps e=>?_⟩,?_,fun x c e=>?_,?_,fun x c e=>?_,fun p hp=>?_,hok,I.len⟩
 . exact keep b o (neL b o e) hb (neC b o e hx) (I.base.keep b o e n hb hx) (I.base.free b o e n hx)
 . obtain ⟨sl,e1⟩:=I.base.slot b o e n hb hx
   obtain ⟨sl',e2⟩:=slot b _ (neL b o e) hb (neC b o e hx) e1 (I.base.free b o e n hx)
   exact ⟨sl',e2⟩
 . obtain ⟨o',e1⟩:=I.base.there b o e hx
   exact free b o' (neC b o e hx) e1 (I.base.free b o e n hx)
 . obtain ⟨o',e1⟩:=I.base.there b o e hx
   exact there b o' (neC b o e hx) e1
 . obtain ⟨m1,e1⟩:=I.base.tbls b ps e
   obtain ⟨m2,e2⟩:=tbls b _ e1
   exact ⟨m1++m2,by rw [e2,Array.append_assoc]⟩
 . obtain ⟨m,hn,hl⟩:=I.loc
   refine ⟨m,ns m hn,fun i x v e1 e2 e3=>?_⟩
   obtain ⟨u,r,l⟩:=hl i x v e1 e2 e3
   refine ⟨u,r,?_⟩
   rcases l with l | ⟨k,c,e,z⟩
   . exact .inl l
   . exact .inr ⟨k,c,e,cellK x c e _ z⟩
 . obtain ⟨v,z⟩:=I.cell x c e
   exact ⟨v,cellK x c e v z⟩
 . obtain ⟨m,⟨o,_,_,ho,_⟩,_⟩:=I.loc
   exact free _ o (fun z=>(hch _ z).2.1 rfl) ho I.free
 . obtain ⟨v,o,ho,hd⟩:=I.cell x c e
   exact free c o (fun z=>(hch c z).2.2.1 x c e rfl) ho (I.freeC x c e)
 . obtain ⟨e,n,ne,nf,d⟩:=I.pin p hp
   have nch:p.1∉ch:=fun z=>(hch p.1 z).2.2.2 p hp rfl
   exact ⟨keep p.1 p.2 ne nf nch e n,free p.1 p.2 nch e n,ne,nf,d⟩
theorem Inv.un {t':Nat} (I:Inv X pins U H s) (u:Un X.fs [] H H' s.heap h') (hok:HOk X.prog X.w H' h'):Inv X pins U H' { s with heap:=h',toks:=t' }:=by
 obtain ⟨m,⟨o,es,ep,ho,r⟩,_⟩:=id I.loc
 obtain ⟨sl,hL⟩:=u.any ho I.free (by simp)
 exact I.step (g':=s.gens) (d':=s.drawn) (ch:=[]) (fun _ z=>nomatch z) (fun b o _ hb _ e n=>u.keep b o e n hb (by simp)) (fun b o _ hb _ e n=>u.slot b o e n hb (by simp)) (fun b o _ e n=>u.free b o e n (by simp)) (fun b o _ e=>u.there b o e (by simp)) u.tups u.frzs u.tbls (fun m' hm=>by
  obtain ⟨o',es',ep',ho',r'⟩:=hm
  rw [ho] at ho';cases ho'
  exact ⟨_,es',ep',hL,r'⟩) hok I.bare
theorem Inv.call {g':Array GenState} {t':Nat} {d':Drawn} {ch:List Addr} (I:Inv X pins U H s) (u:Un (frs X.stack) ch H H' s.heap h') (hok:HOk X.prog X.w H' h') (hg:AllBare g')
  (hch:∀b∈ch,(b∈X.ex\/X.s₀.heap.objs.size<=b)/\b≠X.env.locals/\(∀x c,X.env.cells.lookup x=some c->c≠b)/\∀p∈X.pn++pins,p.1≠b) :
  Inv X pins U H' { s with heap:=h',gens:=g',drawn:=d',toks:=t' }:=by
 obtain ⟨m,⟨o,es,ep,ho,r⟩,_⟩:=id I.loc
 obtain ⟨sl,hL⟩:=u.any ho I.free fun z=>(hch _ z).2.1 rfl
 exact I.step (ch:=ch) hch (fun b o hL hb hc e n=>u.keep b o e n (fun z=>(List.mem_cons.mp (I.stkSub b z)).elim hL hb) hc) (fun b o _ _ hc e n=>u.any e n hc) (fun b o hc e n=>u.free b o e n hc) (fun b o hc e=>u.there b o e hc) u.tups u.frzs u.tbls (fun m' hm=>by
  obtain ⟨o',es',ep',ho',r'⟩:=hm
  rw [ho] at ho';cases ho'
  exact ⟨_,es',ep',hL,r'⟩) hok hg
theorem Inv.turned {t':Nat} {it:Addr} (I:Inv X pins U H s) (k:∀b o,b≠it->s.heap.get? b=some o->h'.get? b=some o) (hn:H it=none) (hL:it≠X.env.locals)
  (h1:it∈X.ex\/X.s₀.heap.objs.size<=it) (h2:∀x c,X.env.cells.lookup x=some c->c≠it) (h3:∀p∈X.pn++pins,p.1≠it):Inv X pins U H { s with heap:=h',toks:=t' }:=by
 have nit:∀b u,H b=some u->b≠it:=fun b u e z=>by rw [z,hn] at e;cases e
 refine I.step (g':=s.gens) (d':=s.drawn) (ch:=[it]) (fun b hb=>?_) (fun b o _ _ hc e _=>k b o (fun z=>hc (by simp [z])) e) (fun b o _ _ hc e _=>⟨o.slots,k b o (fun z=>hc (by simp [z])) e⟩) (fun _ _ _ _ n=>n)
  (fun b o hc e=>⟨o,k b o (fun z=>hc (by simp [z])) e⟩) (fun _ _ e=>e) (fun _ _ _ e=>e) (fun b ps e=>⟨#[],by rw [e];simp⟩) (fun m hm=>?_) (fun b u e=>?_) I.bare
 . have e:b=it:=by simpa using hb
   subst e
   exact ⟨h1,hL,h2,h3⟩
 . obtain ⟨o,es,ep,ho,r⟩:=hm
   exact ⟨o,es,ep,k _ o (Ne.symm hL) ho,r⟩
 . refine (I.hok b u e).stay (fun c v hc q=>k c v ?_ q) (fun _ q=>q) fun _ _ q=>q
   rcases hc with z | z
   . rw [z];exact nit b u e
   . exact nit c _ z
theorem Inv.tok (I:Inv X pins U H s) (t:Nat):Inv X pins U H { s with toks:=t }:=I.un (h':=s.heap) (t':=t) Un.refl I.hok
theorem Inv.kept {t':Nat} (I:Inv X pins U H s) (k:∀b u,s.heap.get? b=some u->h'.get? b=some u):Inv X pins U H { s with heap:=h',toks:=t' }:=I.un (Un.kept k) (I.hok.kept k)
theorem Inv.laid {a:Addr} {o:HO} {t':Nat} (I:Inv X pins U H s) (k:∀b u,s.heap.get? b=some u->h'.get? b=some u) (hp:s.heap.objs.size<=a) (new:ObjOk X.prog X.w (upd H a o) h' a o) :
 Inv X pins U (upd H a o) { s with heap:=h',toks:=t' }:=I.un (Un.laid k hp (I.hok.fresh hp)) (I.hok.laid k hp new)
theorem Inv.write {x e:Addr} {o:HO} {t':Nat} (I:Inv X pins U H s) (mu:Mut (H x)) (he:e=x\/H e=some (.own x)) (k:∀b u,b≠e->s.heap.get? b=some u->h'.get? b=some u) (heo:∃u,h'.get? e=some u)
 (new:ObjOk X.prog X.w (upd H x o) h' x o):Inv X pins U (upd H x o) { s with heap:=h',toks:=t' }:=I.un (Un.write mu he k heo) (I.hok.write mu he k heo new)
theorem Inv.pins_of {pins':List (Addr×Obj)} (I:Inv X pins U H s) (h:∀p∈pins',s.heap.get? p.1=some p.2/\H p.1=none/\p.1≠X.env.locals/\p.1∉X.fs/\∀v,p.2.data≠.cell v):Inv X pins' U H s:=
 ⟨I.ok,I.os,I.bare,I.base,I.loc,I.cell,I.free,I.freeC,fun p hp=>(List.mem_append.mp hp).elim (fun z=>I.pin p (List.mem_append_left _ z)) (h p),I.hok,I.len⟩
theorem z90 {N:List Str} (hN:N.Nodup) {i j:Nat} {x:Str} (a:N[i]?=some x) (b:N[j]?=some x):i=j:=by
 obtain ⟨h1,e1⟩:=List.getElem?_eq_some_iff.mp a
 obtain ⟨h2,e2⟩:=List.getElem?_eq_some_iff.mp b
 exact (List.getElem_inj hN).mp (e1.trans e2.symm)
theorem zae {M:Model} {A:Around} {E:Value->Shared->Prop} {i:Nat} {x:Str} {v:V} {u:Value} {Q:Unit->Shared->Prop} (I:Inv X pins U H s) (hN:X.N.Nodup) (hi:X.N[i]?=some x) (hx:Loc X.env.scope x) (r:RelV v u)
  (h:∀s',Inv X pins (U.set i (some v)) H s'->(∃a,Heap.SameBut a s.heap s'.heap/\(a=X.env.locals\/X.env.cells.lookup x=some a))->Q () s') (hf:X.fn x=true\/X.env.scope.names.lookup x=some .local):wpAny M A (storeName X.env x u) Q E s:=by
 obtain ⟨m,hn,hl⟩:=id I.loc
 have hcls:(X.env.scope.kind==.class||(X.env.scope.kind==.module&&X.env.locals != X.env.globals))=false:=by rw [I.ok.kind];rfl
 have hiσ:i<U.length:=by rw [I.len];exact (List.getElem?_eq_some_iff.mp hi).1
 have cne:=I.cne
 have tracked:∀{a:Addr} {h':Heap},(∃o,s.heap.get? a=some o/\H a=none)->Heap.SameBut a s.heap h'->HOk X.prog X.w H h':=fun {a h'} ha hs b ob e=>by
  obtain ⟨_,_,hfree⟩:=ha
  refine (I.hok b ob e).stay (fun c w' hc q=>(hs.2 c ?_).trans q) (fun _ q=>q) fun _ _ q=>q
  rintro rfl
  rcases hc with rfl | hc
  . rw [hfree] at e;cases e
  . rw [hfree] at hc;cases hc
 rcases hx with hk | hk
 . refine wpAny_storeName_local hk hn (fun h' hn' hs=>?_) hcls
   obtain ⟨oL,_,_,hoL,_⟩:=id hn
   refine h _ ⟨I.ok,I.os,I.bare,⟨fun b o e n hb hx=>?_,fun b o e n hb hx=>?_,I.base.free,fun b o e hx=>?_,I.base.tups,I.base.frzs,I.base.tbls⟩,⟨_,hn',fun j y v' e1 e2 e3=>?_⟩,fun y c e=>?_,I.free,I.freeC,fun p hp=>?_,tracked ⟨oL,hoL,I.free⟩ hs,by simpa using I.len⟩ ⟨_,hs,.inl rfl⟩
   . exact (hs.2 b (Nat.ne_of_lt (Nat.lt_of_lt_of_le (Heap.lt_size e) I.ok.above))).trans (I.base.keep b o e n hb hx)
   . obtain ⟨sl,e1⟩:=I.base.slot b o e n hb hx
     exact ⟨sl,(hs.2 b (Nat.ne_of_lt (Nat.lt_of_lt_of_le (Heap.lt_size e) I.ok.above))).trans e1⟩
   . obtain ⟨o',e1⟩:=I.base.there b o e hx
     exact ⟨o',(hs.2 b (Nat.ne_of_lt (Nat.lt_of_lt_of_le (Heap.lt_size e) I.ok.above))).trans e1⟩
   . by_cases hj:j=i
     . subst hj
       rw [hi] at e1;cases e1
       rw [List.getElem?_set_self hiσ] at e2
       cases e2
       exact ⟨u,r,.inl ⟨hk,by simp⟩⟩
     . rw [List.getElem?_set_ne (Ne.symm hj)] at e2
       obtain ⟨u',r',q⟩:=hl j y v' e1 e2 e3
       refine ⟨u',r',?_⟩
       rcases q with ⟨k,e⟩ | ⟨k,c,e,z⟩
       . refine .inl ⟨k,?_⟩
         have:y≠x:=fun e=>hj (z90 hN e1 (e ▸ hi))
         simp [this,e]
       . exact .inr ⟨k,c,e,z.sameBut hs (cne y c e)⟩
   . obtain ⟨w',z⟩:=I.cell y c e
     exact ⟨w',z.sameBut hs (cne y c e)⟩
   . obtain ⟨e,n,ne,nf,d⟩:=I.pin p hp
     exact ⟨(hs.2 p.1 ne).trans e,n,ne,nf,d⟩
 . have hfn:X.fn x=true:=by
    rcases hf with z | z
    . exact z
    . rw [z] at hk;cases hk
   obtain ⟨c,hc⟩:=I.ok.has x (.inl hk)
   obtain ⟨w',z⟩:=I.cell x c hc
   refine wpAny_storeName_cell I.ok.kind hk hc z (fun h' hc' hs=>?_)
   obtain ⟨oc,hoc,hocd⟩:=id z
   refine h { s with heap:=h' } ⟨I.ok,I.os,I.bare,⟨fun b o e n hb hx=>?_,fun b o e n hb hx=>?_,I.base.free,fun b o e hx=>?_,I.base.tups,I.base.frzs,I.base.tbls⟩,⟨m,hn.sameBut hs (Ne.symm (cne x c hc)),fun j y v' e1 e2 e3=>?_⟩,fun y c' e=>?_,I.free,I.freeC,fun p hp=>?_,tracked ⟨oc,hoc,I.freeC x c hc⟩ hs,by simpa using I.len⟩ ⟨c,hs,.inr hc⟩
   . exact (hs.2 b (Nat.ne_of_lt (Nat.lt_of_lt_of_le (Heap.lt_size e) (I.ok.cab x c hfn hc)))).trans (I.base.keep b o e n hb hx)
   . obtain ⟨sl,e1⟩:=I.base.slot b o e n hb hx
     exact ⟨sl,(hs.2 b (Nat.ne_of_lt (Nat.lt_of_lt_of_le (Heap.lt_size e) (I.ok.cab x c hfn hc)))).trans e1⟩
   . obtain ⟨o',e1⟩:=I.base.there b o e hx
     exact ⟨o',(hs.2 b (Nat.ne_of_lt (Nat.lt_of_lt_of_le (Heap.lt_size e) (I.ok.cab x c hfn hc)))).trans e1⟩
   . by_cases hj:j=i
     . subst hj
       rw [hi] at e1;cases e1
       rw [List.getElem?_set_self hiσ] at e2
       cases e2
       exact ⟨u,r,.inr ⟨.inl hk,c,hc,hc'⟩⟩
     . rw [List.getElem?_set_ne (Ne.symm hj)] at e2
       obtain ⟨u',r',q⟩:=hl j y v' e1 e2 e3
       refine ⟨u',r',?_⟩
       rcases q with q | ⟨k,c',e,z'⟩
       . exact .inl q
       . refine .inr ⟨k,c',e,z'.sameBut hs ?_⟩
         rintro rfl
         exact hj (z90 hN e1 (I.ok.inj _ _ _ e hc ▸ hi))
   . by_cases hcc:c'=c
     . subst hcc;exact ⟨_,hc'⟩
     . obtain ⟨w2,z2⟩:=I.cell y c' e
       exact ⟨w2,z2.sameBut hs hcc⟩
   . obtain ⟨e,n,ne,nf,d⟩:=I.pin p hp
     refine ⟨(hs.2 p.1 ?_).trans e,n,ne,nf,d⟩
     intro q
     rw [q,hoc] at e
     have q':oc=p.2:=Option.some.inj e
     exact d w' (by rw [<-q'];exact hocd)
theorem z6j {M:Model} {A:Around} {E:Value->Shared->Prop} {i:Nat} {x:Str} {v:V} {u:Value} {Q:Unit->Shared->Prop} (I:Inv X pins U H s) (hN:X.N.Nodup) (hi:X.N[i]?=some x) (hx:Loc X.env.scope x) (r:RelV v u)
  (h:∀s',Inv X pins (U.set i (some v)) H s'->Q () s') (hf:X.fn x=true\/X.env.scope.names.lookup x=some .local):wpAny M A (storeName X.env x u) Q E s:=
 zae I hN hi hx r (fun s' I' _=>h s' I') hf
theorem Inv.call' {s':Shared} {ch:List Addr} (I:Inv X pins U H s) (ho:s'.os=s.os) (u:Un (frs X.stack) ch H H' s.heap s'.heap) (hok:HOk X.prog X.w H' s'.heap) (hg:AllBare s'.gens)
  (hch:∀b∈ch,(b∈X.ex\/X.s₀.heap.objs.size<=b)/\b≠X.env.locals/\(∀x c,X.env.cells.lookup x=some c->c≠b)/\∀p∈X.pn++pins,p.1≠b):Inv X pins U H' s':=by
 obtain ⟨h',g',d',t',o'⟩:=s'
 have e:o'=s.os:=ho
 subst e
 exact I.call (g':=g') (t':=t') (d':=d') u hok hg hch
end
abbrev XK:=Value->Option Addr->Hp->Prop
abbrev St:=List (Option V)
abbrev VK:=V->Hp->Prop
abbrev TE:=St->Hp->VK->Prop
abbrev TT:=St->Hp->(Bool->Hp->Prop)->Prop
abbrev TA:=St->Hp->(List V->Hp->Prop)->Prop
structure Ends where
 nx:St->Hp->Prop
 rt:VK
 bk:St->Hp->Prop:=fun _ _=>False
 ct:St->Hp->Prop:=fun _ _=>False
abbrev TS:=Ends->St->Hp->Prop
def EP (X:Cx) (pins:List (Addr×Obj)) (U:St) (Q:VK) (u:Value) (s':Shared):Prop:=∃v H',Inv X pins U H' s'/\RelV v u/\Q v H'
def TP (X:Cx) (pins:List (Addr×Obj)) (U:St) (Q:Bool->Hp->Prop) (b:Bool) (s':Shared):Prop:=∃H',Inv X pins U H' s'/\Q b H'
def AP (X:Cx) (pins:List (Addr×Obj)) (U:St) (Q:List V->Hp->Prop) (us:List Value) (s':Shared):Prop:=∃vs H',Inv X pins U H' s'/\Vals vs us/\Q vs H'
def SP (X:Cx) (pins:List (Addr×Obj)) (D:Ends) (f:Flow) (s':Shared):Prop:=
 match f with
 | .next=>∃σ' H',Inv X pins σ' H' s'/\D.nx σ' H'
 | .brk=>∃σ' H',Inv X pins σ' H' s'/\D.bk σ' H'
 | .cont=>∃σ' H',Inv X pins σ' H' s'/\D.ct σ' H'
 | .ret u=>∃v σ' H',Inv X pins σ' H' s'/\RelV v u/\D.rt v H'
def PE (X:Cx) (e:Expr) (t:TE):Prop:=
 ∀(pins:List (Addr×Obj)) (s:Shared) (U:St) (H:Hp) (Q:VK),Inv X pins U H s->t U H Q->wpAny (model X.prog X.w) X.A (eval e X.env) (EP X pins U Q) X.xe s
def PT (X:Cx) (e:Expr) (t:TT):Prop:=
 ∀(pins:List (Addr×Obj)) (s:Shared) (U:St) (H:Hp) (Q:Bool->Hp->Prop),Inv X pins U H s->t U H Q->wpAny (model X.prog X.w) X.A (isTrue e X.env (eval e X.env)) (TP X pins U Q) X.xe s
def PW (X:Cx) (e:Expr) (t:TT):Prop:=
 ∀(whole:Sem Value) (pins:List (Addr×Obj)) (s:Shared) (U:St) (H:Hp) (Q:Bool->Hp->Prop),Inv X pins U H s->t U H Q->wpAny (model X.prog X.w) X.A (isTrue e X.env whole) (TP X pins U Q) X.xe s
theorem PW.pt {X:Cx} {e:Expr} {t:TT} (h:PW X e t):PT X e t:=h _
def PA (X:Cx) (es:List Expr) (t:TA):Prop:=
 ∀(pos:Pos) (pins:List (Addr×Obj)) (s:Shared) (U:St) (H:Hp) (Q:List V->Hp->Prop),Inv X pins U H s->t U H Q->wpAny (model X.prog X.w) X.A (spliced (backTo pos (starEach es X.env))) (AP X pins U Q) X.xe s
def PS (X:Cx) (st:Stmt) (t:TS):Prop:=
 ∀(pins:List (Addr×Obj)) (s:Shared) (U:St) (H:Hp) (D:Ends),Inv X pins U H s->t D U H->wpAny (model X.prog X.w) X.A (exec st X.env) (SP X pins D) X.xe s
def PSs (X:Cx) (st:List Stmt) (t:TS):Prop:=
 ∀(pins:List (Addr×Obj)) (s:Shared) (U:St) (H:Hp) (D:Ends),Inv X pins U H s->t D U H->wpAny (model X.prog X.w) X.A (execs st X.env) (SP X pins D) X.xe s
theorem thn {α:Type} {t:Sem α} {Q Q':α->Shared->Prop} {M:Model} {A:Around} {E:Value->Shared->Prop} {s:Shared} (h:wpAny M A t Q E s) (hQ:∀a s,Q a s->Q' a s):wpAny M A t Q' E s:=wpAny_mono h hQ fun _ _ x=>x
section
variable {X:Cx}
noncomputable def zx1 (i:Nat):TE:=fun U H Q=>∃v,U[i]?=some (some v)/\Q v H
noncomputable def tC (v:V):TE:=fun _ H Q=>Q v H
theorem zfq {i:Nat} {x:Str} {pos:Pos} (hN:X.N[i]?=some x) (hv:Vis X.env.scope x) (hd:(x==("__debug__":Str))=false:=by decide) (hcd:(x==("__classdict__":Str))=false:=by decide):PE X (.Name x pos) (zx1 i):=by
 intro pins s U H Q I h
 obtain ⟨v,e,h⟩:=h
 obtain ⟨m,hn,hl⟩:=I.loc
 obtain ⟨u,r,l⟩:=hl i x v hN e hv
 have fin:EP X pins U Q u s:=⟨v,H,I,r,h⟩
 rcases l with ⟨hk,hm⟩ | ⟨hk,c,hc,hcell⟩
 . exact wpAny_Name (wpAny_loadName_local I.ok.kind hk hn hm fin) hd
 . rcases hk with hk | hk
   . exact wpAny_Name (wpAny_loadName_cell I.ok.kind hk hc hcell fin) hd
   . exact wpAny_Name (wpAny_loadName_free I.ok.kind hk hc hcell fin hcd) hd
theorem pe_int {i j pos}:PE X (.Constant (.int i) j pos) (tC (.int i)):=fun _ _ _ H _ I h=>wpAny_Constant_int ⟨.int i,H,I.tok _,⟨_,rfl⟩,h⟩
theorem pe_bl {b j pos}:PE X (.Constant (.bool b) j pos) (tC (.bl b)):=fun _ _ _ H _ I h=>Constant_bool ⟨.bl b,H,I,rfl,h⟩
theorem pe_non {j pos}:PE X (.Constant .none j pos) (tC .non):=fun _ _ _ H _ I h=>Constant_none ⟨.non,H,I,rfl,h⟩
theorem pe_str {x j pos}:PE X (.Constant (.str x) j pos) (tC (.str x)):=fun _ _ _ H _ I h=>Calls.Constant_str ⟨.str x,H,I.tok _,⟨_,rfl⟩,h⟩
def Gl (X:Cx) (x:Str):Prop:=X.env.kindOf x=some .globalImplicit
theorem z6w {E:Value->Shared->Prop} {pins:List (Addr×Obj)} {s:Shared} {U:St} {H:Hp} {x:Str} {u:Value} {pos:Pos} {Q:Value->Shared->Prop} (I:Inv X pins U H s) (hg:Gl X x) (hm:X.mg x=some u) (h:Q u s)
  (hd:(x==("__debug__":Str))=false:=by decide):wpAny (model X.prog X.w) X.A (eval (.Name x pos) X.env) Q E s:=
 Calls.Name_function_global I.ok.kind hg (Calls.loadGlobal_global (by rw [I.ok.glob];exact I.mod.glob.keeps I.bk) hm h) hd
theorem z6x {E:Value->Shared->Prop} {pins:List (Addr×Obj)} {s:Shared} {U:St} {H:Hp} {x:Str} {u:Value} {pos:Pos} {Q:Value->Shared->Prop} (I:Inv X pins U H s) (hg:Gl X x) (hm:X.mg x=none) (hv:bootBuiltins x=some u) (h:Q u s)
  (hn:x≠"__name__":=by decide) (hd:(x==("__debug__":Str))=false:=by decide):wpAny (model X.prog X.w) X.A (eval (.Name x pos) X.env) Q E s:=by
 obtain ⟨mb,h1,h2⟩:=I.mod.blt
 exact Calls.Name_function_global I.ok.kind hg (Calls.loadGlobal_builtin (by rw [I.ok.glob];exact I.mod.glob.keeps I.bk) hm (by rw [I.ok.blt];exact h1.keeps I.bk) ((h2 x hn).trans hv) h) hd
theorem z15 {x:Str} {v:V} {u:Value} {pos:Pos} (hg:Gl X x) (hm:X.mg x=some u) (r:RelV v u) (hd:(x==("__debug__":Str))=false:=by decide):PE X (.Name x pos) (tC v):=
 fun _ _ _ H _ I h=>z6w I hg hm ⟨v,H,I,r,h⟩ hd
theorem z3r {x:Str} {v:V} {u:Value} {pos:Pos} (hg:Gl X x) (hm:X.mg x=none) (hv:bootBuiltins x=some u) (r:RelV v u) (hn:x≠"__name__":=by decide) (hd:(x==("__debug__":Str))=false:=by decide):PE X (.Name x pos) (tC v):=
 fun _ _ _ H _ I h=>z6x I hg hm hv ⟨v,H,I,r,h⟩ hn hd
variable {a b:Expr} {pos:Pos}
variable {tA tB':TT} {rest:List Expr}
noncomputable def zzw (t u:TT):TT:=fun U H Q=>t U H fun c H1=>if c=true then u U H1 Q else Q false H1
noncomputable def tOr (t u:TT):TT:=fun U H Q=>t U H fun c H1=>if c=true then Q true H1 else u U H1 Q
noncomputable def zzx (t:TT):TT:=fun U H Q=>t U H fun c H1=>Q (!c) H1
theorem zn2 (ha:PT X a tA):PW X (.BoolOp .And [a] pos) tA:=by
 intro wh pins s U H Q I h
 refine isTrue_and (thn (ha pins s U H Q I h) fun c s1 e=>?_)
 cases c with
 | true=>exact isTrue_and_nil e
 | false=>exact e
theorem zqv (ha:PT X a tA):PW X (.BoolOp .Or [a] pos) tA:=by
 intro wh pins s U H Q I h
 refine isTrue_or (thn (ha pins s U H Q I h) fun c s1 e=>?_)
 cases c with
 | false=>exact isTrue_or_nil e
 | true=>exact e
theorem zqw (ha:PT X a tA) (hb:PW X (.BoolOp .And (b::rest) pos) tB'):PW X (.BoolOp .And (a::b::rest) pos) (zzw tA tB'):=by
 intro wh pins s U H Q I h
 refine isTrue_and (thn (ha pins s U H _ I h) fun c s1 ⟨H1,I1,q1⟩=>?_)
 cases c with
 | true=>exact hb wh pins s1 U H1 Q I1 q1
 | false=>exact ⟨H1,I1,q1⟩
theorem zx2 (ha:PT X a tA) (hb:PW X (.BoolOp .Or (b::rest) pos) tB'):PW X (.BoolOp .Or (a::b::rest) pos) (tOr tA tB'):=by
 intro wh pins s U H Q I h
 refine isTrue_or (thn (ha pins s U H _ I h) fun c s1 ⟨H1,I1,q1⟩=>?_)
 cases c with
 | true=>exact ⟨H1,I1,q1⟩
 | false=>exact hb wh pins s1 U H1 Q I1 q1
theorem zqx (ha:PT X a tA):PT X (.UnaryOp .Not a pos) (zzx tA):=by
 intro pins s U H Q I h
 exact isTrue_not (ha pins s U H (fun c H1=>Q (!c) H1) I h)
theorem zqy {op} {t:TE} (h:PE X a t):PE X (.BoolOp op [a] pos) t:=fun pins s U H Q I hw=>BoolOp_one (h pins s U H Q I hw)
end
def SqL (K:Frag) (H:Hp) (a:Addr) (xs:List V):Prop:=
 Rd H a (.lst xs) \/
  ∃(o:Obj) (its:Array Value) (n:Nat),K.lookup a=some o/\o.cls=.type "list"/\o.dict=none/\o.data=.seq its n/\its.size<=sizeLine/\Vals xs its.toList
def SqT (K:Frag) (H:Hp) (a:Addr) (xs:List V):Prop:=
 Rd H a (.tup xs) \/
  ∃(o:Obj) (its:Array Value) (n:Nat),K.lookup a=some o/\o.cls=.type "tuple"/\o.data=.seq its n/\its.size<=sizeLine/\Vals xs its.toList
noncomputable def zzy:Value->Option V
 | .none=>some .non
 | .bool b=>some (.bl b)
 | .int i _=>some (.int i)
 | .str x _=>some (.str x)
 | .bytes b _=>some (.byt b)
 | .float b _=>some (.flt b)
 | .ref a=>some (.ref a)
 | .type n=>some (.ty n)
 | _=>none
theorem RelV.abs {x:V} {u:Value} (r:RelV x u):zzy u=some x:=by
 cases x with
 | non=>cases r;rfl
 | bl _=>cases r;rfl
 | int _=>obtain ⟨t,rfl⟩:=r;rfl
 | str _=>obtain ⟨t,rfl⟩:=r;rfl
 | byt _=>obtain ⟨t,rfl⟩:=r;rfl
 | flt _=>obtain ⟨t,rfl⟩:=r;rfl
 | ref _=>cases r;rfl
 | ty _=>cases r;rfl
theorem RelV.inj {x y:V} {u:Value} (r:RelV x u) (q:RelV y u):x=y:=Option.some.inj (r.abs.symm.trans q.abs)
theorem Vals.inj:∀{xs ys:List V} {us:List Value},Vals xs us->Vals ys us->xs=ys
 | _,_,_,.nil,.nil=>rfl
 | _,_,_,.cons r t,.cons r' t'=>by rw [r.inj r',Vals.inj t t']
section
variable {X:Cx} {pins:List (Addr×Obj)} {U:St} {H:Hp} {s:Shared} {a:Addr} {xs ys:List V}
theorem SqL.of {K:Frag} (h:H a=some (.lst xs)):SqL K H a xs:=.inl (.inl h)
theorem SqT.of {K:Frag} (h:H a=some (.tup xs)):SqT K H a xs:=.inl (.inl h)
theorem Inv.list (I:Inv X pins U H s) (h:SqL X.K H a xs):∃its:List Value,Vals xs its/\PlainL s.heap a its.toArray/\xs.length<=sizeLine:=by
 rcases h with h | ⟨o,its,n,hk,hc,hd,hs,hz,r⟩
 . obtain ⟨z,its,n,r,e⟩:=h.ok I.hok
   exact ⟨its,r,⟨_,n,e,rfl,rfl,rfl⟩,z⟩
 . refine ⟨its.toList,r,⟨o,n,I.kIn a o hk,hc,hd,by simpa using hs⟩,?_⟩
   have e:=r.length
   simp only [Array.length_toList] at e
   lia
theorem Inv.tuple (I:Inv X pins U H s) (h:SqT X.K H a xs):∃its:List Value,Vals xs its/\IsTup s.heap a its.toArray/\xs.length<=sizeLine:=by
 rcases h with h | ⟨o,its,n,hk,hc,hs,hz,r⟩
 . obtain ⟨z,its,r,p⟩:=h.ok I.hok
   exact ⟨its,r,p.tup,z⟩
 . refine ⟨its.toList,r,⟨o,I.kIn a o hk,hc,n,by simpa using hs⟩,?_⟩
   have e:=r.length
   simp only [Array.length_toList] at e
   lia
theorem Inv.list_inj (I:Inv X pins U H s) (h:SqL X.K H a xs) (h':SqL X.K H a ys):xs=ys:=by
 obtain ⟨its,r,⟨o,n,e,_,_,d⟩,_⟩:=I.list h
 obtain ⟨its',r',⟨o',n',e',_,_,d'⟩,_⟩:=I.list h'
 rw [e] at e';cases e'
 rw [d] at d'
 injection d' with d1 _
 have:its=its':=by simpa using congrArg Array.toList d1
 subst this
 exact r.inj r'
theorem Inv.tuple_inj (I:Inv X pins U H s) (h:SqT X.K H a xs) (h':SqT X.K H a ys):xs=ys:=by
 obtain ⟨its,r,⟨o,e,_,n,d⟩,_⟩:=I.tuple h
 obtain ⟨its',r',⟨o',e',_,n',d'⟩,_⟩:=I.tuple h'
 rw [e] at e';cases e'
 rw [d] at d'
 injection d' with d1 _
 have:its=its':=by simpa using congrArg Array.toList d1
 subst this
 exact r.inj r'
end
abbrev Cx.wish (X:Cx) (E:Value->Shared->Prop):Cx:={ X with xe:=E }
abbrev Cx.nox (X:Cx):Cx:=X.wish fun _ _=>False
theorem Cx.Ok.wish {X:Cx} (ok:X.Ok) (E:Value->Shared->Prop):(X.wish E).Ok:=
 ⟨ok.mod,ok.kind,ok.glob,ok.blt,ok.above,ok.inj,ok.has,ok.cab,ok.hd,ok.frames,ok.stk,ok.exf,ok.bs,ok.bsz,ok.noex,ok.exfs,ok.funs,ok.frf⟩
theorem Cx.Ok.unwish {X:Cx} {E:Value->Shared->Prop} (ok:(X.wish E).Ok):X.Ok:=
 ⟨ok.mod,ok.kind,ok.glob,ok.blt,ok.above,ok.inj,ok.has,ok.cab,ok.hd,ok.frames,ok.stk,ok.exf,ok.bs,ok.bsz,ok.noex,ok.exfs,ok.funs,ok.frf⟩
section
variable {X:Cx} {pins:List (Addr×Obj)} {U:St} {H:Hp} {s:Shared} {E:Value->Shared->Prop}
theorem Inv.wish (I:Inv X pins U H s) (E:Value->Shared->Prop):Inv (X.wish E) pins U H s:=⟨I.ok.wish E,I.os,I.bare,I.base,I.loc,I.cell,I.free,I.freeC,I.pin,I.hok,I.len⟩
theorem Inv.unwish (I:Inv (X.wish E) pins U H s):Inv X pins U H s:=⟨I.ok.unwish,I.os,I.bare,I.base,I.loc,I.cell,I.free,I.freeC,I.pin,I.hok,I.len⟩
theorem SP.unwish {D:Ends} {f:Flow} {s':Shared} (h:SP (X.wish E) pins D f s'):SP X pins D f s':=by
 cases f with
 | next=>obtain ⟨σ',H',I,q⟩:=h;exact ⟨σ',H',I.unwish,q⟩
 | brk=>obtain ⟨σ',H',I,q⟩:=h;exact ⟨σ',H',I.unwish,q⟩
 | cont=>obtain ⟨σ',H',I,q⟩:=h;exact ⟨σ',H',I.unwish,q⟩
 | ret u=>obtain ⟨v,σ',H',I,r,q⟩:=h;exact ⟨v,σ',H',I.unwish,r,q⟩
theorem PE.nox {e:Expr} {t:TE} (h:PE X.nox e t):PE X e t:=fun pins s U H Q I hw=>
 wpAny_mono (h pins s U H Q (I.wish _) hw) (fun _ _ ⟨v,H',I',r,q⟩=>⟨v,H',I'.unwish,r,q⟩) fun _ _ z=>False.elim z
theorem PT.nox {e:Expr} {t:TT} (h:PT X.nox e t):PT X e t:=fun pins s U H Q I hw=>
 wpAny_mono (h pins s U H Q (I.wish _) hw) (fun _ _ ⟨H',I',q⟩=>⟨H',I'.unwish,q⟩) fun _ _ z=>False.elim z
theorem PSs.nox {st:List Stmt} {t:TS} (h:PSs X.nox st t):PSs X st t:=fun pins s U H D I hw=>
 wpAny_mono (h pins s U H D (I.wish _) hw) (fun _ _ q=>q.unwish) fun _ _ z=>False.elim z
end
section
variable {X:Cx} {st:Stmt} {rest:List Stmt} {t u:TS} {e:Expr} {te:TE} {pos:Pos}
noncomputable def zqz:TS:=fun D U H=>D.nx U H
noncomputable def zzz (t u:TS):TS:=fun D U H=>t { D with nx:=u D } U H
theorem pss_nil:PSs X [] zqz:=fun _ _ U H _ I h=>wpAny_execs_nil ⟨U,H,I,h⟩
theorem z91 (h1:PS X st t) (h2:PSs X rest u):PSs X (st::rest) (zzz t u):=by
 intro pins s U H D I h
 refine wpAny_execs_cons (thn (h1 pins s U H { D with nx:=u D } I h) fun f s1 q=>?_)
 cases f with
 | next=>
  obtain ⟨σ',H',I',q⟩:=q
  exact h2 pins s1 σ' H' D I' q
 | ret v=>exact q
 | brk=>exact q
 | cont=>exact q
theorem zfr (h1:PS X st t):PSs X [st] t:=by
 intro pins s U H D I h
 refine wpAny_execs_cons (thn (h1 pins s U H D I h) fun f s1 q=>?_)
 cases f with
 | next=>exact wpAny_execs_nil q
 | ret v=>exact q
 | brk=>exact q
 | cont=>exact q
theorem Inv.quiet {pins:List (Addr×Obj)} {U:St} {H:Hp} {s:Shared} (I:Inv X pins U H s):interactive X.env=false:=by simp [interactive,I.ok.kind]
noncomputable def zaf (te:TE):TS:=fun D U H=>te U H fun _ H1=>D.nx U H1
theorem zbx (he:PE X e te) (hs:swapsWith e none pos.line X.env=pure false:=by rfl):PS X (.Expr e pos) (zaf te):=by
 intro pins s U H D I h
 exact wpAny_Expr_any (thn (he pins s U H _ I h) fun v s1 ⟨x,H1,I1,r1,q1⟩=>⟨U,H1,I1,q1⟩) I.quiet hs
noncomputable def zx3 (te:TE):TS:=fun D U H=>te U H D.rt
theorem zl7 (he:PE X e te):PS X (.Return (some e) pos) (zx3 te):=by
 intro pins s U H D I h
 exact wpAny_Return_some (thn (he pins s U H _ I h) fun v s1 ⟨x,H1,I1,r1,q1⟩=>⟨x,U,H1,I1,r1,q1⟩)
noncomputable def y00 (c:TT) (t u:TS):TS:=fun D U H=>c U H fun b H1=>if b=true then t D U H1 else u D U H1
theorem zx4 {c:Expr} {a b:List Stmt} {tc:TT} (hc:PT X c tc) (ha:PSs X a t) (hb:PSs X b u):PS X (.If c a b pos) (y00 tc t u):=by
 intro pins s U H D I h
 refine wpAny_If (thn (hc pins s U H _ I h) fun d s1 ⟨H1,I1,q1⟩=>?_)
 cases d with
 | true=>exact ha pins s1 U H1 D I1 q1
 | false=>exact hb pins s1 U H1 D I1 q1
end
abbrev TG:=V->St->Hp->(St->Hp->Prop)->Prop
abbrev TGs:=List V->St->Hp->(St->Hp->Prop)->Prop
def PG (X:Cx) (target:Expr) (t:TG):Prop:=
 ∀(pins:List (Addr×Obj)) (s:Shared) (U:St) (H:Hp) (v:V) (u:Value) (Q:St->Hp->Prop),Inv X pins U H s->RelV v u->t v U H Q ->
  wpAny (model X.prog X.w) X.A (assign target X.env u) (fun _ s'=>∃σ' H',Inv X pins σ' H' s'/\Q σ' H') X.xe s
def PGs (X:Cx) (ts:List Expr) (t:TGs):Prop:=
 ∀(pins:List (Addr×Obj)) (s:Shared) (U:St) (H:Hp) (vs:List V) (us:List Value) (Q:St->Hp->Prop),Inv X pins U H s->Vals vs us->t vs U H Q ->
  wpAny (model X.prog X.w) X.A (assignInOrder ((assignEach ts X.env).map (·.2)) us) (fun _ s'=>∃σ' H',Inv X pins σ' H' s'/\Q σ' H') X.xe s
abbrev TIp:=V->V->Hp->VK->Prop
def PIp (X:Cx) (op:Operator) (t:TIp):Prop:=
 ∀(pins:List (Addr×Obj)) (s:Shared) (U:St) (H:Hp) (x y:V) (v u:Value) (Q:VK),Inv X pins U H s->RelV x v->RelV y u->t x y H Q ->
  wpAny (model X.prog X.w) X.A (inplaceOp op v u) (EP X pins U Q) X.xe s
section
variable {X:Cx} {pos:Pos}
noncomputable def z2v (i:Nat):TG:=fun v U H Q=>Q (U.set i (some v)) H
theorem zby {i:Nat} {x:Str} (hN:X.N.Nodup) (hi:X.N[i]?=some x) (hx:Loc X.env.scope x) (hf:X.fn x=true\/X.env.scope.names.lookup x=some .local):PG X (.Name x pos) (z2v i):=by
 intro pins s U H v u Q I r h
 exact wpAny_assign_Name (z6j I hN hi hx r (fun s' I'=>⟨_,H,I',h⟩) hf)
noncomputable def zr0:TGs:=fun vs U H Q=>vs=[]/\Q U H
noncomputable def z6y (t:TG) (u:TGs):TGs:=fun vs U H Q=>∃v r,vs=v::r/\t v U H fun σ' H'=>u r σ' H' Q
theorem pgs_nil:PGs X [] zr0:=by
 intro pins s U H vs us Q I r h
 obtain ⟨e,h⟩:=h
 subst e
 cases r
 exact assignInOrder_nil ⟨U,H,I,h⟩
theorem z47 {e:Expr} {es:List Expr} {t:TG} {u:TGs} (h1:PG X e t) (h2:PGs X es u)
  (hs:(assignEach (e::es) X.env).map (·.2)=assign e X.env::(assignEach es X.env).map (·.2):=by rfl):PGs X (e::es) (z6y t u):=by
 intro pins s U H vs us Q I r h
 obtain ⟨v,vr,e1,h⟩:=h
 subst e1
 cases r with
 | cons r rr=>
  rw [hs]
  refine assignInOrder_cons (thn (h1 pins s U H _ _ _ I r h) fun _ s1 ⟨σ1,H1,I1,q1⟩=>?_)
  exact h2 pins s1 σ1 H1 _ _ Q I1 rr q1
noncomputable def zr1 (K:Frag) (n:Nat) (t:TGs):TG:=fun v U H Q=>∃a xs,v=.ref a/\SqT K H a xs/\xs.length=n/\t xs U H Q
theorem zfs {es:List Expr} {k:Nat} {t:TGs} {n:Nat} (hc:X.calm=true) (h:PGs X es t)
  (hn:(assignEach es X.env).length=n:=by rfl) (hst:(assignEach es X.env).findIdx? (·.1)=none:=by rfl):PG X (.Tuple es k pos) (zr1 X.K n t):=by
 intro pins s U H v u Q I r hw
 obtain ⟨a,xs,e1,hq,hl,hw⟩:=hw
 subst e1
 cases r
 obtain ⟨its,rv,ht,hz⟩:=I.tuple hq
 refine assign_Tuple_tuple (I.ok.hd hc) ht (by simp [hn,<-hl,rv.length]) hst fun h' hx=>?_
 have I1:Inv X pins U H { s with heap:=h' }:=I.kept (t':=s.toks) fun b o e=>hx b o (Nat.ne_of_lt (Heap.lt_size e)) e
 exact h pins _ U H xs _ Q I1 (by simpa using rv) hw
noncomputable def zft (te:TE) (g:TG):TS:=fun D U H=>te U H fun x H1=>g x U H1 D.nx
theorem zr2 {tg e:Expr} {te:TE} {g:TG} (he:PE X e te) (hg:PG X tg g) (hs:swapsWithSole [tg] e pos.line X.env=pure false:=by rfl) (hw:swappedStores [tg] e X.env=pure none:=by rfl)
  (h1:(assignEach [tg] X.env).map (·.2)=[assign tg X.env]:=by rfl):PS X (.Assign [tg] e pos) (zft te g):=by
 intro pins s U H D I h
 refine wpAny_Assign_stores (thn (he pins s U H _ I h) fun v s1 ⟨x,H1,I1,r1,q1⟩=>?_) hs hw
 rw [h1]
 exact thn (hg pins s1 U H1 x v _ I1 r1 q1) fun _ s2 q=>q
theorem zr3 {i:Nat} {x:Str} {e:Expr} {te:TE} {pos':Pos} (hN:X.N.Nodup) (hi:X.N[i]?=some x) (hx:Loc X.env.scope x) (he:PE X e te) (hs:swapsWith e (some (.Name x pos')) pos.line X.env=pure false:=by rfl) (hf:X.fn x=true\/X.env.scope.names.lookup x=some .local) :
  PS X (.Assign [.Name x pos'] e pos) (zft te (z2v i)):=by
 intro pins s U H D I h
 refine wpAny_Assign_Name (thn (he pins s U H _ I h) fun v s1 ⟨y,H1,I1,r1,q1⟩=>?_) hs
 exact z6j I1 hN hi hx r1 (fun s2 I2=>⟨_,H1,I2,q1⟩) hf
noncomputable def y01 (i:Nat) (te:TE) (ti:TIp):TS:=fun D U H=>∃x,U[i]?=some (some x)/\te U H fun y H1=>ti x y H1 fun z H2=>D.nx (U.set i (some z)) H2
theorem zr4 {i:Nat} {x:Str} {e:Expr} {te:TE} {op:Operator} {ti:TIp} {pos':Pos} (hN:X.N.Nodup) (hi:X.N[i]?=some x) (hx:Loc X.env.scope x) (he:PE X e te) (ho:PIp X op ti) (hf:X.fn x=true\/X.env.scope.names.lookup x=some .local:=by first | exact .inl rfl | exact .inr rfl | assumption) :
  PS X (.AugAssign (.Name x pos') op e pos) (y01 i te ti):=by
 intro pins s U H D I h
 obtain ⟨v,e1,h⟩:=h
 obtain ⟨m,hn,hl⟩:=I.loc
 have vis:Vis X.env.scope x:=by rcases hx with k | k;exact .inl k;exact .inr (.inl k)
 obtain ⟨u,r,l⟩:=hl i x v hi e1 vis
 refine wpAny_AugAssign_Name ?_
 have go:wpAny (model X.prog X.w) X.A (eval e X.env) (fun w s₂=>wpAny (model X.prog X.w) X.A (inplaceOp op u w) (fun r s₃=>wpAny (model X.prog X.w) X.A (storeName X.env x r) (fun _=>SP X pins D .next) X.xe s₃) X.xe s₂) X.xe s:=by
  refine thn (he pins s U H _ I h) fun w s1 ⟨y,H1,I1,r1,q1⟩=>?_
  refine thn (ho pins s1 U H1 v y u w _ I1 r r1 q1) fun z s2 ⟨zv,H2,I2,r2,q2⟩=>?_
  exact z6j I2 hN hi hx r2 (fun s3 I3=>⟨_,H2,I3,q2⟩) hf
 rcases l with ⟨hk,hm⟩ | ⟨hk,c,hc,hcell⟩
 . exact wpAny_loadName_local I.ok.kind hk hn hm go
 . rcases hk with hk | hk
   . exact wpAny_loadName_cell I.ok.kind hk hc hcell go
   . rcases hx with k | k
     . have:X.env.scope.names.lookup x=some .free:=hk
       rw [k] at this;cases this
     . have:X.env.scope.names.lookup x=some .free:=hk
       rw [k] at this;cases this
noncomputable def ipI (f:Int->Int->Int):TIp:=fun x y H Q=>∃i j,x=.int i/\y=.int j/\Q (.int (f i j)) H
theorem zr5:PIp X .Add (ipI fun i j=>i+j):=by
 intro pins s U H x y v u Q I r1 r2 h
 obtain ⟨i,j,e1,e2,q⟩:=h
 subst e1;subst e2
 obtain ⟨t,rfl⟩:=r1
 obtain ⟨t',rfl⟩:=r2
 exact iadd_int ⟨.int _,H,I.tok _,⟨_,rfl⟩,q⟩
theorem zr6:PIp X .Sub (ipI fun i j=>i - j):=by
 intro pins s U H x y v u Q I r1 r2 h
 obtain ⟨i,j,e1,e2,q⟩:=h
 subst e1;subst e2
 obtain ⟨t,rfl⟩:=r1
 obtain ⟨t',rfl⟩:=r2
 exact isub_int ⟨.int _,H,I.tok _,⟨_,rfl⟩,q⟩
end
section
variable {X:Cx} {pos:Pos}
noncomputable def zl8 (c:TT) (tb:TS):TS:=fun D U H=>∃W:Nat->St->Hp->Prop,(∃m,W m U H)/\∀m U H,W m U H ->
 c U H fun b H1=>if b=true then ∃N:St->Hp->Prop,(∀σ' H',N σ' H'->∃m',m'<m/\W m' σ' H')/\tb { D with nx:=N,ct:=N,bk:=D.nx } U H1 else D.nx U H1
theorem zj6 {c:Expr} {body:List Stmt} {tc:TT} {tb:TS} (hp:PassesOwn (model X.prog X.w) X.A X.env X.xe) (hc:PT X c tc) (hb:PSs X body tb):PS X (.While c body [] pos) (zl8 tc tb):=by
 intro pins s U H D I h
 obtain ⟨W,⟨m0,w0⟩,turn⟩:=h
 refine wpAny_While (codeAny_whileLoop (fun n s'=>∃σ' H',Inv X pins σ' H' s'/\W n σ' H') ?_ m0 ⟨U,H,I,w0⟩)
 rintro n s1 ⟨σ1,H1,I1,w1⟩
 refine wpAny_passesOwn hp (thn (hc pins s1 σ1 H1 _ I1 (turn n σ1 H1 w1)) fun b s2 ⟨H2,I2,q2⟩=>?_)
 cases b with
 | true=>
  obtain ⟨N,hN,q2⟩:=q2
  rw [if_pos rfl]
  refine wpAny_passesOwn hp (thn (hb pins s2 σ1 H2 _ I2 q2) fun f s3 q3=>?_)
  cases f with
  | next=>
   obtain ⟨σ3,H3,I3,n3⟩:=q3
   obtain ⟨m',hm,w3⟩:=hN σ3 H3 n3
   exact ⟨m',hm,σ3,H3,I3,w3⟩
  | cont=>
   obtain ⟨σ3,H3,I3,n3⟩:=q3
   obtain ⟨m',hm,w3⟩:=hN σ3 H3 n3
   exact ⟨m',hm,σ3,H3,I3,w3⟩
  | brk=>exact q3
  | ret v=>exact q3
 | false=>
  rw [if_neg Bool.false_ne_true]
  exact wpAny_execs_nil ⟨σ1,H2,I2,q2⟩
end
structure It where
 go:Nat->Hp->Prop
 yld:Nat->Hp->V->Hp->Prop
 stop:Nat->Hp->Prop
def zbr (X:Cx) (pins:List (Addr×Obj)) (H:Hp) (b:Addr):Prop:=
 H b=none/\b≠X.env.locals/\b∉X.fs/\(b∈X.ex\/X.s₀.heap.objs.size<=b)/\(∀x c,X.env.cells.lookup x=some c->c≠b)/\∀p∈X.pn++pins,p.1≠b
theorem Inv.fpOk {X:Cx} {pins:List (Addr×Obj)} {U:St} {H H':Hp} {s:Shared} {b:Addr} (I:Inv X pins U H s) (hb:s.heap.objs.size<=b) (hn:H' b=none):zbr X pins H' b:=by
 refine ⟨hn,Nat.ne_of_gt (Nat.lt_of_lt_of_le I.lt hb),I.nofs hb,.inr (Nat.le_trans I.sz hb),fun x c e z=>?_,fun p hp z=>?_⟩
 . obtain ⟨v,q⟩:=I.cell x c e
   exact absurd (Nat.lt_of_lt_of_le q.lt (by rw [z];exact hb)) (Nat.lt_irrefl _)
 . exact absurd (Nat.lt_of_lt_of_le (Heap.lt_size (I.pin p hp).1) (by rw [z];exact hb)) (Nat.lt_irrefl _)
structure Turn (P:Program) (w:World) (K:Frag) (tg:Expr) (J:It) (fp:List Addr) (it:Addr) (tn:Nat->Heap->Prop):Prop where
 mem:it∈fp
 obj:∀i h,tn i h->∀b∈fp,∃o,h.get? b=some o/\∀v,o.data≠.cell v
 keep:∀i h h',tn i h->(∀b∈fp,∀o,h.get? b=some o->h'.get? b=some o)->tn i h'
 item:∀(X:Cx),X.prog=P->X.w=w->X.K=K->X.calm=true->∀(i:Nat) (pins:List (Addr×Obj)) (s:Shared) (U:St) (H:Hp) (E:Value->Shared->Prop),Inv X pins U H s->(∀b∈fp,zbr X pins H b)->tn i s.heap->J.go i H ->
  wpAny (model P w) X.A (pyNext (.ref it)) (fun r s1=>∃u,r=some u /\
   wpAny (model P w) X.A (letOwnedTupleGo tg (.ref it) u) (fun _ s2=>∃x H',Inv X pins U H' s2/\RelV x u/\J.yld i H x H'/\tn (i+1) s2.heap/\∀b∈fp,H' b=none) E s1) E s
 done:∀(X:Cx),X.prog=P->X.w=w->X.K=K->X.calm=true->∀(i:Nat) (pins:List (Addr×Obj)) (s:Shared) (U:St) (H:Hp) (E:Value->Shared->Prop),Inv X pins U H s->(∀b∈fp,zbr X pins H b)->tn i s.heap->J.stop i H ->
  wpAny (model P w) X.A (pyNext (.ref it)) (fun r s1=>r=none/\Inv X pins U H s1) E s
 self:∀(A:Around) (i:Nat) (s:Shared) (Q:Value->Shared->Prop) (E:Value->Shared->Prop),tn i s.heap->Q (.ref it) s->wpAny (model P w) A (pyIter (.ref it)) Q E s
abbrev TI:=St->Hp->(It->Hp->Prop)->Prop
def PIE (X:Cx) (pins:List (Addr×Obj)) (U:St) (tg:Expr) (R:It->Hp->Prop) (itv:Value) (s2:Shared):Prop:=
 ∃(it:Addr) (fp:List Addr) (tn:Nat->Heap->Prop) (J:It) (H':Hp),itv=.ref it/\Inv X pins U H' s2/\Turn X.prog X.w X.K tg J fp it tn/\tn 0 s2.heap/\(∀b∈fp,zbr X pins H' b)/\R J H'
def PI (X:Cx) (tg iter:Expr) (wi:TI):Prop:=
 ∀(pins:List (Addr×Obj)) (s:Shared) (U:St) (H:Hp) (R:It->Hp->Prop),Inv X pins U H s->wi U H R ->
  wpAny (model X.prog X.w) X.A (eval iter X.env) (fun v s1=>wpAny (model X.prog X.w) X.A (pyIter v) (PIE X pins U tg R) X.xe s1) X.xe s
theorem zn3 {M:Model} {A:Around} {E:Value->Shared->Prop} {s:Shared} {tg:Expr} {it:Addr} {u:Value} {o:Obj} {n:String} {vs:Array Value} {Q:Unit->Shared->Prop} (ho:s.heap.get? it=some o) (hc:o.cls=.type n) (hd:o.data=.fields vs)
  (hn:["enumerate","zip","dict_itemiterator","dict_reverseitemiterator","odict_iterator","itertools.zip_longest","itertools.pairwise"].contains n=false) (hQ:Q () s):wpAny M A (letOwnedTupleGo tg (.ref it) u) Q E s:=by
 unfold letOwnedTupleGo
 cases tg<;>first
  | exact wpAny_pure hQ
  | (cases u<;>first
   | exact wpAny_pure hQ
   | (refine wpAny_bind (wpAny_load ho ?_)
      rw [hc,hd]
      show wpAny M A (if (["enumerate","zip","dict_itemiterator","dict_reverseitemiterator","odict_iterator","itertools.zip_longest","itertools.pairwise"].contains n&&vs[0]?==some (rawInt _))=true then _ else _) Q E s
      rw [if_neg (by intro h;rw [hn,Bool.false_and] at h;cases h)]
      exact wpAny_pure hQ))
noncomputable def Itl (K:Frag) (a:Addr):It:=
 ⟨fun i H=>∃xs x,SqL K H a xs/\xs[i]?=some x,fun i H x H'=>H'=H/\∀xs,SqL K H a xs->xs[i]?=some x,fun i H=>∃xs,SqL K H a xs/\xs.length<=i⟩
noncomputable def Itt (K:Frag) (a:Addr):It:=
 ⟨fun i H=>∃xs x,SqT K H a xs/\xs[i]?=some x,fun i H x H'=>H'=H/\∀xs,SqT K H a xs->xs[i]?=some x,fun i H=>∃xs,SqT K H a xs/\xs.length<=i⟩
noncomputable def Itr (lo:Int) (n:Nat):It:=⟨fun i _=>i<n,fun i H x H'=>H'=H/\x=.int (lo+i),fun i _=>n<=i⟩
theorem zfu {P:Program} {w:World} {K:Frag} {tg:Expr} (a it:Addr):Turn P w K tg (Itl K a) [it] it (fun i h=>h.IsListIter it a i) where
 mem:=by simp
 obj:=fun i h st b hb=>by
  have e:b=it:=by simpa using hb
  subst e
  obtain ⟨o,e,c,d⟩:=st
  exact ⟨o,e,fun v z=>by rw [d] at z;cases z⟩
 keep:=fun i h h' st k=>st.at fun o e=>k it (by simp) o e
 item:=by
  intro X hP hw hK hc i pins s U H E I hf st hg
  subst hP hw hK
  obtain ⟨xs,x,hq,hx⟩:=hg
  obtain ⟨its,rv,p,hz⟩:=I.list hq
  obtain ⟨u,hu,ru⟩:=rv.get hx
  obtain ⟨f0,f1,f2,f3,f4,f5⟩:=hf it (by simp)
  refine wpAny_pyNext_list_item st p.isList (x:=u) (by simpa using hu) fun h' st' sb=>?_
  have I1:Inv X pins U H { s with heap:=h' }:=I.turned (t':=s.toks) (fun b o hb e=>(sb.2 b hb).trans e) f0 f1 f3 f4 f5
  obtain ⟨o,e,c,d⟩:=id st'
  exact ⟨u,rfl,zn3 (s:={ s with heap:=h' }) e c d (by decide) ⟨x,H,I1,ru,⟨rfl,fun ys hy=>by rw [I.list_inj hy hq];exact hx⟩,st',fun b hb=>(hf b hb).1⟩⟩
 done:=by
  intro X hP hw hK hc i pins s U H E I hf st hg
  subst hP hw hK
  obtain ⟨xs,hq,hx⟩:=hg
  obtain ⟨its,rv,p,hz⟩:=I.list hq
  obtain ⟨f0,f1,f2,f3,f4,f5⟩:=hf it (by simp)
  have hl:=rv.length
  exact wpAny_pyNext_list_end (I.ok.hd hc) st p.isList (by simp;lia) fun h' eb=>⟨rfl,I.turned (t':=s.toks) (fun b o hb e=>eb b o hb e) f0 f1 f3 f4 f5⟩
 self:=fun _ _ _ _ _ st h=>wpAny_pyIter_listiter st h
theorem zem {P:Program} {w:World} {K:Frag} {tg:Expr} (a it:Addr):Turn P w K tg (Itt K a) [it] it (fun i h=>h.IsTupleIter it a i) where
 mem:=by simp
 obj:=fun i h st b hb=>by
  have e:b=it:=by simpa using hb
  subst e
  obtain ⟨o,e,c,d⟩:=st
  exact ⟨o,e,fun v z=>by rw [d] at z;cases z⟩
 keep:=fun i h h' st k=>st.at fun o e=>k it (by simp) o e
 item:=by
  intro X hP hw hK hc i pins s U H E I hf st hg
  subst hP hw hK
  obtain ⟨xs,x,hq,hx⟩:=hg
  obtain ⟨its,rv,p,hz⟩:=I.tuple hq
  obtain ⟨u,hu,ru⟩:=rv.get hx
  obtain ⟨f0,f1,f2,f3,f4,f5⟩:=hf it (by simp)
  refine wpAny_pyNext_tuple_item st (show s.heap.IsTuple a its.toArray from p) (x:=u) (by simpa using hu) fun h' st' sb=>?_
  have I1:Inv X pins U H { s with heap:=h' }:=I.turned (t':=s.toks) (fun b o hb e=>(sb.2 b hb).trans e) f0 f1 f3 f4 f5
  obtain ⟨o,e,c,d⟩:=id st'
  exact ⟨u,rfl,zn3 (s:={ s with heap:=h' }) e c d (by decide) ⟨x,H,I1,ru,⟨rfl,fun ys hy=>by rw [I.tuple_inj hy hq];exact hx⟩,st',fun b hb=>(hf b hb).1⟩⟩
 done:=by
  intro X hP hw hK hc i pins s U H E I hf st hg
  subst hP hw hK
  obtain ⟨xs,hq,hx⟩:=hg
  obtain ⟨its,rv,p,hz⟩:=I.tuple hq
  obtain ⟨f0,f1,f2,f3,f4,f5⟩:=hf it (by simp)
  have hl:=rv.length
  exact wpAny_pyNext_tuple_end (I.ok.hd hc) st (show s.heap.IsTuple a its.toArray from p) (by simp;lia) fun h' eb=>⟨rfl,I.turned (t':=s.toks) (fun b o hb e=>eb b o hb e) f0 f1 f3 f4 f5⟩
 self:=fun _ _ _ _ _ st h=>wpAny_pyIter_tupleiter st h
theorem zen {P:Program} {w:World} {K:Frag} {tg:Expr} (it:Addr) (lo:Int) (n:Nat):Turn P w K tg (Itr lo n) [it] it (fun i h=>IsRangeIter h it (lo+(i:Nat) * 1) ((n:Int) - (i:Nat)) 1) where
 mem:=by simp
 obj:=fun i h st b hb=>by
  have e:b=it:=by simpa using hb
  subst e
  exact ⟨_,st,fun v z=>by
   have z':Data.fields _=Data.cell v:=z
   cases z'⟩
 keep:=fun i h h' st k=>k it (by simp) _ st
 item:=by
  intro X hP hw hK hc i pins s U H E I hf st hg
  subst hP hw hK
  obtain ⟨f0,f1,f2,f3,f4,f5⟩:=hf it (by simp)
  have W:=Walks.range (prog:=X.prog) (w:=X.w) (I.ok.hd hc) it lo 1 n
  refine W.item i s _ _ hg st fun v h' tk hv st' kk=>?_
  obtain ⟨t,rfl⟩:=hv
  have I1:Inv X pins U H { s with heap:=h',toks:=tk }:=I.turned (fun b o hb e=>kk b o (by simpa using hb) e) f0 f1 f3 f4 f5
  refine ⟨_,rfl,zn3 (s:={ s with heap:=h',toks:=tk }) (n:="range_iterator") st' rfl rfl (by decide) ⟨.int (lo+i),H,I1,⟨t,?_⟩,⟨rfl,rfl⟩,st',fun b hb=>(hf b hb).1⟩⟩
  rw [Int.mul_one]
 done:=by
  intro X hP hw hK hc i pins s U H E I hf st hg
  subst hP hw hK
  obtain ⟨f0,f1,f2,f3,f4,f5⟩:=hf it (by simp)
  exact wpAny_pyNext_range_end (I.ok.hd hc) st (by have:n<=i:=hg;lia) fun h' eb=>⟨rfl,I.turned (t':=s.toks) (fun b o hb e=>eb b o hb e) f0 f1 f3 f4 f5⟩
 self:=fun _ _ _ _ _ st h=>wpAny_pyIter_rangeiter st h
section
variable {X:Cx} {tg:Expr}
theorem zdb {pins:List (Addr×Obj)} {U:St} {H:Hp} {s:Shared} {R:It->Hp->Prop} {E:Value->Shared->Prop} {lo hi:Int} {t u v:Tok} {tk:Nat} (I:Inv X pins U H s) (h1:-(2 ^ 62)<=lo) (h2:lo<2 ^ 62) (h3:-(2 ^ 62)<=hi) (h4:hi<2 ^ 62)
  (q:R (Itr lo (hi - lo).toNat) H):wpAny (model X.prog X.w) X.A (pyIter (.ref s.heap.objs.size)) (PIE X pins U tg R) E { s with heap:=s.heap.push { cls:=.type "range",data:=.fields #[.int lo t,.int hi u,.int 1 v] },toks:=tk }:=by
 refine wpAny_pyIter_range (IsRange.new ..) (small_one h1 h2 h3 h4) ?_
 have I1:Inv X pins U H { s with heap:=s.heap.push { cls:=.type "range",data:=.fields #[.int lo t,.int hi u,.int 1 v] },toks:=tk }:=I.kept fun b o e=>Heap.get?_push_of_some _ e
 refine ⟨(s.heap.push { cls:=.type "range",data:=.fields #[.int lo t,.int hi u,.int 1 v] }).objs.size,[(s.heap.push { cls:=.type "range",data:=.fields #[.int lo t,.int hi u,.int 1 v] }).objs.size],_,_,H,rfl,
  I1.kept (t':=tk) fun b o e=>Heap.get?_push_of_some _ e,zen _ lo (hi - lo).toNat,?_,fun b hb=>?_,q⟩
 . have e1:lo+((0:Nat):Int) * 1=lo:=by simp
   have e2:(((hi - lo).toNat:Nat):Int) - ((0:Nat):Int)=Builtin.Range.rangeSize lo hi 1:=by rw [rangeSize_one];split<;>lia
   show IsRangeIter _ _ (lo+((0:Nat):Int) * 1) ((((hi - lo).toNat:Nat):Int) - ((0:Nat):Int)) 1
   rw [e1,e2]
   exact Heap.get?_push_size _ rfl
 . have e:b=(s.heap.push { cls:=.type "range",data:=.fields #[.int lo t,.int hi u,.int 1 v] }).objs.size:=by simpa using hb
   subst e
   exact I1.fpOk (Nat.le_refl _) (I1.hok.fresh (Nat.le_refl _))
noncomputable def y10 (wi:TI) (g:TG) (tb:TS):TS:=fun D U H=>wi U H fun J H1=>∃W:Nat->Nat->St->Hp->Prop,(∃m,W 0 m U H1)/\∀i m U H,W i m U H ->
 (J.stop i H/\D.nx U H)\/(J.go i H/\∃N:St->Hp->Prop,(∀σ' H',N σ' H'->∃m',m'<m/\W (i+1) m' σ' H')/\∀x H',J.yld i H x H'->g x U H' fun σ2 H2=>tb { D with nx:=N,ct:=N,bk:=D.nx } σ2 H2)
noncomputable def zag (fp:List Addr) (h:Heap):List (Addr×Obj):=fp.filterMap fun b=>(h.get? b).map fun o=>(b,o)
theorem z48 {fp:List Addr} {h:Heap} {b:Addr} {o:Obj} (hb:b∈fp) (e:h.get? b=some o):(b,o)∈zag fp h:=List.mem_filterMap.mpr ⟨b,hb,by rw [e];rfl⟩
theorem zfv {fp:List Addr} {h:Heap} {p:Addr×Obj} (hp:p∈zag fp h):p.1∈fp/\h.get? p.1=some p.2:=by
 obtain ⟨b,hb,e⟩:=List.mem_filterMap.mp hp
 cases q:h.get? b with
 | none=>rw [q] at e;cases e
 | some o=>
  rw [q] at e
  have e':(b,o)=p:=Option.some.inj e
  subst e'
  exact ⟨hb,q⟩
theorem Inv.pinned {pins:List (Addr×Obj)} {U:St} {H:Hp} {s:Shared} {fp:List Addr} (I:Inv X pins U H s) (hf:∀b∈fp,zbr X pins H b) (ho:∀b∈fp,∃o,s.heap.get? b=some o/\∀v,o.data≠.cell v):Inv X (pins++zag fp s.heap) U H s:=
 I.pins_of fun p hp=>(List.mem_append.mp hp).elim (fun z=>I.pin p (List.mem_append_right _ z)) fun z=>by
  obtain ⟨hb,e⟩:=zfv z
  obtain ⟨f0,f1,f2,_⟩:=hf p.1 hb
  obtain ⟨o,e',d⟩:=ho p.1 hb
  rw [e] at e';cases e'
  exact ⟨e,f0,f1,f2,d⟩
theorem Inv.unpinned {pins pl:List (Addr×Obj)} {U:St} {H:Hp} {s:Shared} (I:Inv X (pins++pl) U H s):Inv X pins U H s:=I.pins_of fun p hp=>I.pin p (List.mem_append_right _ (List.mem_append_left _ hp))
theorem zr7 {iter:Expr} {body:List Stmt} {wi:TI} {g:TG} {tb:TS} {pos:Pos} (hp:PassesOwn (model X.prog X.w) X.A X.env X.xe) (hc:X.calm=true) (hi:PI X tg iter wi) (hg:PG X tg g) (hb:PSs X body tb)
  (hs:∀x,foldedSetIterable iter X.env x=pure x:=by intro _;rfl):PS X (.For tg iter body [] pos) (y10 wi g tb):=by
 intro pins s U H D I h
 refine wpAny_For (thn (hi pins s U H _ I h) fun v s1 h1=>thn h1 fun itv s2 h2=>?_) hs
 obtain ⟨it,fp,tn,J,H2,e,I2,T,st2,f2,W,⟨m0,w0⟩,turn⟩:=h2
 subst e
 have stat:∀{H':Hp},(∀b∈fp,H' b=none)->∀b∈fp,zbr X pins H' b:=fun hn b hb=>⟨hn b hb,(f2 b hb).2⟩
 refine codeAny_forLoop_any (fun n s'=>∃i σ' H',Inv X pins σ' H' s'/\tn i s'.heap/\(∀b∈fp,H' b=none)/\W i n σ' H') ?_ m0 ⟨0,U,H2,I2,st2,fun b hb=>(f2 b hb).1,w0⟩
 rintro n s3 ⟨i,σ3,H3,I3,st3,fr3,w3⟩
 rcases turn i n σ3 H3 w3 with ⟨stop,qn⟩ | ⟨go,N,hN,step⟩
 . refine wpAny_passesOwn hp (thn (T.done X rfl rfl rfl hc i pins s3 σ3 H3 X.xe I3 (stat fr3) st3 stop) fun r s4 ⟨hr,I4⟩=>?_)
   subst hr
   exact wpAny_execs_nil ⟨σ3,H3,I4,qn⟩
 . refine wpAny_passesOwn hp (thn (T.item X rfl rfl rfl hc i pins s3 σ3 H3 X.xe I3 (stat fr3) st3 go) fun r s4 ⟨u,hr,h4⟩=>?_)
   subst hr
   refine wpAny_passesOwn hp (thn h4 fun _ s5 ⟨x,H5,I5,r5,y5,st5,fr5⟩=>?_)
   have I5':=I5.pinned (stat fr5) (T.obj _ _ st5)
   refine wpAny_passesOwn hp (thn (hg _ s5 σ3 H5 x u _ I5' r5 (step x H5 y5)) fun _ s6 ⟨σ6,H6,I6,q6⟩=>?_)
   refine wpAny_passesOwn hp (thn (hb _ s6 σ6 H6 _ I6 q6) fun f s7 q7=>?_)
   have again:∀{σ7:St} {H7:Hp},Inv X (pins++zag fp s5.heap) σ7 H7 s7->N σ7 H7->∃m,m<n/\∃i σ' H',Inv X pins σ' H' s7/\tn i s7.heap/\(∀b∈fp,H' b=none)/\W i m σ' H':=fun {σ7 H7} I7 n7=>by
    obtain ⟨m',hm,w7⟩:=hN σ7 H7 n7
    refine ⟨m',hm,i+1,σ7,H7,I7.unpinned,T.keep _ _ _ st5 fun b hb o e=>(I7.pin (b,o) (List.mem_append_right _ (List.mem_append_right _ (z48 hb e)))).1,fun b hb=>?_,w7⟩
    obtain ⟨o,e,d⟩:=T.obj _ _ st5 b hb
    exact (I7.pin (b,o) (List.mem_append_right _ (List.mem_append_right _ (z48 hb e)))).2.1
   cases f with
   | next=>obtain ⟨σ7,H7,I7,n7⟩:=q7;exact again I7 n7
   | cont=>obtain ⟨σ7,H7,I7,n7⟩:=q7;exact again I7 n7
   | brk=>obtain ⟨σ7,H7,I7,q7⟩:=q7;exact ⟨σ7,H7,I7.unpinned,q7⟩
   | ret v=>obtain ⟨x7,σ7,H7,I7,r7,q7⟩:=q7;exact ⟨x7,σ7,H7,I7.unpinned,r7,q7⟩
end
abbrev R2:=V->V->Hp->VK->Prop
def OpR (X:Cx) (f:Value->Value->Sem Value) (r:R2):Prop:=
 ∀(pins:List (Addr×Obj)) (s:Shared) (U:St) (H:Hp) (x y:V) (v u:Value) (Q:VK),Inv X pins U H s->RelV x v->RelV y u->r x y H Q ->
  wpAny (model X.prog X.w) X.A (f v u) (EP X pins U Q) X.xe s
def UnR (X:Cx) (f:Value->Sem Value) (r:V->Hp->VK->Prop):Prop:=
 ∀(pins:List (Addr×Obj)) (s:Shared) (U:St) (H:Hp) (x:V) (v:Value) (Q:VK),Inv X pins U H s->RelV x v->r x H Q ->
  wpAny (model X.prog X.w) X.A (f v) (EP X pins U Q) X.xe s
def CallR (X:Cx) (f:Value) (r:List V->Hp->VK->Prop):Prop:=
 ∀(pins:List (Addr×Obj)) (s:Shared) (U:St) (H:Hp) (xs:List V) (us:List Value) (Q:VK),Inv X pins U H s->Vals xs us->r xs H Q ->
  wpAny (model X.prog X.w) X.A (call f us) (EP X pins U Q) X.xe s
def y11 (X:Cx) (r:V->Hp->(Bool->Hp->Prop)->Prop):Prop:=
 ∀(pins:List (Addr×Obj)) (s:Shared) (U:St) (H:Hp) (x:V) (v:Value) (Q:Bool->Hp->Prop),Inv X pins U H s->RelV x v->r x H Q ->
  wpAny (model X.prog X.w) X.A (truthy v) (TP X pins U Q) X.xe s
noncomputable def tOp (r:R2) (ta tb:TE):TE:=fun U H Q=>ta U H fun x H1=>tb U H1 fun y H2=>r x y H2 Q
noncomputable def tUn (r:V->Hp->VK->Prop) (ta:TE):TE:=fun U H Q=>ta U H fun x H1=>r x H1 Q
noncomputable def rI (C:Int->Int->Prop) (g:Int->Int->V):R2:=fun x y H Q=>∃i j,x=.int i/\y=.int j/\C i j/\Q (g i j) H
noncomputable def rI0 (g:Int->Int->V):R2:=fun x y H Q=>∃i j,x=.int i/\y=.int j/\Q (g i j) H
def rU (g:Int->V):V->Hp->VK->Prop:=fun x H Q=>∃i,x=.int i/\Q (g i) H
section
variable {X:Cx} {a b:Expr} {ta tb:TE} {pos:Pos}
theorem zx5 (ha:PE X a ta) (hb:PE X b tb) {pins:List (Addr×Obj)} {s:Shared} {U:St} {H:Hp} {R:V->V->Hp->Prop} (I:Inv X pins U H s)
  (h:ta U H fun x H1=>tb U H1 fun y H2=>R x y H2) {Q:Value->Shared->Prop} {f:Value->Value->Sem Value}
  (hf:∀v u s2 x y H2,Inv X pins U H2 s2->RelV x v->RelV y u->R x y H2->wpAny (model X.prog X.w) X.A (f v u) Q X.xe s2) :
  wpAny (model X.prog X.w) X.A (eval a X.env) (fun v s₁=>wpAny (model X.prog X.w) X.A (eval b X.env) (fun u s₂=>wpAny (model X.prog X.w) X.A (f v u) Q X.xe s₂) X.xe s₁) X.xe s:=by
 refine thn (ha pins s U H _ I h) fun v s1 ⟨x,H1,I1,r1,q1⟩=>?_
 refine thn (hb pins s1 U H1 _ I1 q1) fun u s2 ⟨y,H2,I2,r2,q2⟩=>?_
 exact hf v u s2 x y H2 I2 r1 r2 q2
theorem zx6 {op:Operator} {r:R2} (ho:OpR X (binaryOp op) r) (ha:PE X a ta) (hb:PE X b tb):PE X (.BinOp a op b pos) (tOp r ta tb):=by
 intro pins s U H Q I h
 exact wpAny_BinOp (zx5 ha hb I h fun v u s2 x y H2 I2 rx ry q=>ho pins s2 U H2 x y v u Q I2 rx ry q)
theorem zx7 {op:UnaryOp} {r:V->Hp->VK->Prop} (ho:UnR X (unaryOp op) r) (ha:PE X a ta):PE X (.UnaryOp op a pos) (tUn r ta):=by
 intro pins s U H Q I h
 exact UnaryOp_ (thn (ha pins s U H _ I h) fun v s1 ⟨x,H1,I1,r1,q1⟩=>ho pins s1 U H1 x v Q I1 r1 q1)
theorem opI {f:Value->Value->Sem Value} {C:Int->Int->Prop} {g:Int->Int->Int}
  (rule:∀(i j:Int) (t u:Tok) (s:Shared) (Q:Value->Shared->Prop) (E:Value->Shared->Prop),C i j->Q (.int (g i j) s.toks) { s with toks:=s.toks+1 }->wpAny (model X.prog X.w) X.A (f (.int i t) (.int j u)) Q E s) :
  OpR X f (rI C fun i j=>.int (g i j)):=by
 intro pins s U H x y v u Q I rx ry h
 obtain ⟨i,j,rfl,rfl,hc,q⟩:=h
 obtain ⟨t,rfl⟩:=rx
 obtain ⟨t',rfl⟩:=ry
 exact rule i j t t' s _ _ hc ⟨.int (g i j),H,I.tok _,⟨_,rfl⟩,q⟩
theorem y02 {f:Value->Value->Sem Value} {g:Int->Int->Int}
  (rule:∀(i j:Int) (t u:Tok) (s:Shared) (Q:Value->Shared->Prop) (E:Value->Shared->Prop),Q (.int (g i j) s.toks) { s with toks:=s.toks+1 }->wpAny (model X.prog X.w) X.A (f (.int i t) (.int j u)) Q E s) :
  OpR X f (rI0 fun i j=>.int (g i j)):=by
 intro pins s U H x y v u Q I rx ry h
 obtain ⟨i,j,rfl,rfl,q⟩:=h
 obtain ⟨t,rfl⟩:=rx
 obtain ⟨t',rfl⟩:=ry
 exact rule i j t t' s _ _ ⟨.int (g i j),H,I.tok _,⟨_,rfl⟩,q⟩
theorem zwi {f:Value->Value->Sem Value} {g:Int->Int->Bool}
  (rule:∀(i j:Int) (t u:Tok) (s:Shared) (Q:Value->Shared->Prop) (E:Value->Shared->Prop),Q (.bool (g i j)) s->wpAny (model X.prog X.w) X.A (f (.int i t) (.int j u)) Q E s) :
  OpR X f (rI0 fun i j=>.bl (g i j)):=by
 intro pins s U H x y v u Q I rx ry h
 obtain ⟨i,j,rfl,rfl,q⟩:=h
 obtain ⟨t,rfl⟩:=rx
 obtain ⟨t',rfl⟩:=ry
 exact rule i j t t' s _ _ ⟨.bl (g i j),H,I,rfl,q⟩
def zn4 (i j:Int):Prop:=0<j/\j<1073741824
def zn5 (i j:Int):Prop:=0<=j/\j<=1000000/\i.natAbs<2 ^ 64
def CMul (i j:Int):Prop:=(-(2 ^ 64)<i/\i<2 ^ 64)\/(-(2 ^ 64)<j/\j<2 ^ 64)
theorem CMul.ok {i j:Int} (h:CMul i j):IntMulOk i j:=by
 rcases h with ⟨h1,h2⟩ | ⟨h1,h2⟩
 . exact .of_left (intBits_le_64 h1 h2)
 . exact .of_right (intBits_le_64 h1 h2)
theorem op_add:OpR X (binaryOp .Add) (rI0 fun i j=>.int (i+j)):=y02 fun _ _ _ _ _ _ _ q=>add_int q
theorem op_sub:OpR X (binaryOp .Sub) (rI0 fun i j=>.int (i - j)):=y02 fun _ _ _ _ _ _ _ q=>sub_int q
theorem op_mul:OpR X (binaryOp .Mult) (rI CMul fun i j=>.int (i * j)):=opI fun _ _ _ _ _ _ _ hc q=>mul_int q hc.ok
theorem op_fdiv:OpR X (binaryOp .FloorDiv) (rI zn4 fun i j=>.int (i / j)):=opI fun i j _ _ _ _ _ hc q=>by
 have h1:(0:Int)<j:=hc.1
 have h2:j<1073741824:=hc.2
 exact floordiv_int (by omega) (by rw [Int.fdiv_eq_ediv_of_nonneg i (by omega)];exact q) (.inl (PyProof.noPylong_small (by omega)))
theorem op_mod:OpR X (binaryOp .Mod) (rI (fun _ j=>0<j) fun i j=>.int (i % j)):=opI fun i j _ _ _ _ _ hc q=>by
 have h1:(0:Int)<j:=hc
 exact mod_int' (by lia) (by rw [Int.fmod_eq_emod_of_nonneg i (by lia)];exact q)
theorem op_pow:OpR X (binaryOp .Pow) (rI zn5 fun i j=>.int (i ^ j.toNat)):=opI fun _ _ _ _ _ _ _ hc q=>pow_int_small hc.1 hc.2.1 hc.2.2 q
theorem unI {f:Value->Sem Value} {g:Int->Int}
  (rule:∀(i:Int) (t:Tok) (s:Shared) (Q:Value->Shared->Prop) (E:Value->Shared->Prop),Q (.int (g i) s.toks) { s with toks:=s.toks+1 }->wpAny (model X.prog X.w) X.A (f (.int i t)) Q E s) :
  UnR X f (rU fun i=>.int (g i)):=by
 intro pins s U H x v Q I rx h
 obtain ⟨i,rfl,q⟩:=h
 obtain ⟨t,rfl⟩:=rx
 exact rule i t s _ _ ⟨.int (g i),H,I.tok _,⟨_,rfl⟩,q⟩
theorem un_neg:UnR X (unaryOp .USub) (rU fun i=>.int (-i)):=unI fun _ _ _ _ _ q=>neg_int q
end
section
variable {X:Cx} {a b:Expr} {ta tb:TE} {pos:Pos}
theorem op_lt:OpR X (compareOp .Lt) (rI0 fun i j=>.bl (decide (i<j))):=zwi fun _ _ _ _ _ _ _ q=>lt_int q
theorem op_le:OpR X (compareOp .LtE) (rI0 fun i j=>.bl (decide (i<=j))):=zwi fun _ _ _ _ _ _ _ q=>le_int q
theorem op_gt:OpR X (compareOp .Gt) (rI0 fun i j=>.bl (decide (j<i))):=zwi fun _ _ _ _ _ _ _ q=>gt_int q
theorem op_ge:OpR X (compareOp .GtE) (rI0 fun i j=>.bl (decide (j<=i))):=zwi fun _ _ _ _ _ _ _ q=>ge_int q
theorem OpR.or {f:Value->Value->Sem Value} {r r':R2} (h:OpR X f r) (h':OpR X f r'):OpR X f (fun x y H Q=>r x y H Q\/r' x y H Q):=by
 intro pins s U H x y v u Q I rx ry q
 rcases q with q | q
 . exact h pins s U H x y v u Q I rx ry q
 . exact h' pins s U H x y v u Q I rx ry q
theorem z0j (b:Expr) {op:CmpOp} (h:op≠.In:=by decide) (h2:op≠.NotIn:=by decide):behindInMarks op b=false:=by
 have e1:(op==CmpOp.In)=false:=by cases op<;>first | rfl | exact absurd rfl h
 have e2:(op==CmpOp.NotIn)=false:=by cases op<;>first | rfl | exact absurd rfl h2
 cases b<;>simp [behindInMarks,e1,e2]
theorem zn6 {op:CmpOp} {r:R2} (ho:OpR X (compareOp op) r) (ha:PE X a ta) (hb:PE X b tb) (hm:behindInMarks op b=false):PE X (.Compare a [op] [b] pos) (tOp r ta tb):=by
 intro pins s U H Q I h
 exact wpAny_Compare1 (zx5 ha hb I h fun v u s2 x y H2 I2 rx ry q=>ho pins s2 U H2 x y v u Q I2 rx ry q) hm
def y03 (K:Frag) (x:V) (H:Hp) (k:Bool):Prop:=
 match x with
 | .non=>k=false
 | .bl b=>k=b
 | .int i=>k=(i != 0)
 | .str y=>y.length<=sizeLine/\k=((y.length:Int) != 0)
 | .byt y=>y.size<=sizeLine/\k=((y.size:Int) != 0)
 | .ref p=>(∃xs,SqL K H p xs/\k=!xs.isEmpty)\/(∃xs,SqT K H p xs/\k=!xs.isEmpty)\/∃kvs,H p=some (.dK kvs)/\k=!kvs.isEmpty
 | _=>False
theorem zeo {κ:Type} {kvs:List (κ×V)} {vs:List (κ×Value)} (r:KV kvs vs):(!vs.isEmpty)=!kvs.isEmpty:=by
 cases r<;>rfl
theorem z8d {xs:List V} {its:List Value} (r:Vals xs its):(!its.toArray.isEmpty)=!xs.isEmpty:=by
 cases r<;>simp
theorem z8e:(sizeLine:Nat)<2 ^ 63:=by rw [sizeLine_eq];decide
theorem zl9:y11 X (fun x H Q=>∃k,y03 X.K x H k/\Q k H):=by
 intro pins s U H x v Q I rx h
 obtain ⟨k,e,q⟩:=h
 have hl:=z8e
 have hs:sizeLine=16777216:=sizeLine_eq
 cases x with
 | non=>
  cases rx
  have e':k=false:=e
  subst e'
  exact truthy_none ⟨H,I,q⟩
 | bl b=>
  cases rx
  have e':k=b:=e
  subst e'
  exact wpAny_truthy_bool ⟨H,I,q⟩
 | int i=>
  obtain ⟨t,rfl⟩:=rx
  have e':k=(i != 0):=e
  subst e'
  exact PySem.P.truthy_int ⟨H,I,q⟩
 | str y=>
  obtain ⟨t,rfl⟩:=rx
  obtain ⟨hy,e'⟩:y.length<=sizeLine/\k=((y.length:Int) != 0):=e
  subst e'
  exact PySem.P.truthy_str (by lia) ⟨H,I.tok _,q⟩
 | byt y=>
  obtain ⟨t,rfl⟩:=rx
  obtain ⟨hy,e'⟩:y.size<=sizeLine/\k=((y.size:Int) != 0):=e
  subst e'
  exact PySem.W.truthy_bytes (by lia) ⟨H,I.tok _,q⟩
 | ref p=>
  cases rx
  have e':(∃xs,SqL X.K H p xs/\k=!xs.isEmpty)\/(∃xs,SqT X.K H p xs/\k=!xs.isEmpty)\/∃kvs,H p=some (.dK kvs)/\k=!kvs.isEmpty:=e
  rcases e' with ⟨xs,hx,e'⟩ | ⟨xs,hx,e'⟩ | ⟨kvs,hx,e'⟩
  . subst e'
    obtain ⟨its,r,pl,hz⟩:=I.list hx
    have hlen:=r.length
    exact wpAny_truthy_list pl.isList (by simp only [List.size_toArray];lia) ⟨H,I.tok _,by rw [z8d r];exact q⟩
  . subst e'
    obtain ⟨its,r,pl,hz⟩:=I.tuple hx
    have hlen:=r.length
    exact truthy_tuple pl (by simp only [List.size_toArray];lia) ⟨H,I.tok _,by rw [z8d r];exact q⟩
  . subst e'
    obtain ⟨hz,hS,vs,r,m⟩:kvs.length<=sizeLine/\(p==sysModules)=false/\∃vs,KV kvs vs/\s.heap.DictOf (z2h X.prog X.w) p vs:=I.hok p _ hx
    have hlen:kvs.length=vs.length:=Paired.length r
    exact wpAny_truthy_dict hS m (by lia) ⟨H,I.tok _,by rw [zeo r];exact q⟩
 | _=>exact (show False from e).elim
theorem z4o {x:V} {us:List Value} (r:Vals [x] us):∃u,us=[u]/\RelV x u:=by
 cases r with
 | cons r1 r2=>cases r2;exact ⟨_,rfl,r1⟩
theorem zn7 {x y:V} {us:List Value} (r:Vals [x,y] us):∃u w',us=[u,w']/\RelV x u/\RelV y w':=by
 cases r with
 | cons r1 r2=>
  cases r2 with
  | cons r3 r4=>cases r4;exact ⟨_,_,rfl,r1,r3⟩
theorem call_int1:CallR X (.type "int") (fun xs H Q=>(∃i,xs=[.int i]/\Q (.int i) H)\/∃k,xs=[.bl k]/\Q (.int (if k then 1 else 0)) H):=by
 intro pins s U H xs us Q I r h
 rcases h with ⟨i,rfl,q⟩ | ⟨k,rfl,q⟩
 . obtain ⟨u,rfl,t,rfl⟩:=z4o r
   exact call_int_int ⟨.int i,H,I,⟨_,rfl⟩,q⟩
 . obtain ⟨u,rfl,r1⟩:=z4o r
   cases r1
   exact call_int_bool ⟨.int (if k then 1 else 0),H,I.tok _,⟨_,rfl⟩,q⟩
end
structure ObjM (h:Heap) (x dx C:Addr) (mA:Str->Option Value):Prop where
 obj:h.get? x=some (PySem.W.instObj C dx)
 ns:h.Ns1 dx mA
 ne:dx≠x
theorem zfw {h:Heap} {dx:Addr} {mA:Str->Option Value} (n:h.Ns1 dx mA):∃od,h.get? dx=some od/\∀name,PySem.W.lookIn name od=some (mA name):=by
 obtain ⟨o,es,ep,ho,hd,hk,_,hm⟩:=n
 refine ⟨o,ho,fun name=>?_⟩
 have e:=hm name
 unfold nsFind findBy at e
 rw [<-Array.find?_toList] at e
 unfold PySem.W.lookIn
 rw [hd]
 dsimp only
 split
 . rename_i y q
   rw [q] at e
   exact congrArg some e
 . rename_i q
   rw [q] at e
   have a:es.toList.any (·.refKey)=false:=by
    rw [List.any_eq_false]
    intro y hy
    obtain ⟨z,t,hkey⟩:=hk y (Array.mem_toList_iff.mp hy)
    simp [DictEntry.refKey,hkey]
   have a':¬es.toList.any (·.refKey)=true:=by rw [a];exact Bool.false_ne_true
   rw [if_neg a']
   exact congrArg some e
theorem ObjM.look {h:Heap} {x dx C:Addr} {mA:Str->Option Value} (I:ObjM h x dx C mA):∃od,PySem.W.InstAt h x (PySem.W.instObj C dx) C (some od)/\∀name,PySem.W.lookIn name od=some (mA name):=
 let ⟨od,ho,hl⟩:=zfw I.ns
 ⟨od,⟨I.obj,rfl,rfl,ho⟩,hl⟩
theorem RelO.some_of {v:V} {o:Option Value} (r:RelO (some v) o):∃u,o=some u/\RelV v u:=by
 cases o with
 | none=>exact (show False from r).elim
 | some u=>exact ⟨u,rfl,r⟩
section
variable {P:Program} {w:World} {H:Hp} {h:Heap} {a C dx:Addr} {fs:List (Str×V)}
theorem zn8 (hok:HOk P w H h) (e:H a=some (.ins C dx fs)):∃mA,ObjM h a dx C mA/\(∀f,RelO (fs.lookup f) (mA f))/\PySem.Within mA (fs.map (·.1))/\fs.length<=1000/\H dx=some (.own a):=by
 obtain ⟨d,z,ne,ob,mA,n,r,q⟩:=(show ObjOk P w H h a (.ins C dx fs) from hok a _ e)
 exact ⟨mA,⟨ob,n,ne⟩,r,q,z,d⟩
end
structure Cls (K:Frag) (C:Addr):Prop where
 pg:PySem.W.plainGet K C Str.empty=true
 hd:PySem.W.hasDictIn K C=true
 po:PySem.W.plainOver K C=true
 sa:PySem.W.findIn K (.ref C) "__setattr__"=some (some (.builtin "object.__setattr__"))
theorem Cls.get {K:Frag} {C:Addr} (c:Cls K C) (f:Str):PySem.W.plainGet K C f=true:=c.pg
section
variable {X:Cx} {pins:List (Addr×Obj)} {U:St} {H:Hp} {s:Shared} {A:Around} {E:Value->Shared->Prop} {Q:Value->Shared->Prop} {c:Value} {b:Bool}
inductive TyOf (K:Frag) (H:Hp):V->Value->Prop where
 | non:TyOf K H .non (.type "NoneType")
 | bl (x:Bool):TyOf K H (.bl x) (.type "bool")
 | int (i:Int):TyOf K H (.int i) (.type "int")
 | str (x:Str):TyOf K H (.str x) (.type "str")
 | flt (x:UInt64):TyOf K H (.flt x) (.type "float")
 | lst {a:Addr} {xs:List V} (e:H a=some (.lst xs)):TyOf K H (.ref a) (.type "list")
 | frz {a:Addr} {o:Obj} {xs:List V} (e:H a=some (.frz o (.lst xs))):TyOf K H (.ref a) (.type "list")
 | tup {a:Addr} {xs:List V} (e:H a=some (.tup xs)):TyOf K H (.ref a) (.type "tuple")
 | dK {a:Addr} {kvs:List (Key×V)} (e:H a=some (.dK kvs)):TyOf K H (.ref a) (.type "dict")
 | dT {a:Addr} {kvs:List (List Key×V)} (e:H a=some (.dT kvs)):TyOf K H (.ref a) (.type "dict")
 | ins {a C dx:Addr} {fs:List (Str×V)} (e:H a=some (.ins C dx fs)) (cl:Cls K C) (ha:PySem.W.findIn K (.ref C) "__class__"=some (some (.builtin "object.__class__")))
  (hn:PySem.W.specialIn K (.builtin "object.__class__") "__get__"=some (some (.builtin "getset_descriptor.__get__"))) (htk:PySem.W.takesIn K (.builtin "object.__class__")=some true)
  (hm:mroIn K C (.type "object")=some true):TyOf K H (.ref a) (.ref C)
theorem z1q {x:V} {u t:Value} (I:Inv X pins U H s) (rx:RelV x u) (ty:TyOf X.K H x t) (e:kitOne X.K t c=some b) (h:∀tk,Q (.bool b) { s with toks:=tk }) :
  wpAny (model X.prog X.w) A (call (.builtin "isinstance") [u,c]) Q E s:=by
 cases ty with
 | non=>cases (show u=Value.none from rx);exact kia_one PySem.W.kitx_none I.kIn True.intro e (fun z=>nomatch z) h
 | bl y=>cases (show u=Value.bool y from rx);exact kia_one PySem.W.kitx_bool I.kIn True.intro e (fun z=>nomatch z) h
 | int i=>obtain ⟨t,q⟩:=(show ∃t,u=Value.int i t from rx);cases q;exact kia_one PySem.W.kitx_int I.kIn True.intro e (fun z=>nomatch z) h
 | str y=>obtain ⟨t,q⟩:=(show ∃t,u=Value.str y t from rx);cases q;exact kia_one PySem.W.kitx_str I.kIn True.intro e (fun z=>nomatch z) h
 | flt y=>obtain ⟨t,q⟩:=(show ∃t,u=Value.float y t from rx);cases q;exact kia_one PySem.W.kitx_float I.kIn True.intro e (fun z=>nomatch z) h
 | @lst a xs ea=>
  cases (show u=Value.ref a from rx)
  obtain ⟨_,_,n,_,h1⟩:=(show ObjOk X.prog X.w H s.heap a (.lst xs) from I.hok a _ ea)
  exact kia_one PySem.W.kitx_list I.kIn ⟨_,h1,rfl⟩ e (fun z=>nomatch z) h
 | @frz a ob xs ea=>
  cases (show u=Value.ref a from rx)
  obtain ⟨_,_,_,n,_,h1⟩:=(show ObjOk X.prog X.w H s.heap a (.frz ob (.lst xs)) from I.hok a _ ea)
  exact kia_one PySem.W.kitx_list I.kIn ⟨_,h1,rfl⟩ e (fun z=>nomatch z) h
 | @tup a xs ea=>
  cases (show u=Value.ref a from rx)
  obtain ⟨_,_,_,p⟩:=(show ObjOk X.prog X.w H s.heap a (.tup xs) from I.hok a _ ea)
  obtain ⟨o,h1,h2,_⟩:=p
  exact kia_one PySem.W.kitx_tuple I.kIn ⟨o,h1,h2⟩ e (fun z=>nomatch z) h
 | @dK a kvs ea=>
  cases (show u=Value.ref a from rx)
  obtain ⟨_,_,vs,_,p⟩:=(show ObjOk X.prog X.w H s.heap a (.dK kvs) from I.hok a _ ea)
  obtain ⟨o,es,ep,h1,h2,_⟩:=p
  exact kia_one PySem.W.kitx_dict I.kIn ⟨o,h1,h2.1⟩ e (fun z=>nomatch z) h
 | @dT a kvs ea=>
  cases (show u=Value.ref a from rx)
  obtain ⟨_,_,xs,_,o,es,ep,h1,h2,_⟩:=(show ObjOk X.prog X.w H s.heap a (.dT kvs) from I.hok a _ ea)
  exact kia_one PySem.W.kitx_dict I.kIn ⟨o,h1,h2.1⟩ e (fun z=>nomatch z) h
 | @ins a C dx fs ea cl ha hn htk hm=>
  cases (show u=Value.ref a from rx)
  obtain ⟨mA,O,_⟩:=zn8 I.hok ea
  obtain ⟨od,J,_⟩:=O.look
  exact kia_one (PySem.W.kitx_own (cl.get _) cl.hd ha hn htk hm) I.kIn J e (fun z=>nomatch z) h
end
structure Room (k:Nat) (A:Around):Prop where
 hd:A.handled=none
 dp:A.depth+3 * k+5<recursionLimit
 un:A.units+16 * k+200<cLine
theorem Room.mono {j k:Nat} {A:Around} (r:Room k A) (h:j<=k):Room j A:=⟨r.hd,by have:=r.dp;lia,by have:=r.un;lia⟩
theorem Room.deeper {k:Nat} {A:Around} (r:Room (k+1) A) (env:Env):Room k (A.deeper env):=
 ⟨r.hd,by have:=r.dp;show A.depth+1+3 * k+5<_;lia,by have:=r.un;show A.units+3+16 * k+200<_;lia⟩
theorem Room.depth {k:Nat} {A:Around} (r:Room k A):A.depth<recursionLimit:=by have:=r.dp;omega
theorem Room.units {k:Nat} {A:Around} (r:Room k A):A.units+64<cLine:=by have:=r.un;lia
noncomputable def zfx:TA:=fun _ H Q=>Q [] H
noncomputable def z4p (ta:TE) (tr:TA):TA:=fun U H Q=>ta U H fun x H1=>tr U H1 fun xs H2=>Q (x::xs) H2
section
variable {X:Cx} {e:Expr} {es:List Expr} {te:TE} {t:TA} {pos:Pos}
theorem pa_nil:PA X [] zfx:=fun _ _ _ _ H Q I h=>Calls.spliced_nil ⟨[],H,I,.nil,h⟩
theorem z2w (ha:PE X e te) (hr:PA X es t) (hs:starEach (e::es) X.env=(false,eval e X.env)::starEach es X.env:=by rfl):PA X (e::es) (z4p te t):=by
 intro pos pins s U H Q I h
 rw [hs]
 show wpAny _ _ (spliced ((false,eval e X.env)::backTo pos (starEach es X.env))) _ _ s
 refine Calls.spliced_cons (thn (ha pins s U H _ I h) fun u s1 ⟨x,H1,I1,r1,q1⟩=>?_)
 exact thn (hr pos pins s1 U H1 _ I1 q1) fun us s2 ⟨xs,H2,I2,r2,q2⟩=>⟨x::xs,H2,I2,.cons r1 r2,q2⟩
noncomputable def zx8 (t:TA):TE:=fun U H Q=>t U H fun xs H1=>xs.length<=sizeLine/\∀p,H1 p=none->Q (.ref p) (upd H1 p (.tup xs))
noncomputable def y04 (t:TA):TE:=fun U H Q=>t U H fun xs H1=>xs.length<=sizeLine/\∀p,H1 p=none->Q (.ref p) (upd H1 p (.lst xs))
theorem zla {x1} (h:PA X es t):PE X (.Tuple es x1 pos) (zx8 t):=by
 intro pins s U H Q I hq
 refine wpAny_Tuple_spliced (thn (h pos pins s U H _ I hq) fun us s1 ⟨xs,H1,I1,r,z,q⟩=>⟨by rw [<-r.length];exact z,?_⟩)
 have hf:H1 s1.heap.objs.size=none:=I1.hok.fresh (Nat.le_refl _)
 refine ⟨.ref s1.heap.objs.size,upd H1 s1.heap.objs.size (.tup xs),I1.laid (t':=s1.toks) (fun b u e=>Heap.get?_push_of_some _ e) (Nat.le_refl _) ?_,rfl,q _ hf⟩
 exact ⟨z,us,r,.mk' (Heap.get?_push_size _ rfl)⟩
theorem zr8 (h:PA X es t):PE X (.List es pos) (y04 t):=by
 intro pins s U H Q I hq
 refine wpAny_List_spliced (thn (h pos pins s U H _ I hq) fun us s1 ⟨xs,H1,I1,r,z,q⟩=>⟨by rw [<-r.length];exact z,?_⟩)
 have hf:H1 s1.heap.objs.size=none:=I1.hok.fresh (Nat.le_refl _)
 refine ⟨.ref s1.heap.objs.size,upd H1 s1.heap.objs.size (.lst xs),I1.laid (t':=s1.toks) (fun b u e=>Heap.get?_push_of_some _ e) (Nat.le_refl _) ?_,rfl,q _ hf⟩
 exact ⟨z,us,0,r,Heap.get?_push_size _ rfl⟩
end
abbrev Sp:=List V->Hp->VK->XK->Prop
abbrev CXT:=List Env->Hp->Shared->XK->Value->Shared->Prop
structure Env0 (P:Program) (w:World) (K:Frag) (mg:Str->Option Value) (base:Heap) (A:Around) (outer:List Env) (s:Shared) (H:Hp):Prop where
 frames:A.frames=some outer
 mod:Mod K mg base
 bs:∀b o,base.get? b=some o->s.heap.get? b=some o/\H b=none
 bsz:base.objs.size<=s.heap.objs.size
 funs:s.heap.FunFrames base outer
 frf:∀b∈frs outer,H b=none
 hok:HOk P w H s.heap
 bare:AllBare s.gens
def CE (outer:List Env) (P:Program) (w:World) (H:Hp) (s:Shared) (Q:VK) (u:Value) (s':Shared):Prop:=
 ∃v H',s'.os=s.os/\AllBare s'.gens/\Un (frs outer) [] H H' s.heap s'.heap/\HOk P w H' s'.heap/\RelV v u/\Q v H'
def CR (CX:CXT) (outer:List Env) (P:Program) (w:World) (H:Hp) (s:Shared) (Q:VK) (E:XK) (r:Result) (s':Shared):Prop:=
 match r with
 | .ok (.ret u)=>CE outer P w H s Q u s'
 | .ok _=>False
 | .error e=>CX outer H s E e s'
structure FnOk (P:Program) (w:World) (K:Frag) (mg:Str->Option Value) (base:Heap) (CX:CXT) (k:Nat) (f:Addr) (fd:FuncData) (ps:List Str) (sp:Sp):Prop where
 len:∀vs H Q E,sp vs H Q E->vs.length=ps.length
 run:∀(A:Around) (outer:List Env) (s:Shared) (H:Hp) (args:Args) (us:List Value) (vs:List V) (Q:VK) (E:XK),Room k A->Env0 P w K mg base A outer s H->BindsTo s fd args (ps.zip us)->Vals vs us->sp vs H Q E ->
  codeAny (model P w) A (.call (.ref f) args) (CR CX outer P w H s Q E) s
theorem FnOk.imp {P:Program} {w:World} {K:Frag} {mg:Str->Option Value} {base:Heap} {CX:CXT} {k:Nat} {f:Addr} {fd:FuncData} {ps:List Str} {sp sp':Sp} (F:FnOk P w K mg base CX k f fd ps sp)
  (h:∀vs H Q E,sp' vs H Q E->sp vs H Q E):FnOk P w K mg base CX k f fd ps sp':=
 ⟨fun vs H Q E q=>F.len vs H Q E (h _ _ _ _ q),fun A outer s H args us vs Q E hr he hb hv hs=>F.run A outer s H args us vs Q E hr he hb hv (h _ _ _ _ hs)⟩
section
variable {X:Cx} {pins:List (Addr×Obj)} {U:St} {H:Hp} {s s':Shared}
theorem Inv.env0 (I:Inv X pins U H s):Env0 X.prog X.w X.K X.mg X.base X.A X.stack s H:=
 ⟨I.ok.frames,I.ok.mod,I.bs,Nat.le_trans I.ok.bsz I.sz,I.stack,I.stkFree,I.hok,I.bare⟩
theorem Inv.after {Q:VK} {u:Value} (I:Inv X pins U H s) (h:CE X.stack X.prog X.w H s Q u s'):EP X pins U Q u s':=by
 obtain ⟨v,H',os,bare,un,hok,r,q⟩:=h
 obtain ⟨hh,g,d,t,os'⟩:=s'
 obtain rfl:os'=s.os:=os
 exact ⟨v,H',I.call (h':=hh) (g':=g) (d':=d) (t':=t) (ch:=[]) un hok bare (fun b z=>absurd z (by simp)),r,q⟩
end
noncomputable def zr9 (sp:Sp) (dvs:List V) (E:XK) (t:TA):TE:=fun U H Q=>t U H fun vs H1=>sp (vs++dvs) H1 Q E
def Binds (K:Frag) (fd:FuncData) (ps:List Str) (ds:List Value):Prop:=
 ∀(s:Shared) (us:List Value),K.In s.heap->(us++ds).length=ps.length->BindsTo s fd ⟨us,[]⟩ (ps.zip (us++ds))
theorem Binds.all {K:Frag} {fd:FuncData} {ps:List Str} (h:∀us:List Value,us.length=ps.length->bindArgs fd ⟨us,[]⟩=pure (ps.zip us)):Binds K fd ps []:=fun s us _ hl=>by
 rw [List.append_nil] at hl ⊢
 exact .of_eq (h us hl)
def zdc (CX:CXT) (X:Cx) (E:XK):Prop:=∀(pins:List (Addr×Obj)) (U:St) (H:Hp) (s:Shared) (e:Value) (s':Shared),Inv X pins U H s->CX X.stack H s E e s'->X.xe e s'
section
variable {X:Cx} {CX:CXT} {k:Nat} {f:Addr} {fd:FuncData} {ps:List Str} {sp:Sp} {dvs:List V} {ds:List Value} {E:XK} {x:Str} {p pos:Pos} {e:Expr} {es:List Expr} {t:TA}
theorem zra {pins:List (Addr×Obj)} {U:St} {H:Hp} {s:Shared} {Q:VK} {us:List Value} {vs:List V} (F:FnOk X.prog X.w X.K X.mg X.base CX k f fd ps sp) (hr:Room k X.A) (hb:Binds X.K fd ps ds) (hd:Vals dvs ds) (hx:zdc CX X E)
  (I:Inv X pins U H s) (r:Vals vs us) (h:sp (vs++dvs) H Q E):wpAny (model X.prog X.w) X.A (call (.ref f) us) (EP X pins U Q) X.xe s:=by
 have r2:Vals (vs++dvs) (us++ds):=r.append hd
 have hl:(us++ds).length=ps.length:=by rw [<-r2.length];exact F.len _ _ _ _ h
 refine wpAny_call (codeAny_mono (F.run X.A X.stack s H ⟨us,[]⟩ (us++ds) (vs++dvs) Q E hr I.env0 (hb s us I.kIn hl) r2 h) fun r s' hq=>?_)
 cases r with
 | error e=>exact hx pins U H s e s' I hq
 | ok fl=>
  cases fl with
  | ret u=>exact I.after hq
  | next=>exact False.elim hq
  | brk=>exact False.elim hq
  | cont=>exact False.elim hq
theorem zn9 (F:FnOk X.prog X.w X.K X.mg X.base CX k f fd ps sp) (hr:Room k X.A) (hg:Gl X x) (hm:X.mg x=some (.ref f)) (hk:keepIn X.K (.ref f)=true) (hb:Binds X.K fd ps ds) (hd:Vals dvs ds) (hx:zdc CX X E)
  (ha:PA X (e::es) t) (hdb:(x==("__debug__":Str))=false:=by decide) (he:starEach (e::es) X.env=(false,eval e X.env)::starEach es X.env:=by rfl) (hpl:(backTo pos (starEach es X.env)).any (·.1)=false:=by rfl) :
  PE X (.Call (.Name x p) (e::es) [] pos) (zr9 sp dvs E t):=by
 intro pins s U H Q I h
 refine wpAny_Call_Name_kw (z6w I hg hm ?_ hdb)
 refine PySem.W.callWith_K (h₀:=X.base) I.ok.mod.kin hk (thn (ha pos pins s U H _ I h) fun us s1 ⟨vs,H1,I1,r,q⟩=>⟨I1.kIn,?_⟩) he hpl
 exact zra F hr hb hd hx I1 r q
end
structure FnScope (N P:List Str) (sc:Scope):Prop where
 kind:sc.kind=.function
 co:sc.isCoroutine=false
 gen:sc.isGenerator=false
 nd:N.Nodup
 pre:N.take P.length=P
 par:∀x∈P,sc.names.lookup x=some .local\/sc.names.lookup x=some .cell
 nofree:∀y∈sc.names,y.2≠.free
theorem zah {kindOf:Str->Option NameKind} {x:Str}:∀{binds:List (Str×Value)} {m:Str->Option Value},(∀v,(x,v)∉binds)->bindL kindOf binds m x=m x
 | [],_,_=>rfl
 | (n,v)::r,m,h=>by
  unfold bindL
  rw [zah fun w hw=>h w (List.mem_cons_of_mem _ hw)]
  split
  . have:x≠n:=by rintro rfl;exact h v List.mem_cons_self
    simp [this]
  . rfl
theorem zai {kindOf:Str->Option NameKind} {x:Str}:∀{binds:List (Str×Value)} {m:Str->Option Value},(∀v,(x,v)∉binds)->bindC kindOf binds m x=m x
 | [],_,_=>rfl
 | (n,v)::r,m,h=>by
  unfold bindC
  rw [zai fun w hw=>h w (List.mem_cons_of_mem _ hw)]
  split
  . rfl
  . have:x≠n:=by rintro rfl;exact h v List.mem_cons_self
    simp [this]
theorem zaj {kindOf:Str->Option NameKind} {x:Str} {v:Value}:∀{P:List Str} {vs:List Value} {i:Nat} {m:Str->Option Value},P.Nodup->P[i]?=some x->vs[i]?=some v->kindOf x=some .local ->
  bindL kindOf (P.zip vs) m x=some v
 | [],_,_,_,_,h,_,_=>by simp at h
 | _::_,[],_,_,_,_,h,_=>by simp at h
 | p::P,w::vs,0,m,nd,h1,h2,hk=>by
  simp at h1 h2;subst h1;subst h2
  show bindL kindOf ((p,w)::P.zip vs) m p=_
  unfold bindL
  rw [zah fun v hv=>(List.nodup_cons.mp nd).1 (List.of_mem_zip hv).1,if_pos hk]
  simp
 | p::P,w::vs,i+1,m,nd,h1,h2,hk=>by
  show bindL kindOf ((p,w)::P.zip vs) m x=_
  unfold bindL
  exact zaj (i:=i) (List.nodup_cons.mp nd).2 (by simpa using h1) (by simpa using h2) hk
theorem zak {kindOf:Str->Option NameKind} {x:Str} {v:Value}:∀{P:List Str} {vs:List Value} {i:Nat} {m:Str->Option Value},P.Nodup->P[i]?=some x->vs[i]?=some v->kindOf x≠some .local ->
  bindC kindOf (P.zip vs) m x=some v
 | [],_,_,_,_,h,_,_=>by simp at h
 | _::_,[],_,_,_,_,h,_=>by simp at h
 | p::P,w::vs,0,m,nd,h1,h2,hk=>by
  simp at h1 h2;subst h1;subst h2
  show bindC kindOf ((p,w)::P.zip vs) m p=_
  unfold bindC
  rw [zai fun v hv=>(List.nodup_cons.mp nd).1 (List.of_mem_zip hv).1,if_neg hk]
  simp
 | p::P,w::vs,i+1,m,nd,h1,h2,hk=>by
  show bindC kindOf ((p,w)::P.zip vs) m x=_
  unfold bindC
  exact zak (i:=i) (List.nodup_cons.mp nd).2 (by simpa using h1) (by simpa using h2) hk
noncomputable def z6z (N:List Str) (vs:List V):St:=vs.map some++List.replicate (N.length - vs.length) none
noncomputable def zj7 (CX:CXT) (P:Program) (w:World) (K:Frag) (mg:Str->Option Value) (base:Heap) (N:List Str) (qual:Str) (scope:Scope) (f:Addr) (cd:Value) (A:Around) (outer:List Env) (s:Shared) (H:Hp) (E:XK):Cx where
 prog:=P
 w:=w
 K:=K
 mg:=mg
 base:=base
 A:=A.deeper (envOfC qual scope s.heap.objs.size f cd)
 N:=N
 s₀:=s
 H₀:=H
 env:=envOfC qual scope s.heap.objs.size f cd
 outer:=outer
 stack:=envOfC qual scope s.heap.objs.size f cd::outer
 ex:=[]
 calm:=true
 fn:=fun _=>true
 pn:=[]
 xe:=fun e s'=>wpAny (model P w) (A.deeper (envOfC qual scope s.heap.objs.size f cd)) (leaving (envOfC qual scope s.heap.objs.size f cd) e) (fun _ s''=>CX outer H s E e s'') (fun e' s''=>CX outer H s E e' s'') s'
theorem zdd {sc:Scope} {n:Nat} {x:Str} (h:sc.names.lookup x=some .cell):∃c,(cellsFrom n sc.names []).lookup x=some c:=by
 have q:=PySem.W.cellsFrom_some sc.names n [] (.inl h)
 exact Option.isSome_iff_exists.mp q
theorem zfy {CX:CXT} {P:Program} {w:World} {K:Frag} {mg:Str->Option Value} {base:Heap} {N ps:List Str} {qual:Str} {scope:Scope} {f:Addr} {cd:Value} {A:Around} {outer:List Env} {s s1:Shared} {H:Hp} {E:XK} {us:List Value} {vs:List V}
  (S:FnScope N ps scope) (hd:A.handled=none) (e0:Env0 P w K mg base A outer s H) (hl:vs.length=ps.length) (r:Vals vs us)
  (x:InCallC s s.heap.objs.size (bindL (envOfC qual scope s.heap.objs.size f cd).kindOf (ps.zip us) fun _=>none) (cellsFrom (s.heap.objs.size+1) scope.names []) (bindC (envOfC qual scope s.heap.objs.size f cd).kindOf (ps.zip us) fun _=>none) s1) :
  Inv (zj7 CX P w K mg base N qual scope f cd A outer s H E) [] (z6z N vs) H s1:=by
 have hpl:ps.length<=N.length:=by have:=congrArg List.length S.pre;rw [List.length_take] at this;lia
 obtain ⟨h1,tk,rfl,hk⟩:=x.done
 have noA:∀b:Addr,b∉(zj7 CX P w K mg base N qual scope f cd A outer s H E).ex:=fun b z=>absurd (show b∈([]:List Addr) from z) (by simp)
 refine ⟨⟨e0.mod,S.kind,rfl,rfl,Nat.le_refl _,fun y z c h1 h2=>?_,fun y hy=>?_,fun y c _ h=>?_,fun _=>hd,Around.frames_deeper e0.frames,.inr ⟨rfl,rfl⟩,fun b z=>absurd z (noA b),e0.bs,e0.bsz,fun b _ _=>noA b,fun b z=>absurd z (noA b),e0.funs,e0.frf⟩,
  rfl,e0.bare,Un.kept hk,⟨_,x.toInCall.ns,fun i y v h1 h2 h3=>?_⟩,fun y c h=>⟨_,x.cell y c h⟩,e0.hok.fresh (Nat.le_refl _),fun y c h=>?_,fun p hp=>absurd (show p∈([]:List (Addr×Obj)) from hp) (by simp),e0.hok.kept hk,?_⟩
 . exact name_of_addr x.apart (PySem.mem_of_lookup h1) (PySem.mem_of_lookup h2)
 . have hy:scope.names.lookup y=some .cell\/scope.names.lookup y=some .free:=hy
   rcases hy with hy | hy
   . exact zdd hy
   . exact absurd rfl (S.nofree _ (PySem.mem_of_lookup hy))
 . exact Nat.le_of_lt (x.above y c (PySem.mem_of_lookup h))
 . have hi:i<vs.length:=by
    unfold z6z at h2
    by_cases hi:i<vs.length
    . exact hi
    . rw [List.getElem?_append_right (by simpa using hi)] at h2
      rw [List.getElem?_replicate] at h2
      split at h2<;>cases h2
   have ha:vs[i]?=some v:=by
    unfold z6z at h2
    rw [List.getElem?_append_left (by simpa using hi),List.getElem?_map] at h2
    cases e:vs[i]? with
    | none=>rw [e] at h2;cases h2
    | some a=>rw [e] at h2;cases h2;rfl
   obtain ⟨u,hu,rv⟩:=r.get ha
   have hp:ps[i]?=some y:=by
    rw [<-S.pre,List.getElem?_take_of_lt (by lia)];exact h1
   have ndP:ps.Nodup:=by rw [<-S.pre];exact S.nd.sublist (List.take_sublist _ _)
   refine ⟨u,rv,?_⟩
   rcases S.par y (List.mem_of_getElem? hp) with k | k
   . exact .inl ⟨k,zaj ndP hp hu k⟩
   . obtain ⟨c,e⟩:=zdd (n:=s.heap.objs.size+1) k
     refine .inr ⟨.inl k,c,e,?_⟩
     have q:=x.cell y c e
     rw [zak ndP hp hu (by show scope.names.lookup y≠_;rw [k];decide)] at q
     exact q
 . exact e0.hok.fresh (Nat.le_of_lt (x.above y c (PySem.mem_of_lookup h)))
 . unfold z6z
   show _=N.length
   rw [List.length_append,List.length_map,List.length_replicate]
   lia
theorem zrb {CX:CXT} {P:Program} {w:World} {K:Frag} {mg:Str->Option Value} {base:Heap} {k:Nat} {f:Addr} {name qual:Str} {params:Arguments} {body:List Stmt} {scope:Scope} {dV kV doc pm cdv ct oc:Value} {an od:Option Addr}
  {osl:Array (Option Value)} {N ps:List Str} {sp:Sp} (lk:K.lookup f=some ⟨oc,od,.func (PySem.W.fnOf name qual params body scope dV kV doc pm an cdv ct),osl⟩) (hcd:codeIn K cdv qual=true) (S:FnScope N ps scope)
  (len:∀vs H Q E,sp vs H Q E->vs.length=ps.length)
  (hbody:∀(A:Around) (outer:List Env) (s:Shared) (H:Hp) (vs:List V) (Q:VK) (E:XK),Room k (A.deeper (envOfC qual scope s.heap.objs.size f cdv))->sp vs H Q E ->
   ∃t,PSs (zj7 CX P w K mg base N qual scope f cdv A outer s H E) body t/\t { nx:=fun _ H'=>Q .non H',rt:=Q } (z6z N vs) H) :
  FnOk P w K mg base CX (k+1) f (PySem.W.fnOf name qual params body scope dV kV doc pm an cdv ct) ps sp:=by
 refine ⟨len,fun A outer s H args us vs Q E hr e0 hb r hsp=>?_⟩
 have hl:=len _ _ _ _ hsp
 have KX:K.In s.heap:=e0.mod.kin.keeps fun b o e=>(e0.bs b o e).1
 have lim:s.heap.NoLimit:=e0.mod.nolimit.keeps fun b o e=>(e0.bs b o e).1
 have hkind:∀y∈ps.zip us,scope.names.lookup y.1=some .local\/(scope.names.lookup y.1=some .cell/\((cellsFrom (s.heap.objs.size+1) scope.names []).lookup y.1).isSome=true):=fun ⟨n,v⟩ hy=>by
  rcases S.par n (List.of_mem_zip hy).1 with q | q
  . exact .inl q
  . exact .inr ⟨q,PySem.W.cellsFrom_some _ _ _ (.inl q)⟩
 refine codeAny_call_function hr.depth (KX _ _ lk) rfl S.co S.gen rfl (PySem.W.codeRec_of KX hcd) (hb _ _ _ _ ?_)
 refine wpAny_newFunctionEnv_cells S.kind hkind fun env he s1 x=>?_
 subst he
 refine ⟨lim.keeps x.toInCall.keep,codeAny_func ?_⟩
 obtain ⟨t,ht,hq⟩:=hbody A outer s H vs Q E (hr.deeper _) hsp
 have I:Inv (zj7 CX P w K mg base N qual scope f cdv A outer s H E) [] (z6z N vs) H s1:=zfy S hr.hd e0 hl r x
 refine wpAny_mono (ht [] s1 (z6z N vs) H _ I hq) (fun fl s' hs=>?_) fun e s' hs=>hs
 have fin:∀{σ':St} {H':Hp} {v:V} {u:Value},Inv (zj7 CX P w K mg base N qual scope f cdv A outer s H E) [] σ' H' s'->RelV v u->Q v H'->CE outer P w H s Q u s':=
  fun {σ' H' v u} J rv q=>⟨v,H',J.os,J.bare,J.base,J.hok,rv,q⟩
 cases fl with
 | ret u=>
  obtain ⟨v,σ',H',J,rv,q⟩:=hs
  exact fin J rv q
 | next=>
  obtain ⟨σ',H',J,q⟩:=hs
  exact fin (v:=V.non) (u:=Value.none) J rfl q
 | brk=>
  obtain ⟨_,_,_,q⟩:=hs
  exact False.elim q
 | cont=>
  obtain ⟨_,_,_,q⟩:=hs
  exact False.elim q
section
variable {X:Cx} {x:Str} {p pos:Pos} {e:Expr} {es:List Expr} {t:TA} {id T:String} {r:List V->Hp->VK->Prop}
noncomputable def tCB (r:List V->Hp->VK->Prop) (t:TA):TE:=fun U H Q=>t U H fun vs H1=>r vs H1 Q
theorem z6k (hc:CallR X (.builtin id) r) (hg:Gl X x) (hm:X.mg x=none) (hv:bootBuiltins x=some (.builtin id)) (ha:PA X (e::es) t) (hn:x≠"__name__":=by decide) (hdb:(x==("__debug__":Str))=false:=by decide)
  (he:starEach (e::es) X.env=(false,eval e X.env)::starEach es X.env:=by rfl) (hpl:(backTo pos (starEach es X.env)).any (·.1)=false:=by rfl):PE X (.Call (.Name x p) (e::es) [] pos) (tCB r t):=by
 intro pins s U H Q I h
 refine wpAny_Call_Name_kw (z6x I hg hm hv ?_ hn hdb)
 exact PyProof.Rows.callWith_builtin1 (thn (ha pos pins s U H _ I h) fun us s1 ⟨vs,H1,I1,r1,q1⟩=>hc pins s1 U H1 vs us Q I1 r1 q1) he hpl
theorem zfz (hc:CallR X (.type T) r) (hg:Gl X x) (hm:X.mg x=none) (hv:bootBuiltins x=some (.type T)) (ha:PA X (e::es) t) (hn:x≠"__name__":=by decide) (hdb:(x==("__debug__":Str))=false:=by decide)
  (he:starEach (e::es) X.env=(false,eval e X.env)::starEach es X.env:=by rfl) (hpl:(backTo pos (starEach es X.env)).any (·.1)=false:=by rfl):PE X (.Call (.Name x p) (e::es) [] pos) (tCB r t):=by
 intro pins s U H Q I h
 refine wpAny_Call_Name_kw (z6x I hg hm hv ?_ hn hdb)
 exact PyProof.Rows.callWith_type1 (thn (ha pos pins s U H _ I h) fun us s1 ⟨vs,H1,I1,r1,q1⟩=>hc pins s1 U H1 vs us Q I1 r1 q1) he hpl
end
end L2
namespace HT
open PySem PyProof.Rows
theorem zj8 (A:Around) (s:Shared) (a:Int) (t:Tok) (c:Int) (u:Tok):∃e,SeqAt.EqAt A s (.int a t) (.int c u) e/\(e=true↔a=c):=
 ⟨(a==c),SeqAt.EqAt.int_int a t c u,by simp⟩
theorem rcLt_int (A:Around) (s:Shared) (a:Int) (t:Tok) (c:Int) (u:Tok) (prog:Program) (w:World) (E:Value->Shared->Prop) (Q:Value->Shared->Prop) (h:Q (.bool (decide (a<c))) s) :
  wpAny (model prog w) A (richCompare .Lt (.int a t) (.int c u)) Q E s:=
 (PyProof.Rows.lt_int h:wpAny (model prog w) A (compareOp .Lt (.int a t) (.int c u)) Q E s)
section
open PySem.SeqAt
open PySem.AutoSeq1 (wpAny_loadPart')
open PySem.MeetsSeq PySem.MeetsSeq2 PySem.MeetsSeq3
end
section
variable {prog:Program} {w:World} {A:Around} {E:Value->Shared->Prop} {s:Shared}
def sIx (n d:Nat):Option Int->Nat
 | none=>d
 | some v=>if v<0 then (v+(n:Int)).toNat else min v.toNat n
theorem zrc (n d:Nat) (hd:d<=n) (o:Option Int):sIx n d o<=n:=by
 cases o with
 | none=>exact hd
 | some v=>
  show (if v<0 then (v+(n:Int)).toNat else min v.toNat n)<=n
  by_cases hv:v<0
  . rw [if_pos hv];lia
  . rw [if_neg hv];exact Nat.min_le_right _ _
theorem zg0 (v:Int) (n d:Nat):(if v<0 then max (v+(n:Int)) 0 else min v (n:Int))=((sIx n d (some v):Nat):Int):=by
 show (if v<0 then max (v+(n:Int)) 0 else min v (n:Int))=(((if v<0 then (v+(n:Int)).toNat else min v.toNat n):Nat):Int)
 by_cases hv:v<0
 . simp only [if_pos hv];lia
 . simp only [if_neg hv];lia
theorem zep (lo hi:Option Int) (n:Nat):Builtin.Slice.sliceAdjust lo hi 1 (n:Int)=(((sIx n 0 lo:Nat):Int),((sIx n n hi:Nat):Int)):=by
 have h1:¬((1:Int)<0):=by omega
 unfold Builtin.Slice.sliceAdjust
 simp only [h1,if_false]
 refine Prod.ext ?_ ?_
 . cases lo with
   | none=>rfl
   | some v=>exact zg0 v n 0
 . cases hi with
   | none=>rfl
   | some v=>exact zg0 v n n
theorem zeq (i j:Nat):Builtin.Slice.slicePlaces (i:Int) (j:Int) 1=j - i:=by
 unfold Builtin.Slice.slicePlaces
 have h1:(1:Int) > 0:=by lia
 simp only [h1,if_true,Int.ediv_one]
 split<;>lia
theorem z8f {v:Value} {o:Option Int} {Q:Option Int->Shared->Prop} (p:IsPart v o) (h:Q o s):wpAny (model prog w) A (Builtin.Slice.slicePartIndex v) Q E s:=by
 cases p with
 | none=>exact slicePart_none h
 | int i t=>exact slicePart_int h
theorem z3h {sl:Addr} {vl vu:Value} {lo hi:Option Int} {n:Nat} {Q:Int×Int×Nat->Shared->Prop} (hs:s.heap.IsSliceOf sl vl vu .none) (pl:IsPart vl lo) (pu:IsPart vu hi)
  (h:Q (((sIx n 0 lo:Nat):Int),1,sIx n n hi - sIx n 0 lo) s):wpAny (model prog w) A (Builtin.Slice.sliceApplied (.ref sl) (pure (n:Int))) Q E s:=by
 obtain ⟨os,hos,hcs,hds⟩:=id hs
 unfold Builtin.Slice.sliceApplied Builtin.Slice.sliceFields
 refine wpAny_bind (wpAny_bind (wpAny_field hos hds (x:=vl) rfl (wpAny_bind (wpAny_field hos hds (x:=vu) rfl (wpAny_bind (wpAny_field hos hds (x:=.none) rfl (wpAny_pure ?_)))))))
 refine wpAny_bind (slicePart_none ?_)
 show wpAny _ _ (if ((1:Int)==0)=true then _ else _) _ _ s
 rw [if_neg (by decide)]
 refine wpAny_bind (z8f pl (wpAny_bind (z8f pu (wpAny_bind (wpAny_pure ?_)))))
 show wpAny _ _ (match Builtin.Slice.sliceAdjust lo hi 1 (n:Int) with | (lo,hi)=>pure (lo,(1:Int),Builtin.Slice.slicePlaces lo hi 1)) _ _ s
 rw [zep lo hi n]
 show wpAny _ _ (pure (((sIx n 0 lo:Nat):Int),(1:Int),Builtin.Slice.slicePlaces ((sIx n 0 lo:Nat):Int) ((sIx n n hi:Nat):Int) 1)) _ _ s
 rw [zeq]
 exact wpAny_pure h
theorem zj9 (xs:Array Value) (i k:Nat):((List.range k).filterMap fun (m:Nat)=>xs[((i:Int)+(m:Int) * 1).toNat]?).toArray=((xs.toList.drop i).take k).toArray:=by
 have e:(fun (m:Nat)=>xs[((i:Int)+(m:Int) * 1).toNat]?)=fun m=>xs[i+m]?:=by
  funext m
  have:((i:Int)+(m:Int) * 1).toNat=i+m:=by lia
  rw [this]
 rw [e]
 have:=pick_run xs i k
 rw [List.filterMap_map] at this
 have e2:((fun x=>xs[x]?)∘fun x=>i+x)=fun m=>xs[i+m]?:=rfl
 rw [e2] at this
 rw [this]
theorem getItem_tuple_cut {t sl:Addr} {items:Array Value} {vl vu:Value} {lo hi:Option Int} {Q:Value->Shared->Prop} (ht:IsTup s.heap t items) (hs:s.heap.IsSliceOf sl vl vu .none) (pl:IsPart vl lo) (pu:IsPart vu hi)
  (hw:¬(sIx items.size 0 lo=0/\sIx items.size items.size hi=items.size))
  (h:Q (.ref s.heap.objs.size) { s with heap:=s.heap.push { cls:=.type "tuple",data:=.seq ((items.toList.drop (sIx items.size 0 lo)).take (sIx items.size items.size hi - sIx items.size 0 lo)).toArray } })
  (hsz:items.size<=sizeLine):wpAny (model prog w) A (getItem (.ref t) (.ref sl)) Q E s:=by
 have htake:sizeOk (.seq ((items.toList.drop (sIx items.size 0 lo)).take (sIx items.size items.size hi - sIx items.size 0 lo)).toArray):=by
  show ((items.toList.drop (sIx items.size 0 lo)).take (sIx items.size items.size hi - sIx items.size 0 lo)).toArray.size<=sizeLine
  rw [List.size_toArray,List.length_take,List.length_drop,Array.length_toList]
  omega
 have hj:sIx items.size items.size hi<=items.size:=zrc _ _ (Nat.le_refl _) hi
 obtain ⟨os,hos,hcs,hds⟩:=id hs
 have hTs:s.TypeIs (.ref sl) "slice":=⟨os,hos,hcs⟩
 unfold getItem
 try with_reducible refine wpAny_holding ?_
 first | refine wpAny_bind (wpAny_pure ?_) | skip
 refine wpAny_bind (wpAny_sequenceKey ht.typeIs (by decide) ?_)
 refine wpAny_bind (wpAny_callSpecial?_slot (name:=Str.ofString "__getitem__") ht.typeIs PyProof.Rows.slot_tuple_getitem
  (wpAny_call_entry PyProof.Rows.slot_tuple_getitem ht.typeIs entry_tuple_getitem ?_ (args_tuple_getitem _ _)))
 show wpAny _ _ (Builtin.Tuple.tupleItemsOf (.ref t) >>= _) _ _ s
 refine wpAny_bind (tupleItemsOf_ ht ?_)
 refine wpAny_bind (wpAny_typeOf hTs ?_)
 rw [if_pos (by decide)]
 refine wpAny_bind (z3h hs pl pu ?_)
 have hno:¬((((sIx items.size 0 lo:Nat):Int)==0&&(1:Int)==1&&(sIx items.size items.size hi - sIx items.size 0 lo)==items.size)=true):=by
  intro q
  rw [Bool.and_eq_true,Bool.and_eq_true] at q
  have q1:((sIx items.size 0 lo:Nat):Int)=0:=eq_of_beq q.1.1
  have q2:sIx items.size items.size hi - sIx items.size 0 lo=items.size:=eq_of_beq q.2
  exact hw ⟨by omega,by omega⟩
 show wpAny _ _ (if (((sIx items.size 0 lo:Nat):Int)==0&&(1:Int)==1&&(sIx items.size items.size hi - sIx items.size 0 lo)==items.size)=true then _ else _) _ _ s
 rw [if_neg hno,zj9]
 first
  | exact wpAny_bind (m:=Builtin.Tuple.tupleExact _) (wpAny_newObj_type (wpAny_pure ⟨_,rfl,wpAny_pure h⟩) htake)
  | exact wpAny_bind (m:=Builtin.Tuple.tupleExact _) (wpAny_newObj_type (wpAny_bind (wpAny_pure (wpAny_pure ⟨_,rfl,wpAny_pure h⟩))) htake)
  | exact wpAny_bind (wpAny_bind (m:=Builtin.Tuple.tupleExact _) (wpAny_newObj_type (wpAny_pure (wpAny_pure ⟨_,rfl,wpAny_pure h⟩)) htake))
  | exact wpAny_bind (wpAny_bind (m:=Builtin.Tuple.tupleExact _) (wpAny_newObj_type (wpAny_pure ⟨_,rfl,wpAny_pure h⟩) htake))
end
end HT
namespace L2
open PySem PySem.Spec PyProof.Rows
abbrev TO:=St->Hp->(Option Int->Hp->Prop)->Prop
def PO (X:Cx) (e:Option Expr) (t:TO):Prop:=
 ∀(pins:List (Addr×Obj)) (s:Shared) (U:St) (H:Hp) (Q:Option Int->Hp->Prop),Inv X pins U H s->t U H Q ->
  wpAny (model X.prog X.w) X.A (evalPart e X.env) (fun u s'=>∃o H',Inv X pins U H' s'/\IsPart u o/\Q o H') X.xe s
noncomputable def zna:TO:=fun _ H Q=>Q none H
noncomputable def zx9 (t:TE):TO:=fun U H Q=>t U H fun x H1=>∃i,x=.int i/\Q (some i) H1
theorem z2f {ns:List Int}:∀{us:List Value},Vals (ns.map V.int) us->IntsAre us ns:=by
 induction ns with
 | nil=>intro us r;rw [List.map_nil] at r;cases r;exact .nil
 | cons n ns ih=>
  intro us r
  rw [List.map_cons] at r
  cases r with
  | cons r1 r2=>
   obtain ⟨t,e⟩:=r1
   subst e
   exact .cons n t (ih r2)
section
variable {X:Cx} {e:Expr} {te:TE} {lo hi:Option Expr} {tl th:TO} {pos p2:Pos}
theorem po_none:PO X none zna:=by
 intro pins s U H Q I h
 rw [evalPart_none]
 exact wpAny_pure ⟨none,H,I,.none,h⟩
theorem znb (h:PE X e te):PO X (some e) (zx9 te):=by
 intro pins s U H Q I hw
 rw [evalPart_some]
 refine thn (h pins s U H _ I hw) fun u s1 ⟨x,H1,I1,r1,q1⟩=>?_
 obtain ⟨i,rfl,q⟩:=q1
 obtain ⟨t,rfl⟩:=r1
 exact ⟨some i,H1,I1,.int i t,q⟩
def SlR (X:Cx) (r:V->Option Int->Option Int->Hp->VK->Prop):Prop:=
 ∀(pins:List (Addr×Obj)) (s:Shared) (U:St) (H:Hp) (x:V) (v vl vu:Value) (lo hi:Option Int) (sl:Addr) (Q:VK),Inv X pins U H s->RelV x v->s.heap.IsSliceOf sl vl vu .none->IsPart vl lo->IsPart vu hi->r x lo hi H Q ->
  ∃T id,typeLookup (.type T) "__getitem__"=pure (some (.builtin id))/\s.TypeIs v T/\wpAny (model X.prog X.w) X.A (getItem v (.ref sl)) (EP X pins U Q) X.xe s
noncomputable def tSl (r:V->Option Int->Option Int->Hp->VK->Prop) (te:TE) (tl th:TO):TE:=fun U H Q=>te U H fun x H1=>tl U H1 fun l H2=>th U H2 fun u H3=>r x l u H3 Q
theorem zja {r:V->Option Int->Option Int->Hp->VK->Prop} (hr:SlR X r) (he:PE X e te) (hl:PO X lo tl) (hu:PO X hi th):PE X (.Subscript e (.Slice lo hi none p2) pos) (tSl r te tl th):=by
 intro pins s U H Q I h
 refine Subscript_ (thn (he pins s U H _ I h) fun v s1 ⟨x,H1,I1,r1,q1⟩=>?_)
 refine wpAny_Slice (thn (hl pins s1 U H1 _ I1 q1) fun vl s2 ⟨l,H2,I2,pl,q2⟩=>thn (hu pins s2 U H2 _ I2 q2) fun vu s3 ⟨u,H3,I3,pu,q3⟩=>?_)
 rw [evalPart_none]
 refine wpAny_pure ?_
 have I4:Inv X pins U H3 { s3 with heap:=s3.heap.push { cls:=.type "slice",data:=.fields #[vl,vu,.none] } }:=I3.kept (t':=s3.toks) fun b ob q=>Heap.get?_push_of_some _ q
 obtain ⟨T,id,hT,ht,hg⟩:=hr pins { s3 with heap:=s3.heap.push { cls:=.type "slice",data:=.fields #[vl,vu,.none] } } U H3 x v vl vu l u s3.heap.objs.size Q I4 r1 (Heap.IsSliceOf.new ..) pl pu q3
 show wpAny (model X.prog X.w) X.A (subscriptTail e (.Slice lo hi none p2) v (.ref s3.heap.objs.size)) (EP X pins U Q) X.xe { s3 with heap:=s3.heap.push { cls:=.type "slice",data:=.fields #[vl,vu,.none] } }
 exact tail_any (ops:=[.ref s3.heap.objs.size,v]) ht hT hg (by with_unfolding_all rfl)
noncomputable def zj0 (xs:List V) (lo hi:Option Int):List V:=(xs.drop (HT.sIx xs.length 0 lo)).take (HT.sIx xs.length xs.length hi - HT.sIx xs.length 0 lo)
theorem z70 (xs:List V) (lo hi:Option Int):(zj0 xs lo hi).length<=xs.length:=by
 unfold zj0
 rw [List.length_take,List.length_drop]
 omega
def y12 (K:Frag):V->Option Int->Option Int->Hp->VK->Prop:=fun x lo hi H Q=>∃a xs,x=.ref a/\SqT K H a xs /\
 ¬(HT.sIx xs.length 0 lo=0/\HT.sIx xs.length xs.length hi=xs.length)/\∀p,H p=none->Q (.ref p) (upd H p (.tup (zj0 xs lo hi)))
theorem zrd:SlR X (y12 X.K):=by
 intro pins s U H x v vl vu lo hi sl Q I rx hs pl pu h
 obtain ⟨a,xs,rfl,hx,hw,q⟩:=h
 cases rx
 obtain ⟨its,r,ht,hz⟩:=I.tuple hx
 have hlen:its.toArray.size=xs.length:=by rw [List.size_toArray];exact r.length.symm
 refine ⟨"tuple",_,PyProof.Rows.slot_tuple_getitem.lookup,ht.typeIs,?_⟩
 refine HT.getItem_tuple_cut ht hs pl pu (by rw [hlen];exact hw) ?_ (by rw [hlen];exact hz)
 rw [hlen]
 refine ⟨.ref s.heap.objs.size,_,I.laid (t':=s.toks) (o:=.tup (zj0 xs lo hi)) (fun b ob q=>Heap.get?_push_of_some _ q) (Nat.le_refl _) ?_,rfl,q _ (I.hok.fresh (Nat.le_refl _))⟩
 exact ⟨Nat.le_trans (z70 xs lo hi) hz,_,(r.drop (HT.sIx xs.length 0 lo)).take (HT.sIx xs.length xs.length hi - HT.sIx xs.length 0 lo),.mk' (Heap.get?_push_size _ rfl)⟩
end
noncomputable def ixN (n:Nat) (i:Int):Option Nat:=if 0<=i then (if i<n then some i.toNat else none) else if -(n:Int)<=i then some (i+n).toNat else none
noncomputable def atI {α:Type} (xs:List α) (i:Int):Option α:=(ixN xs.length i).bind fun j=>xs[j]?
theorem znc {n:Nat} {i:Int} {j:Nat} (h:ixN n i=some j):seqIndex? i n=some j/\j<n/\-(n:Int)<=i/\i<n:=by
 unfold ixN at h
 by_cases h0:0<=i
 . rw [if_pos h0] at h
   by_cases h1:i<n
   . rw [if_pos h1] at h
     have e:i.toNat=j:=Option.some.inj h
     exact ⟨by rw [seqIndex_of h0 h1,e],by lia,by lia,h1⟩
   . rw [if_neg h1] at h;cases h
 . rw [if_neg h0] at h
   by_cases h1:-(n:Int)<=i
   . rw [if_pos h1] at h
     have e:(i+n).toNat=j:=Option.some.inj h
     exact ⟨by rw [seqIndex_neg (by lia) h1,e],by lia,h1,by lia⟩
   . rw [if_neg h1] at h;cases h
theorem zbz {α:Type} {xs:List α} {i:Int} {v:α} (h:atI xs i=some v):∃j,seqIndex? i xs.length=some j/\xs[j]?=some v/\j<xs.length/\-(xs.length:Int)<=i/\i<xs.length:=by
 unfold atI at h
 cases e:ixN xs.length i with
 | none=>rw [e] at h;cases h
 | some j=>
  rw [e] at h
  obtain ⟨h1,h2,h3,h4⟩:=znc e
  exact ⟨j,h1,h,h2,h3,h4⟩
theorem z71 {α:Type} {xs:List α} {j:Nat} {v:α} (h:xs[j]?=some v):atI xs (j:Int)=some v:=by
 have hj:j<xs.length:=(List.getElem?_eq_some_iff.mp h).1
 have e:ixN xs.length (j:Int)=some j:=by
  unfold ixN
  rw [if_pos (by lia),if_pos (by lia)];simp
 unfold atI;rw [e];exact h
theorem zjb {α:Type} (xs:List α) (v:α):atI (xs++[v]) (-1)=some v:=by
 have hl:(xs++[v]).length=xs.length+1:=by simp
 have e:ixN (xs++[v]).length (-1)=some xs.length:=by
  unfold ixN
  rw [hl,if_neg (by decide),if_pos (by lia)]
  congr 1
  lia
 unfold atI
 rw [e]
 show (xs++[v])[xs.length]?=some v
 simp
def zc0 (b:Expr):Prop:=∀o i,subscripted b false o i=operate [o,i] (getItem o i)
def IxR (X:Cx) (r:R2):Prop:=
 ∀(value slice:Expr) (pins:List (Addr×Obj)) (s:Shared) (U:St) (H:Hp) (x y:V) (v u:Value) (Q:VK),Inv X pins U H s->RelV x v->RelV y u->r x y H Q ->
  subscripted slice false v u=operate [v,u] (getItem v u)->wpAny (model X.prog X.w) X.A (subscriptTail value slice v u) (EP X pins U Q) X.xe s
def MtR (X:Cx) (id:String) (r:V->List V->Hp->VK->Prop):Prop:=
 ∀(pins:List (Addr×Obj)) (s:Shared) (U:St) (H:Hp) (x:V) (xs:List V) (v:Value) (us:List Value) (Q:VK),Inv X pins U H s->RelV x v->Vals xs us->r x xs H Q ->
  wpAny (model X.prog X.w) X.A (call (.builtin id) (v::us)) (EP X pins U Q) X.xe s
section
variable {X:Cx} {a b:Expr} {ta tb:TE} {pos:Pos}
theorem IxR.or {r r':R2} (h:IxR X r) (h':IxR X r'):IxR X (fun x y H Q=>r x y H Q\/r' x y H Q):=by
 intro value slice pins s U H x y v u Q I rx ry q hs
 rcases q with q | q
 . exact h value slice pins s U H x y v u Q I rx ry q hs
 . exact h' value slice pins s U H x y v u Q I rx ry q hs
theorem zre {r:R2} (hr:IxR X r) (ha:PE X a ta) (hb:PE X b tb) (hs:zc0 b):PE X (.Subscript a b pos) (tOp r ta tb):=by
 intro pins s U H Q I h
 exact Subscript_ (zx5 ha hb I h fun v u s2 x y H2 I2 rx ry q=>hr a b pins s2 U H2 x y v u Q I2 rx ry q (hs _ _))
noncomputable def zqe (K:Frag):R2:=fun x y H Q=>∃p xs i v,x=.ref p/\y=.int i/\SqL K H p xs/\atI xs i=some v/\Q v H
noncomputable def y05 (K:Frag):R2:=fun x y H Q=>∃p xs i v,x=.ref p/\y=.int i/\SqT K H p xs/\atI xs i=some v/\Q v H
noncomputable def y06:R2:=fun x y H Q=>∃z i c,x=.str z/\y=.int i/\z.length<=sizeLine/\atI z.cps.toList i=some c/\Q (.str ⟨#[c]⟩) H
theorem ix_list:IxR X (zqe X.K):=by
 intro value slice pins s U H x y v u Q I rx ry h hs
 obtain ⟨p,xs,i,z,rfl,rfl,hq,he,q⟩:=h
 cases rx
 obtain ⟨t,rfl⟩:=ry
 obtain ⟨its,r,pl,hz⟩:=I.list hq
 obtain ⟨j,h1,h2,h3,h4,h5⟩:=zbz he
 obtain ⟨w,ew,rw'⟩:=r.get h2
 have hl:=r.length
 have hn:=z8e
 have fin:EP X pins U Q w s:=⟨z,H,I,rw',q⟩
 by_cases h0:0<=i
 . have hj:i.toNat=j:=by
    rw [seqIndex_of h0 h5] at h1
    exact Option.some.inj h1
   exact item_listR pl.isList h0 (by lia) (by rw [hj];simpa using ew) fin hs
 . have hj:(i+(its.toArray.size:Int)).toNat=j:=by
    rw [seqIndex_neg (by lia) h4] at h1
    rw [List.size_toArray,<-hl]
    exact Option.some.inj h1
   exact subscriptTail_builtinR (x:=w) pl.isList.typeIs slot_list_getitem.lookup
    (wpAny_getItem_list_neg (Q:=fun r s'=>r=w/\EP X pins U Q r s') pl.isList (by lia) (by rw [List.size_toArray]<;>lia) (by lia) (by rw [hj];simpa using ew) ⟨rfl,fin⟩) hs
theorem ix_tup:IxR X (y05 X.K):=by
 intro value slice pins s U H x y v u Q I rx ry h hs
 obtain ⟨p,xs,i,z,rfl,rfl,hq,he,q⟩:=h
 cases rx
 obtain ⟨t,rfl⟩:=ry
 obtain ⟨its,r,pl,hz⟩:=I.tuple hq
 obtain ⟨j,h1,h2,h3,h4,h5⟩:=zbz he
 obtain ⟨w,ew,rw'⟩:=r.get h2
 have hl:=r.length
 have hn:=z8e
 have fin:EP X pins U Q w s:=⟨z,H,I,rw',q⟩
 exact subscriptTail_builtinR (x:=w) pl.typeIs slot_tuple_getitem.lookup
  (getItem_tuple (j:=j) (Q:=fun r s'=>r=w/\EP X pins U Q r s') pl (by lia) (by lia) (by rw [List.size_toArray,<-hl];exact h1) (by simpa using ew) ⟨rfl,fin⟩) hs
theorem zrf:IxR X y06:=by
 intro value slice pins s U H x y v u Q I rx ry h hs
 obtain ⟨z,i,c,rfl,rfl,hz,he,q⟩:=h
 obtain ⟨t,rfl⟩:=rx
 obtain ⟨t',rfl⟩:=ry
 obtain ⟨j,h1,h2,h3,h4,h5⟩:=zbz he
 have hl:z.cps.toList.length=z.length:=by simp [Str.length]
 rw [hl] at h1 h4 h5
 have hn:=z8e
 exact tail_any (typeIs_str s z t) slot_str_getitem.lookup (getItem_str (c:=c) (by
  have e1:decide (i < -(2 ^ 63:Int))=false:=decide_eq_false (by lia)
  have e2:decide (i ≥ 2 ^ 63)=false:=decide_eq_false (by lia)
  rw [e1,e2,Bool.or_false]) (by rw [h1];simpa using h2) ⟨.str ⟨#[c]⟩,H,I.tok _,⟨_,rfl⟩,q⟩) hs
noncomputable def rIx (K:Frag):R2:=fun x y H Q=>zqe K x y H Q\/y05 K x y H Q\/y06 x y H Q
theorem ix_seq:IxR X (rIx X.K):=ix_list.or (ix_tup.or zrf)
theorem Inv.lst {pins:List (Addr×Obj)} {U:St} {H:Hp} {s:Shared} {p:Addr} {xs:List V} (I:Inv X pins U H s) (h:H p=some (.lst xs)) :
  ∃(its:List Value) (n:Nat),Vals xs its/\s.heap.get? p=some { cls:=.type "list",data:=.seq its.toArray n }/\xs.length<=sizeLine:=by
 obtain ⟨z,its,n,r,e⟩:=I.hok p _ h
 exact ⟨its,n,r,e,z⟩
theorem zal (lo hi:Option Int) (n:Nat):(sliceBounds lo hi none n).1=((HT.sIx n 0 lo:Nat):Int)/\(sliceBounds lo hi none n).2.1=((HT.sIx n n hi:Nat):Int)/\(sliceBounds lo hi none n).2.2=1:=by
 refine ⟨?_,?_,rfl⟩
 . cases lo with
   | none=>simp [sliceBounds,HT.sIx]
   | some i=>
    simp only [sliceBounds,HT.sIx,Option.getD_none,show (1:Int) > 0 by decide,if_true]
    by_cases h:i<0
    . simp only [h,if_true]<;>lia
    . simp only [h,if_false]<;>lia
 . cases hi with
   | none=>simp [sliceBounds,HT.sIx]
   | some i=>
    simp only [sliceBounds,HT.sIx,Option.getD_none,show (1:Int) > 0 by decide,if_true]
    by_cases h:i<0
    . simp only [h,if_true]<;>lia
    . simp only [h,if_false]<;>lia
theorem z92 (its:List Value) (lo hi:Option Int):slicePick its.toArray lo hi none=((its.drop (HT.sIx its.length 0 lo)).take (HT.sIx its.length its.length hi - HT.sIx its.length 0 lo)).toArray:=by
 obtain ⟨h1,h2,h3⟩:=zal lo hi its.toArray.size
 unfold slicePick
 rw [h1,h2,h3]
 simp only [sliceRange_one,pick_run,List.size_toArray]<;>rfl
def y07 (K:Frag):V->Option Int->Option Int->Hp->VK->Prop:=fun x lo hi H Q=>∃a xs,x=.ref a/\SqL K H a xs/\∀p,H p=none->Q (.ref p) (upd H p (.lst (zj0 xs lo hi)))
theorem zc1:SlR X (y07 X.K):=by
 intro pins s U H x v vl vu lo hi sl Q I rx hs pl pu h
 obtain ⟨a,xs,rfl,hx,q⟩:=h
 cases rx
 obtain ⟨its,r,ht,hz⟩:=I.list hx
 have hlen:=r.length
 refine ⟨"list",_,slot_list_getitem.lookup,ht.isList.typeIs,?_⟩
 refine wpAny_getItem_list_slice ht.isList hs pl pu .none (by simp) ?_ (by rw [List.size_toArray]<;>lia)
 rw [z92,<-hlen]
 refine ⟨.ref s.heap.objs.size,_,I.laid (t':=s.toks) (o:=.lst (zj0 xs lo hi)) (fun b ob q=>Heap.get?_push_of_some _ q) (Nat.le_refl _) ?_,rfl,q _ (I.hok.fresh (Nat.le_refl _))⟩
 exact ⟨Nat.le_trans (z70 xs lo hi) hz,_,0,(r.drop (HT.sIx xs.length 0 lo)).take (HT.sIx xs.length xs.length hi - HT.sIx xs.length 0 lo),Heap.get?_push_size _ rfl⟩
theorem call_len_seq:CallR X (.builtin "len") (fun xs H Q=>∃p ys,xs=[.ref p]/\(SqL X.K H p ys\/SqT X.K H p ys)/\Q (.int ys.length) H):=by
 intro pins s U H xs us Q I r h
 obtain ⟨p,ys,rfl,hq,q⟩:=h
 obtain ⟨u,rfl,rx⟩:=z4o r
 cases rx
 have hn:=z8e
 rcases hq with hq | hq
 . obtain ⟨its,r',pl,hz⟩:=I.list hq
   have hlen:=r'.length
   exact Calls.call_len_list pl.isList (by simp only [List.size_toArray]<;>lia) ⟨.int ys.length,H,I.tok _,⟨s.toks+1,by rw [List.size_toArray,hlen]⟩,q⟩
 . obtain ⟨its,r',pl,hz⟩:=I.tuple hq
   have hlen:=r'.length
   exact len_tuple pl (by simp only [List.size_toArray]<;>lia) ⟨.int ys.length,H,I.tok _,⟨s.toks+1,by rw [List.size_toArray,hlen]⟩,q⟩
theorem zam:CallR X (.builtin "len") (fun xs H Q=>∃z,xs=[.str z]/\z.length<=sizeLine/\Q (.int z.length) H):=by
 intro pins s U H xs us Q I r h
 obtain ⟨z,rfl,hz,q⟩:=h
 obtain ⟨u,rfl,t,rfl⟩:=z4o r
 have hn:=z8e
 exact len_str (by lia) ⟨.int z.length,H,I.tok _,⟨_,rfl⟩,q⟩
theorem CallR.or {f:Value} {r r':List V->Hp->VK->Prop} (h:CallR X f r) (h':CallR X f r'):CallR X f (fun xs H Q=>r xs H Q\/r' xs H Q):=by
 intro pins s U H xs us Q I rs q
 rcases q with q | q
 . exact h pins s U H xs us Q I rs q
 . exact h' pins s U H xs us Q I rs q
theorem zan:CallR X (.type "list") (fun xs H Q=>∃p ys,xs=[.ref p]/\(SqL X.K H p ys\/SqT X.K H p ys)/\∀l,H l=none->Q (.ref l) (upd H l (.lst ys))):=by
 intro pins s U H xs us Q I r h
 obtain ⟨p,ys,rfl,hq,q⟩:=h
 obtain ⟨u,rfl,rx⟩:=z4o r
 cases rx
 have fin:∀(its:List Value),Vals ys its->ys.length<=sizeLine->∀(h':Heap) (c':Nat),(∀b o',s.heap.get? b=some o'->h'.get? b=some o') ->
   h'.get? s.heap.objs.size=some { cls:=.type "list",dict:=none,data:=.seq its.toArray c',slots:=#[] }->EP X pins U Q (.ref s.heap.objs.size) { s with heap:=h' }:=fun its r' hz h' c' kp e=>
  ⟨.ref s.heap.objs.size,_,I.laid (t':=s.toks) kp (Nat.le_refl _) (show ObjOk X.prog X.w _ h' _ (.lst ys) from ⟨hz,its,c',r',e⟩),rfl,q _ (I.hok.fresh (Nat.le_refl _))⟩
 rcases hq with hq | hq
 . obtain ⟨its,r',pl,hz⟩:=I.list hq
   have hlen:=r'.length
   obtain ⟨o,ho,hc,n,hd⟩:=pl.isList
   exact call_list_seq p (.inl rfl) ho hc hd (fun h' c' kp e=>fin its r' hz h' c' kp e) (by simp only [List.size_toArray]<;>lia)
 . obtain ⟨its,r',pl,hz⟩:=I.tuple hq
   have hlen:=r'.length
   obtain ⟨o,ho,hc,n,hd⟩:=pl
   exact call_list_seq p (.inr rfl) ho hc hd (fun h' c' kp e=>fin its r' hz h' c' kp e) (by simp only [List.size_toArray]<;>lia)
theorem z93:CallR X (.type "tuple") (fun xs H Q=>∃p ys,xs=[.ref p]/\((SqL X.K H p ys/\∀l,H l=none->Q (.ref l) (upd H l (.tup ys)))\/(SqT X.K H p ys/\Q (.ref p) H))):=by
 intro pins s U H xs us Q I r h
 obtain ⟨p,ys,rfl,h⟩:=h
 obtain ⟨u,rfl,rx⟩:=z4o r
 cases rx
 rcases h with ⟨hq,q⟩ | ⟨hq,q⟩
 . obtain ⟨its,r',pl,hz⟩:=I.list hq
   have hlen:=r'.length
   refine call_tuple_list pl.isList (fun h' kp=>?_) (by simp only [List.size_toArray]<;>lia)
   have I1:Inv X pins U H { s with heap:=h' }:=I.kept (t':=s.toks) kp
   have I2:Inv X pins U (upd H h'.objs.size (.tup ys)) { s with heap:=h'.push { cls:=.type "tuple",data:=.seq its.toArray } }:=
    I1.laid (t':=s.toks) (fun b o e=>Heap.get?_push_of_some _ e) (Nat.le_refl _) (show ObjOk X.prog X.w _ _ _ (.tup ys) from ⟨hz,its,r',.mk' (Heap.get?_push_size _ rfl)⟩)
   exact ⟨.ref h'.objs.size,_,I2,rfl,q _ (I1.hok.fresh (Nat.le_refl _))⟩
 . obtain ⟨its,r',pl,hz⟩:=I.tuple hq
   exact call_tuple_same pl ⟨.ref p,H,I,rfl,q⟩
def tyV (K:Frag) (T:String) (x:V) (H:Hp):Prop:=match x with
 | .str _=>T="str"
 | .int _=>T="int"
 | .ref p=>(T="list"/\∃xs,SqL K H p xs)\/(T="tuple"/\∃o,K.lookup p=some o/\o.cls=.type "tuple"/\o.dict=none) \/
  (T="dict"/\((∃kvs,H p=some (.dK kvs))\/∃kvs,H p=some (.dT kvs)))\/(T="set"/\∃S n,H p=some (.set S n))
 | _=>False
theorem zlb {pins:List (Addr×Obj)} {U:St} {H:Hp} {s:Shared} {T:String} {x:V} {v:Value} (I:Inv X pins U H s) (r:RelV x v) (ty:tyV X.K T x H) :
  s.TypeIs v T/\∀a,v=.ref a->∃ob,s.heap.get? a=some ob/\ob.dict=none:=by
 cases x with
 | str z=>
  obtain ⟨t,rfl⟩:=r
  cases (show T="str" from ty)
  exact ⟨typeIs_str s z t,fun _ e=>nomatch e⟩
 | int i=>
  obtain ⟨t,rfl⟩:=r
  cases (show T="int" from ty)
  exact ⟨typeIs_int s i t,fun _ e=>nomatch e⟩
 | ref p=>
  cases r
  rcases ty with ⟨rfl,xs,hq⟩ | ⟨rfl,o,hk,hc,hd⟩ | ⟨rfl,hk⟩ | ⟨rfl,S,n,hk⟩
  . obtain ⟨its,_,pl,_⟩:=I.list hq
    refine ⟨pl.isList.typeIs,fun a e=>?_⟩
    cases e
    obtain ⟨o,n,e,c,hd,_⟩:=pl
    exact ⟨o,e,hd⟩
  . refine ⟨⟨o,I.kIn p o hk,hc⟩,fun a e=>?_⟩
    cases e
    exact ⟨o,I.kIn _ o hk,hd⟩
  . have z:∃o,s.heap.get? p=some o/\o.ExactDict:=by
     rcases hk with ⟨kvs,hk⟩ | ⟨kvs,hk⟩
     . obtain ⟨_,_,_,_,o,_,_,e,ex,_⟩:=I.hok p _ hk
       exact ⟨o,e,ex⟩
     . obtain ⟨_,_,_,_,o,_,_,e,ex,_⟩:=I.hok p _ hk
       exact ⟨o,e,ex⟩
    obtain ⟨o,e,ex⟩:=z
    refine ⟨⟨o,e,ex.1⟩,fun a e2=>?_⟩
    cases e2
    exact ⟨o,e,ex.2.1⟩
  . obtain ⟨o,_,_,_,e,ex,_⟩:=I.hok p _ hk
    refine ⟨⟨o,e,ex.1⟩,fun a e2=>?_⟩
    cases e2
    exact ⟨o,e,ex.2.1⟩
 | _=>exact False.elim ty
noncomputable def zxa (K:Frag) (T:String) (r:V->List V->Hp->VK->Prop) (to:TE):TE:=fun U H Q=>to U H fun x H1=>tyV K T x H1/\r x [] H1 Q
noncomputable def tBM (K:Frag) (T:String) (r:V->List V->Hp->VK->Prop) (to:TE) (t:TA):TE:=fun U H Q=>to U H fun x H1=>tyV K T x H1/\t U H1 fun xs H2=>r x xs H2 Q
variable {o e:Expr} {es:List Expr} {to:TE} {t:TA} {name:Str} {apos cpos:Pos} {T id:String} {r:V->List V->Hp->VK->Prop}
theorem zrg (pa:PlainAttrs T) (slot:Slot T name id) (hty:typeOf (.builtin id)=pure (.type "method_descriptor")) (hm:MtR X id r) (ho:PE X o to)
  (hbase:attributeBase o name X.env (eval o X.env)=eval o X.env:=by rfl) (hline:(apos.endLine==cpos.line)=true:=by rfl):PE X (.Call (.Attribute o name apos) [] [] cpos) (zxa X.K T r to):=by
 intro pins s U H Q I h
 refine wpAny_Call_method0_late hbase hline (thn (ho pins s U H _ I h) fun v s1 ⟨x,H1,I1,r1,ty,q1⟩=>?_)
 obtain ⟨h1,h2⟩:=zlb I1 r1 ty
 exact ⟨T,id,pa,slot,hty,h1,h2,Calls.callWith_builtin rfl (PySem.evalArgs_none (hm pins s1 U H1 x [] v [] Q I1 r1 .nil q1))⟩
theorem zrh (pa:PlainAttrs T) (slot:Slot T name id) (hty:typeOf (.builtin id)=pure (.type "method_descriptor")) (hm:MtR X id r) (ho:PE X o to) (ha:PA X (e::es) t)
  (hbase:attributeBase o name X.env (eval o X.env)=eval o X.env:=by rfl)
  (hfew:((backTo cpos (starEach (e::es) X.env)).all (fun x=>!x.1)&&(backToKw cpos (keywordEach [] X.env)).all (fun x=>x.1.isSome)
   && decide ((e::es).length+([]:List Keyword).length+(if ([]:List Keyword).isEmpty then 0 else 1)<30))=true:=by rfl)
  (hline:(apos.endLine==cpos.line)=true:=by rfl) (hs:starEach (e::es) X.env=(false,eval e X.env)::starEach es X.env:=by rfl) (hplain:(backTo cpos (starEach es X.env)).any (·.1)=false:=by rfl) :
  PE X (.Call (.Attribute o name apos) (e::es) [] cpos) (tBM X.K T r to t):=by
 intro pins s U H Q I h
 refine wpAny_Call_method_late hbase hfew hline rfl (thn (ho pins s U H _ I h) fun v s1 ⟨x,H1,I1,r1,ty,q1⟩=>?_)
 obtain ⟨h1,h2⟩:=zlb I1 r1 ty
 refine ⟨T,id,pa,slot,hty,h1,h2,?_⟩
 have hA:=ha cpos pins s1 U H1 _ I1 q1
 rw [hs] at hA ⊢
 refine Calls.callWith_builtin (by show (false||(backTo cpos (starEach es X.env)).any (·.1))=false;rw [hplain]<;>rfl) (Calls.evalArgs_plain ?_)
 exact thn hA fun us s2 ⟨vs,H2,I2,r2,q2⟩=>hm pins s2 U H2 x vs v us Q I2 r1 r2 q2
end
def MtM (X:Cx) (id:String) (r:V->List V->Hp->VK->Prop):Prop:=
 ∀(pins:List (Addr×Obj)) (s:Shared) (U:St) (H:Hp) (x:V) (xs:List V) (v:Value) (us:List Value) (Q:VK),Inv X pins U H s->RelV x v->Vals xs us->r x xs H Q ->
  wpAny (model X.prog X.w) X.A (call (.builtin id) (v::us)) (EP X pins U Q) X.xe s
theorem Vals.one:∀{x:V} {us:List Value},Vals [x] us->∃u,us=[u]/\RelV x u
 | _,_,.cons r .nil=>⟨_,rfl,r⟩
theorem Vals.zero:∀{us:List Value},Vals [] us->us=[]
 | _,.nil=>rfl
theorem Vals.dropLast {xs:List V} {us:List Value} (h:Vals xs us):Vals xs.dropLast us.dropLast:=by
 induction h with
 | nil=>exact .nil
 | cons r t ih=>
  cases t with
  | nil=>exact .nil
  | cons q t'=>exact .cons r ih
theorem zer {α:Type} (l:List α):l.eraseIdx (l.length - 1)=l.dropLast:=by
 induction l with
 | nil=>rfl
 | cons a r ih=>
  cases r with
  | nil=>rfl
  | cons b r=>
   have e:(a::b::r).length - 1=((b::r).length - 1)+1:=by
    have h1:(a::b::r).length=r.length+2:=rfl
    have h2:(b::r).length=r.length+1:=rfl
    lia
   rw [e,List.eraseIdx_cons_succ,ih]
   all_goals rfl
section
variable {X:Cx} {pins:List (Addr×Obj)} {U:St} {H:Hp} {s:Shared} {l:Addr} {xs ys:List V}
theorem Inv.lset {its its':List Value} {n:Nat} {f:Array Value->Array Value} {t':Nat} (I:Inv X pins U H s) (hH:H l=some (.lst xs))
  (e:s.heap.get? l=some { cls:=.type "list",data:=.seq its.toArray n }) (hf:f its.toArray=its'.toArray) (hv:Vals ys its') (hz:ys.length<=sizeLine) :
  Inv X pins U (upd H l (.lst ys)) { s with heap:=s.heap.update l (Obj.mapSeq f),toks:=t' }:=by
 have q:=PySem.IsL.update e f
 rw [hf] at q
 refine I.write (x:=l) (e:=l) (by rw [hH];exact trivial) (.inl rfl) (fun b' u hb hu=>(Heap.get?_update_other s.heap (Obj.mapSeq f) (Ne.symm hb)).trans hu) ⟨_,q⟩ ?_
 exact ⟨hz,its',_,hv,q⟩
theorem Inv.lnew {its:List Value} {t':Nat} (I:Inv X pins U H s) (hv:Vals ys its) (hz:ys.length<=sizeLine) :
  Inv X pins U (upd H s.heap.objs.size (.lst ys)) { s with heap:=s.heap.push { cls:=.type "list",data:=.seq its.toArray },toks:=t' }:=
 I.laid (fun _ _ q=>Heap.get?_push_of_some _ q) (Nat.le_refl _) ⟨hz,its,0,hv,Heap.get?_push_size _ rfl⟩
theorem Inv.fresh (I:Inv X pins U H s):H s.heap.objs.size=none:=I.hok.fresh (Nat.le_refl _)
theorem Inv.lstM (I:Inv X pins U H s) (hH:H l=some (.lst xs)):xs.length<=sizeLine/\∃(its:List Value) (n:Nat),Vals xs its/\xs.length=its.length/\s.heap.get? l=some { cls:=.type "list",data:=.seq its.toArray n }:=by
 obtain ⟨z,its,n,r,e⟩:=I.hok l _ hH
 exact ⟨z,its,n,r,r.length,e⟩
end
section
variable {X:Cx}
def z5h:V->List V->Hp->VK->Prop:=fun x vs H Q=>∃l xs y,x=.ref l/\vs=[y]/\H l=some (.lst xs)/\xs.length<sizeLine/\Q .non (upd H l (.lst (xs++[y])))
theorem z1f:MtM X "list.append" z5h:=by
 intro pins s U H x vs v us Q I rx rv h
 obtain ⟨l,xs,y,rfl,rfl,hH,hz,q⟩:=h
 cases rx
 obtain ⟨u,rfl,ru⟩:=rv.one
 obtain ⟨z,its,n,r,hl,e⟩:=I.lstM hH
 refine call_meets F.slot_list_append ⟨_,e,rfl⟩ F.entry_list_append (F.args_list_append_2 _ _) (PySem.list_append l its.toArray n u (by rw [List.size_toArray];lia)) ⟨e,?_⟩
 refine ⟨.non,_,I.lset (its':=its++[u]) hH e (by simp) (r.append (.cons ru .nil)) ?_,rfl,q⟩
 rw [List.length_append,List.length_singleton]
 lia
def y08:V->List V->Hp->VK->Prop:=fun x vs H Q=>∃l xs y,x=.ref l/\vs=[]/\H l=some (.lst xs)/\xs[xs.length - 1]?=some y/\Q y (upd H l (.lst xs.dropLast))
theorem zri:MtM X "list.pop" y08:=by
 intro pins s U H x vs v us Q I rx rv h
 obtain ⟨l,xs,y,rfl,rfl,hH,hy,q⟩:=h
 cases rx
 have hus:=rv.zero
 subst hus
 obtain ⟨z,its,n,r,hl,e⟩:=I.lstM hH
 obtain ⟨u,hu,ru⟩:=r.get hy
 have hy':its.toArray[its.toArray.size - 1]?=some u:=by
  show its.toArray[its.length - 1]?=some u
  rw [<-Array.getElem?_toList,<-hl]
  exact hu
 refine call_meets F.slot_list_pop ⟨_,e,rfl⟩ F.entry_list_pop (F.args_list_pop_1 _) (MeetsSeq.list_pop_last l its.toArray n u hy' (by rw [List.size_toArray];omega)) ⟨e,?_⟩
 refine ⟨y,_,I.lset (its':=its.dropLast) hH e ?_ r.dropLast ?_,ru,q⟩
 . show its.toArray.eraseIdxIfInBounds (its.toArray.size - 1)=its.dropLast.toArray
   rw [List.size_toArray,List.eraseIdxIfInBounds_toArray,zer]
 . rw [List.length_dropLast]
   omega
noncomputable def y09:R2:=fun x y H Q=>∃l b xs zs,x=.ref l/\y=.ref b/\H l=some (.lst xs)/\H b=some (.lst zs)/\xs.length+zs.length<=sizeLine/\∀p,H p=none->Q (.ref p) (upd H p (.lst (xs++zs)))
theorem z8g:OpR X (binaryOp .Add) y09:=by
 intro pins s U H x y v u Q I rx ry h
 obtain ⟨l,b,xs,zs,rfl,rfl,hH,hB,hz,q⟩:=h
 cases rx
 cases ry
 obtain ⟨z,its,n,r,hl,e⟩:=I.lstM hH
 obtain ⟨z2,its2,n2,r2,hl2,e2⟩:=I.lstM hB
 refine PySem.P.add_list e e2 ?_ (by rw [List.size_toArray,List.size_toArray];omega)
 have ea:its.toArray++its2.toArray=(its++its2).toArray:=by simp
 rw [ea]
 exact ⟨.ref _,_,I.lnew (t':=s.toks) (r.append r2) (by rw [List.length_append];omega),rfl,q _ I.fresh⟩
end
section
variable {κ:Type} [DecidableEq κ]
noncomputable def zde (kvs:List (κ×V)) (k:κ):Option V:=(kvs.find? fun kv=>decide (kv.1=k)).map (·.2)
noncomputable def zrj (kvs:List (κ×V)) (k:κ):List (κ×V):=kvs.filter fun kv=>decide (kv.1≠k)
theorem zdf {p:κ×V} {r:List (κ×V)} {k:κ} (e:p.1=k):zde (p::r) k=some p.2:=by simp [zde,List.find?_cons,e]
theorem zdg {p:κ×V} {r:List (κ×V)} {k:κ} (e:¬p.1=k):zde (p::r) k=zde r k:=by simp [zde,List.find?_cons,e]
theorem RelO.isSome_eq {o:Option V} {u:Option Value} (r:RelO o u):o.isSome=u.isSome:=by
 cases o with
 | none=>cases u with
  | none=>rfl
  | some _=>exact (show False from r).elim
 | some _=>cases u with
  | none=>exact (show False from r).elim
  | some _=>rfl
theorem RelO.getD {o:Option V} {u:Option Value} {d:V} {d':Value} (r:RelO o u) (rd:RelV d d'):RelV (o.getD d) (u.getD d'):=by
 cases o with
 | none=>cases u with
  | none=>exact rd
  | some _=>exact (show False from r).elim
 | some _=>cases u with
  | none=>exact (show False from r).elim
  | some _=>exact r
theorem KV.val {kvs:List (κ×V)} {vs:List (κ×Value)} (r:KV kvs vs) (k:κ):RelO (zde kvs k) (valueAt vs k):=by
 unfold KV at r
 induction r with
 | nil=>exact True.intro
 | @cons p q ps qs h t ih=>
  obtain ⟨h1,h2⟩:=h
  by_cases e:p.1=k
  . have e':q.1=k:=h1.symm.trans e
    have b:valueAt (q::qs) k=some q.2:=by simp [valueAt,List.find?_cons,e']
    rw [zdf e,b];exact h2
  . have e':¬q.1=k:=fun z=>e (h1.trans z)
    have b:valueAt (q::qs) k=valueAt qs k:=by simp [valueAt,List.find?_cons,e']
    rw [zdg e,b];exact ih
theorem KV.any {kvs:List (κ×V)} {vs:List (κ×Value)} (r:KV kvs vs) (k:κ):(kvs.any fun kv=>decide (kv.1=k))=vs.any fun kv=>decide (kv.1=k):=by
 unfold KV at r
 induction r with
 | nil=>rfl
 | cons h t ih=>rw [List.any_cons,List.any_cons,ih,h.1]
theorem KV.drop {kvs:List (κ×V)} {vs:List (κ×Value)} (r:KV kvs vs) (k:κ):KV (zrj kvs k) (without vs k):=by
 unfold KV at r ⊢
 unfold zrj without
 induction r with
 | nil=>exact .nil
 | @cons p q ps qs h t ih=>
  obtain ⟨h1,h2⟩:=h
  rw [List.filter_cons,List.filter_cons]
  by_cases e:p.1=k
  . have a:¬decide (p.1≠k)=true:=by simp [e]
    have b:¬decide (q.1≠k)=true:=by simp [h1.symm.trans e]
    rw [if_neg a,if_neg b];exact ih
  . have e':¬q.1=k:=fun z=>e (h1.trans z)
    have a:decide (p.1≠k)=true:=by simp [e]
    have b:decide (q.1≠k)=true:=by simp [e']
    rw [if_pos a,if_pos b];exact .cons ⟨h1,h2⟩ ih
theorem KV.length {kvs:List (κ×V)} {vs:List (κ×Value)} (r:KV kvs vs):kvs.length=vs.length:=Paired.length r
end
theorem znd {P:Program} {w:World} {k:Key} {u:Value} (r:RelV (kV k) u):(z2h P w).is k u=true:=by
 cases k with
 | inl i=>obtain ⟨t,e⟩:=(show ∃t,u=Value.int i t from r);subst e;exact zbv P w i t
 | inr x=>obtain ⟨t,e⟩:=(show ∃t,u=Value.str x t from r);subst e;exact zbw P w x t
theorem zao {P:Program} {w:World}:∀{ks:List Key} {us:List Value},Vals (ks.map kV) us->ItemsAre (z2h P w) ks us
 | [],_,r=>by rw [List.map_nil] at r;cases r;exact .nil
 | k::ks,_,r=>by
  rw [List.map_cons] at r
  cases r with
  | cons h t=>exact .cons (znd h) (zao t)
abbrev KT (H:Hp):List (List Key×V)->List (List Key×Addr×Value)->Prop:=Paired fun p q=>p.1=q.1/\H q.2.1=some (.tup (p.1.map kV))/\RelV p.2 q.2.2
theorem KT.val {H:Hp} {kvs:List (List Key×V)} {xs:List (List Key×Addr×Value)} (r:KT H kvs xs) (k:List Key):RelO (zde kvs k) ((atKey xs k).map (·.2)):=by
 induction r with
 | nil=>exact True.intro
 | @cons p q ps qs h t ih=>
  obtain ⟨h1,_,h2⟩:=h
  by_cases e:p.1=k
  . have e':q.1=k:=h1.symm.trans e
    have b:atKey (q::qs) k=some q.2:=by simp [atKey,List.find?_cons,e']
    rw [zdf e,b];exact h2
  . have e':¬q.1=k:=fun z=>e (h1.trans z)
    have b:atKey (q::qs) k=atKey qs k:=by simp [atKey,List.find?_cons,e']
    rw [zdg e,b];exact ih
section
variable {P:Program} {w:World} {H:Hp} {h:Heap} {a:Addr}
theorem zrk {u:HO} (ok:HOk P w H h) (e:Rd H a u):ObjOk P w H h a u:=e.ok ok
theorem zjc {kvs:List (Key×V)} (ok:HOk P w H h) (e:Rd H a (.dK kvs)):kvs.length<=sizeLine/\(a==sysModules)=false/\∃vs,KV kvs vs/\h.DictOf (z2h P w) a vs:=
 show ObjOk P w H h a (.dK kvs) from zrk ok e
theorem zg1 {ks:List Key} (ok:HOk P w H h) (e:H a=some (.tup (ks.map kV))):(tupleKind (z2h P w)).is h ks a:=by
 obtain ⟨_,its,r,o,h1,h2,⟨n,h3⟩,_⟩:=(show ObjOk P w H h a (.tup (ks.map kV)) from ok a _ e)
 exact ⟨o,its.toArray,n,h1,h2,h3,by simpa using zao r⟩
theorem zne {kvs:List (List Key×V)} (ok:HOk P w H h) (e:Rd H a (.dT kvs)):kvs.length<=sizeLine/\(a==sysModules)=false /\
  ∃xs,KT H kvs xs/\h.DictOfH (tupleKind (z2h P w)) a xs:=by
 obtain ⟨z,y,xs,r,o,es,ep,h1,h2,h3,h4,h5⟩:=(show ObjOk P w H h a (.dT kvs) from zrk ok e)
 refine ⟨z,y,xs,r,o,es,ep,h1,h2,h3,h4,fun x hx=>?_,h5⟩
 have all:∀{l:List (List Key×V)} {m:List (List Key×Addr×Value)},KT H l m->∀x∈m,(tupleKind (z2h P w)).is h x.1 x.2.1:=by
  intro l m q
  induction q with
  | nil=>intro x hx;exact nomatch hx
  | @cons p q ps qs hq t ih=>
   intro x hx
   rcases List.mem_cons.mp hx with e | hx
   . subst e
     exact zg1 ok (by rw [<-hq.1];exact hq.2.1)
   . exact ih x hx
 exact all r x hx
end
def DGet (H:Hp) (a:Addr) (y:V) (r:Option V):Prop:=
 (∃kvs k,Rd H a (.dK kvs)/\y=kV k/\r=zde kvs k)\/∃kvs k b,Rd H a (.dT kvs)/\y=.ref b/\H b=some (.tup (k.map kV))/\r=zde kvs k
theorem DGet.k {H:Hp} {a:Addr} {kvs:List (Key×V)} {k:Key} (e:H a=some (.dK kvs)):DGet H a (kV k) (zde kvs k):=.inl ⟨kvs,k,.inl e,rfl,rfl⟩
theorem DGet.t {H:Hp} {a b:Addr} {kvs:List (List Key×V)} {k:List Key} (e:H a=some (.dT kvs)) (eb:H b=some (.tup (k.map kV))):DGet H a (.ref b) (zde kvs k):=.inr ⟨kvs,k,b,.inl e,rfl,eb,rfl⟩
section
variable {X:Cx} {pins:List (Addr×Obj)} {U:St} {H:Hp} {s:Shared} {a:Addr} {y v:V} {u:Value} {o:Option V} {A:Around} {E:Value->Shared->Prop}
theorem Inv.big (I:Inv X pins U H s):sysModules<s.heap.objs.size:=by
 have h:mainGlobals<s.heap.objs.size:=(I.mod.glob.keeps I.bk).lt
 exact Nat.lt_trans (by decide) h
theorem zg2 {Q:Value->Shared->Prop} (hu:A.units+1<cLine) (I:Inv X pins U H s) (g:DGet H a y (some v)) (ry:RelV y u) (h:∀w' s',Inv X pins U H s'->RelV v w'->Q w' s') :
  wpAny (model X.prog X.w) A (getItem (.ref a) u) Q E s:=by
 rcases g with ⟨kvs,k,e,ey,l⟩ | ⟨kvs,k,b,e,ey,eb,l⟩
 . subst ey
   obtain ⟨z,hd,vs,rel,dd⟩:=zjc I.hok e
   obtain ⟨w',hw,rw'⟩:=RelO.some_of (v:=v) (o:=valueAt vs k) (by rw [l];exact rel.val k)
   exact wpAny_getItem_of (znd ry) dd.mapOf hw (h w' _ (I.tok _) rw')
 . subst ey
   cases (show u=Value.ref b from ry)
   obtain ⟨z,hd,xs,rel,dd⟩:=zne I.hok e
   obtain ⟨w',hw,rw'⟩:=RelO.some_of (v:=v) (o:=(atKey xs k).map (·.2)) (by rw [l];exact rel.val k)
   obtain ⟨p,hp,hp2⟩:=Option.map_eq_some_iff.mp hw
   refine wpAny_getItem_heap (tupleKind_room_in1 hu) (zg1 I.hok eb) dd hp ?_
   rw [hp2]
   exact h w' _ (I.tok _) rw'
theorem znf {Q:Value->Shared->Prop} (hu:A.units+1<cLine) (I:Inv X pins U H s) (g:DGet H a y o) (ry:RelV y u) (h:∀s',Inv X pins U H s'->Q (.bool (!o.isSome)) s') :
  wpAny (model X.prog X.w) A (compareOp .NotIn u (.ref a)) Q E s:=by
 rcases g with ⟨kvs,k,e,ey,l⟩ | ⟨kvs,k,b,e,ey,eb,l⟩
 . subst ey
   obtain ⟨z,hd,vs,rel,dd⟩:=zjc I.hok e
   refine wpAny_notIn_of (znd ry) hd dd.mapOf ?_
   rw [<-(rel.val k).isSome_eq,<-l]
   exact h _ (I.tok _)
 . subst ey
   cases (show u=Value.ref b from ry)
   obtain ⟨z,hd,xs,rel,dd⟩:=zne I.hok e
   refine wpAny_notIn_heap (tupleKind_room_in1 hu) (zg1 I.hok eb) hd dd ?_
   have q:=(rel.val k).isSome_eq
   rw [Option.isSome_map] at q
   rw [<-q,<-l]
   exact h _ (I.tok _)
end
section
variable {X:Cx} {pins:List (Addr×Obj)} {U:St} {H:Hp} {s:Shared} {a:Addr} {kvs:List (Key×V)} {A:Around} {E:Value->Shared->Prop}
theorem zxb {Q:Value->Shared->Prop} (I:Inv X pins U H s) (e:Rd H a (.dK kvs)) (h:∀t s',Inv X pins U H s'->Q (.int kvs.length t) s'):wpAny (model X.prog X.w) A (call (.builtin "len") [.ref a]) Q E s:=by
 obtain ⟨z,hd,vs,rel,dd⟩:=zjc I.hok e
 refine call_len_dict hd dd (by rw [<-rel.length];rw [sizeLine_eq] at z;lia) ?_
 rw [<-rel.length]
 exact h _ _ (I.tok _)
end
theorem zc2 {X:Cx} {pins:List (Addr×Obj)} {U:St} {H:Hp} {s:Shared} {a:Addr} {y:V} {o:Option V} (I:Inv X pins U H s) (g:DGet H a y o):s.TypeIs (.ref a) "dict":=by
 rcases g with ⟨kvs,k,e,_,_⟩ | ⟨kvs,k,b,e,_,_,_⟩
 . obtain ⟨_,_,vs,_,dd⟩:=zjc I.hok e
   exact dd.typeIs
 . obtain ⟨_,_,xs,_,dd⟩:=zne I.hok e
   exact dd.typeIs
end L2
namespace Att
open PySem PySem.W PySem.Calls PyProof.Rows
theorem z72 {P:Params} {h:Heap}:∀(ns:List Int) (vs:List Value),WellAll P h vs (ns.map WData.int)->IntsAre vs ns:=by
 intro ns
 induction ns with
 | nil=>
  intro vs w
  rw [List.map_nil] at w
  cases w
  exact .nil
 | cons n ns ih=>
  intro vs w
  rw [List.map_cons] at w
  cases w with
  | cons a b=>
   cases a
   exact .cons _ _ (ih _ b)
theorem zg3 {l:OpenLaw} {n:Nat} (hn:l.most=some n) {P:Params} {h:Heap} {args:List WData} {vals:List Value}
  (hpre:l.row.toRowW.claim.pre args=true) (hwl:WellAll P h vals args) :
  ∃a vs ns,vals=[Value.ref a]/\args=[WData.list (ns.map WData.int)]/\h.get? a=some { cls:=.type "list",data:=.seq vs.toArray }/\IntsAre vs ns/\ns.length<=n:=by
 have hsh:WShape.hasAll [] args [.list .int]=true:=(pre_splitW hpre).1
 have hc:l.pre.holds [] { args:=args }=true:=(pre_splitW hpre).2
 obtain ⟨d,r,rfl,h1,h2⟩:=hasAllW_cons hsh
 obtain rfl:=hasAllW_nil h2
 obtain ⟨xs,rfl,h3⟩:=hasW_list h1
 obtain ⟨ns,rfl⟩:=items_int h3
 have hlen:ns.length<=n:=by
  unfold OpenLaw.pre at hc
  have h4:(WTm.not (.lt (.lit (.int (n:Int))) (.len (.arg 0)))).holds [] { args:=[.list (ns.map .int)] }=true:=by
   have h4:=(holds_andW hc).1
   rw [hn] at h4
   exact h4
  have h5:=condW_of h4 (w_not (w_lt w_lit (w_len_list (w_arg rfl))))
  rw [List.length_map] at h5
  refine Nat.le_of_not_lt fun q=>?_
  have q':(n:Int)<((ns.length:Nat):Int):=by omega
  first
   | (rw [decide_eq_true q'] at h5;exact absurd h5 (by decide))
   | (simp at h5;omega)
 cases hwl with
 | cons w1 w2=>
  cases w2
  cases w1 with
  | list ho hall=>exact ⟨_,_,ns,rfl,rfl,ho,z72 ns _ hall,hlen⟩
theorem zg4 (l:OpenLaw) (args:List WData):l.row.toRowW.claim.post args (.bool true) args=true:=
 postW_of (r:=l.row.toRowW) (X:=(true==true))
  (show WShape.has [] (.bool true) .bool=true by first | rfl | decide | simp [WShape.has,WShape.arms,WShape.armsAll])
  (show (WTm.eq .res (.lit (.bool true))).value [] { args:=args,res:=some (.bool true),after:=args }=some (.bool (true==true)) from w_eq_bool (w_res rfl) w_lit) rfl
theorem attach_call {l:OpenLaw} {n:Nat} {q:Program} {loose:List Str} {XP:(Str->Option Value)->Heap->Prop} {YP:World->Heap->Prop} {d:DefRec}
  (hn:l.most=some n) (hdf:d.params.defaults=[])
  (call:∀(w:World) (s₀ s₁:Shared) (mg mb:Str->Option Value) (fa:Addr) (o:Obj) (pm cd doc:Value) (a:Addr) (vs:List Value) (ns:List Int),
   Ground q loose [] XP w s₀ mg mb s₁.heap->YP w s₁.heap ->
   s₁.heap.get? fa=some o->o.data=.func (docDef d.name d.params d.body d.scope pm cd doc)->s₁.heap.CodeRec cd d.name->mg d.name=some (.ref fa) ->
   s₁.heap.get? a=some { cls:=.type "list",data:=.seq vs.toArray }->IntsAre vs ns->ns.length<=n->s₁.gens=#[] ->
   codeAny (model l.prog w) callerA (.call (.ref fa) ⟨[.ref a],[]⟩) (fun r s'=>r=.ok (.ret (.bool true))/\OldK s₁.heap s'.heap/\s'.os=s₁.os/\AllBare s'.gens) s₁) :
  WalkO q loose XP YP l.row.toRowW d [] (fun f vs=>PySem.call f vs):=by
 intro w s₀ s₁ mg mb G Y fa o pm cd doc dV kV ho hd hcd hD hmg hg args vals as hpre hlay hrd hwl hlo
 obtain rfl:dV=.none:=Dflts.none hD hdf
 obtain rfl:kV=.none:=Dflts.noKw hD
 obtain ⟨a,vs,ns,rfl,rfl,hobj,hints,hlen⟩:=zg3 hn hpre hwl
 refine enter_call (codeAny_mono (call w s₀ s₁ mg mb fa o pm cd doc a vs ns G Y ho (fd_plain hd) hcd hmg hobj hints hlen hg) fun r s' hq=>?_)
 obtain ⟨rfl,h2,h3,h4⟩:=hq
 exact ⟨.inl ⟨.bool true,.bool true,[],rfl,fun _=>rfl,.bool true,zg4 l _,fun _=>⟨List.Pairwise.nil,fun _ hm=>(nomatch hm)⟩⟩,h2,h3,h4⟩
section
def noObjs (h:Heap):Heap:={ h with objs:=#[] }
theorem noObjs_get (h:Heap) (b:Addr):(noObjs h).get? b=none:=by
 cases e:(noObjs h).get? b with
 | none=>rfl
 | some o=>exact absurd (Heap.lt_size e) (Nat.not_lt_zero _)
theorem fr_all {h:Heap} {L:Addr} {m:Str->Option Value} (n:h.Ns L m):Fr (noObjs h) L h m:=
 ⟨n,fun b o e=>(by rw [noObjs_get] at e;cases e),Nat.zero_le _⟩
end
end Att
namespace L2
open PySem PySem.Spec PyProof.Rows
theorem z73:∀{vs:List Value} {ns:List Int},IntsAre vs ns->Vals (ns.map V.int) vs
 | _,_,.nil=>.nil
 | _,_,.cons n t h=>.cons ⟨t,rfl⟩ (z73 h)
def zwj (H:Hp):Prop:=∀b,H b=none\/∃o xs,H b=some (.frz o (.lst xs))
theorem zjd {P:Program} {w:World} {K:Frag} {mg mb:Str->Option Value} {CX:CXT} {k:Nat} {fa a:Addr} {fd:FuncData} {x:Str} {sp:Sp} {s₁:Shared} {vs:List Value} {ns:List Int}
  (KX:K.In s₁.heap) (hns:s₁.heap.Ns mainGlobals mg) (hb:s₁.heap.Ns builtinsNs mb) (hbb:∀x:Str,x≠"__name__"->mb x=bootBuiltins x) (hlim:s₁.heap.NoLimit) (hg:s₁.gens=#[])
  (ha:s₁.heap.get? a=some { cls:=.type "list",data:=.seq vs.toArray }) (hi:IntsAre vs ns) (hl:ns.length<=sizeLine) (hr:Room k callerA)
  (F:∀base:Heap,K.In base->base.Ns mainGlobals mg->FnOk P w K mg base CX k fa fd [x] sp) (hbind:∀(s:Shared) (u:Value),BindsTo s fd ⟨[u],[]⟩ [(x,u)])
  (hsp:∀H:Hp,zwj H->SqL K H a (ns.map V.int)->sp [.ref a] H (fun v _=>v=.bl true) fun _ _ _=>False)
  (hCX:∀H e s',CX [] H s₁ (fun _ _ _=>False) e s'->False) :
  codeAny (model P w) callerA (.call (.ref fa) ⟨[.ref a],[]⟩) (fun r s'=>r=.ok (.ret (.bool true))/\OldK s₁.heap s'.heap/\s'.os=s₁.os/\AllBare s'.gens) s₁:=by
 have rv:=z73 hi
 have lenV:=hi.length
 have core:∀H:Hp,zwj H->SqL K H a (ns.map V.int)->HOk P w H s₁.heap->(∀b,H b≠none->b=a)->(H a≠none->K.lookup a=none) ->
   codeAny (model P w) callerA (.call (.ref fa) ⟨[.ref a],[]⟩) (fun r s'=>r=.ok (.ret (.bool true))/\OldK s₁.heap s'.heap/\s'.os=s₁.os/\AllBare s'.gens) s₁:=by
  intro H hO hS hok hA hK
  have base_of:∀{b:Addr} {o:Obj},s₁.heap.get? b=some o->H b=none->(zj4 s₁.heap H).get? b=some o:=fun e n=>zj5 e n
  have noA:∀{b:Addr} {o:Obj} {es:Array DictEntry} {ep:Nat},s₁.heap.get? b=some o->o.data=.dict es ep->H b=none:=fun {b o es ep} e d=>by
   cases q:H b with
   | none=>rfl
   | some u=>
    have e':b=a:=hA b (by rw [q];simp)
    subst e'
    rw [ha] at e;cases e
    have d':Data.seq vs.toArray _=Data.dict es ep:=d
    cases d'
  have nsK:∀{b:Addr} {m:Str->Option Value},s₁.heap.Ns b m->(zj4 s₁.heap H).Ns b m:=fun {b m} ⟨o,es,ep,e,d,r⟩=>⟨o,es,ep,base_of e (noA e d),d,r⟩
  have hKb:K.In (zj4 s₁.heap H):=fun b o e=>base_of (KX b o e) (by
   cases q:H b with
   | none=>rfl
   | some u=>
    have e':b=a:=hA b (by rw [q];simp)
    subst e'
    rw [hK (by rw [q];simp)] at e;cases e)
  have hM:Mod K mg (zj4 s₁.heap H):=⟨hKb,nsK hns,⟨mb,nsK hb,hbb⟩,let ⟨mc,h1,h2⟩:=hlim;⟨mc,nsK h1,h2⟩⟩
  have e0:Env0 P w K mg (zj4 s₁.heap H) callerA [] s₁ H:=⟨rfl,hM,fun b o e=>zn1 e,Nat.le_of_eq (zfp _ _),trivial,fun b hb=>absurd (show b∈([]:List Addr) from hb) (by simp),hok,.of_eq hg⟩
  refine codeAny_mono ((F _ hKb (nsK hns)).run callerA [] s₁ H ⟨[.ref a],[]⟩ [.ref a] [.ref a] _ _ hr e0 (hbind s₁ (.ref a)) (.cons rfl .nil) (hsp H hO hS)) fun r s' h=>?_
  cases r with
  | error e=>exact (hCX H e s' h).elim
  | ok fl=>
   cases fl with
   | next=>exact False.elim h
   | brk=>exact False.elim h
   | cont=>exact False.elim h
   | ret u=>
    obtain ⟨v,H',os,bare,un,hok',r',q⟩:=h
    have q':v=.bl true:=q
    subst q'
    obtain rfl:u=Value.bool true:=r'
    refine ⟨rfl,OldK.of_keep fun b o e=>?_,os,bare⟩
    cases q:H b with
    | none=>exact un.keep b o e q (by intro z;exact absurd (show b∈([]:List Addr) from z) (by simp)) (by simp)
    | some u=>
     rcases hO b with z | ⟨ob,xs,z⟩
     . rw [q] at z;cases z
     . have z2:=un.frzs b ob _ z
       obtain ⟨e1,_⟩:=hok b _ z
       obtain ⟨e2,_⟩:=hok' b _ z2
       rw [e] at e1;cases e1
       exact e2
 cases hk:K.lookup a with
 | some o=>
  have e:=KX a o hk
  rw [ha] at e
  cases e
  refine core (fun _=>none) (fun _=>.inl rfl) (.inr ⟨_,vs.toArray,_,hk,rfl,rfl,rfl,by rw [List.size_toArray,lenV];exact hl,by simpa using rv⟩) (fun b u z=>by have z':(none:Option HO)=some u:=z;cases z') (fun b z=>absurd rfl z) fun z=>absurd rfl z
 | none=>
  refine core (fun b=>if b=a then some (.frz { cls:=.type "list",data:=.seq vs.toArray } (.lst (ns.map V.int))) else none) (fun b=>?_) (.inl (.inr ⟨{ cls:=.type "list",data:=.seq vs.toArray },if_pos rfl⟩)) (fun b u z=>?_) (fun b z=>?_) fun _=>hk
  . by_cases hb:b=a
    . exact .inr ⟨_,_,if_pos hb⟩
    . exact .inl (if_neg hb)
  . by_cases hb:b=a
    . have z':=(if_pos hb).symm.trans z
      cases z'
      subst hb
      exact ⟨ha,by rw [List.length_map];exact hl,vs,_,rv,ha⟩
    . have z':=(if_neg hb).symm.trans z
      cases z'
  . by_cases hb:b=a
    . exact hb
    . exact absurd (if_neg hb) z
theorem walk_of {l:PySem.W.OpenLaw} {n k:Nat} {q:Program} {loose:List Str} {XP:(Str->Option Value)->Heap->Prop} {YP:World->Heap->Prop} {d:DefRec} {K:Params->Frag} {CX:World->CXT} {sp:World->Sp} {x:Str}
  (hn:l.most=some n) (hn2:n<=sizeLine) (hdf:d.params.defaults=[]) (hr:Room k callerA)
  (hY:∀(w:World) (h:Heap),YP w h->(K w.params).In h)
  (F:∀(w:World) (mg:Str->Option Value) (fa:Addr) (h:Heap),(K w.params).In h->h.Ns mainGlobals mg->mg d.name=some (.ref fa) ->
   ∃fd:FuncData,(∀(s:Shared) (u:Value),BindsTo s fd ⟨[u],[]⟩ [(x,u)]) /\
    ∀base:Heap,(K w.params).In base->base.Ns mainGlobals mg->FnOk l.prog w (K w.params) mg base (CX w) k fa fd [x] (sp w))
  (hsp:∀(w:World) (H:Hp) (a:Addr) (ns:List Int),ns.length<=n->zwj H->SqL (K w.params) H a (ns.map V.int)->sp w [.ref a] H (fun v _=>v=.bl true) fun _ _ _=>False)
  (hCX:∀(w:World) (H:Hp) (s:Shared) (e:Value) (s':Shared),CX w [] H s (fun _ _ _=>False) e s'->False) :
  PySem.W.WalkO q loose XP YP l.row.toRowW d [] (fun f vs=>PySem.call f vs):=by
 refine Att.attach_call hn hdf fun w s₀ s₁ mg mb fa o pm cd doc a vs ns G Y ho hd hcd hmg hobj hints hlen hg=>?_
 have KX:=hY w _ Y
 obtain ⟨fd,hb,hF⟩:=F w mg fa _ KX G.T.g hmg
 exact zjd KX G.T.g G.T.b G.T.builtins G.T.nolimit hg hobj hints (Nat.le_trans hlen hn2) hr hF hb (fun H hO hS=>hsp w H a ns hlen hO hS) fun H e s'=>hCX w H s₁ e s'
noncomputable def z3a (s:Stmt):Arguments:=match s with
 | .FunctionDef _ a _ _ _ _ _ _ _ _=>a
 | _=>{ posonlyargs:=[],args:=[],vararg:=none,kwonlyargs:=[],kw_defaults:=[],kwarg:=none,defaults:=[] }
noncomputable def z24 (s:Stmt):List Stmt:=match s with
 | .FunctionDef _ _ b _ _ _ _ _ _ _=>b
 | _=>[]
noncomputable def z03 (s:Stmt):Scope:=match s with
 | .FunctionDef _ _ _ _ _ _ sc _ _ _=>sc
 | _=>{ kind:=.function,names:=[],isGenerator:=false,isCoroutine:=false }
abbrev CX0:CXT:=fun _ _ _ _ _ _=>False
structure Fun (K:Frag) (x qual:Str) (st:Stmt) (f:Addr) (fd:FuncData):Prop where
 ex:∃(oc:Value) (od:Option Addr) (kV doc pm:Value) (an:Option Addr) (cdv ct:Value) (osl:Array (Option Value)),
  fd=PySem.W.fnOf x qual (z3a st) (z24 st) (z03 st) .none kV doc pm an cdv ct/\K.lookup f=some ⟨oc,od,.func fd,osl⟩/\codeIn K cdv qual=true
 kp:keepIn K (.ref f)=true
section
variable {P:Program} {w:World} {K:Frag} {mg:Str->Option Value} {base:Heap}
theorem Fun.ok {x qual:Str} {st:Stmt} {f:Addr} {fd:FuncData} {N ps:List Str} {k:Nat} {sp:Sp} (F:Fun K x qual st f fd) (S:FnScope N ps (z03 st)) (len:∀vs H Q E,sp vs H Q E->vs.length=ps.length)
  (hbody:∀(cdv:Value) (A:Around) (outer:List Env) (s:Shared) (H:Hp) (vs:List V) (Q:VK) (E:XK),Room k (A.deeper (envOfC qual (z03 st) s.heap.objs.size f cdv))->sp vs H Q E ->
   ∃t,PSs (zj7 CX0 P w K mg base N qual (z03 st) f cdv A outer s H E).nox (z24 st) t/\t { nx:=fun _ H'=>Q .non H',rt:=Q } (z6z N vs) H):FnOk P w K mg base CX0 (k+1) f fd ps sp:=by
 obtain ⟨oc,od,kV,doc,pm,an,cdv,ct,osl,rfl,lk,hcd⟩:=F.ex
 refine zrb lk hcd S len fun A outer s H vs Q E hr hsp=>?_
 obtain ⟨t,h,q⟩:=hbody cdv A outer s H vs Q E hr hsp
 exact ⟨t,h.nox,q⟩
theorem Fun.binds {x qual:Str} {st:Stmt} {f:Addr} {fd:FuncData} {ps:List Str} (F:Fun K x qual st f fd)
  (h:∀(kV doc pm:Value) (an:Option Addr) (cdv ct:Value) (us:List Value),us.length=ps.length->bindArgs (PySem.W.fnOf x qual (z3a st) (z24 st) (z03 st) .none kV doc pm an cdv ct) ⟨us,[]⟩=pure (ps.zip us)):Binds K fd ps []:=by
 obtain ⟨oc,od,kV,doc,pm,an,cdv,ct,osl,rfl,lk,hcd⟩:=F.ex
 exact .all (h kV doc pm an cdv ct)
theorem zrl {x qual:Str} {st:Stmt} {f:Addr} {oc:Value} {od an:Option Addr} {osl:Array (Option Value)} {kV doc pm cdv ct:Value} (l:K.lookup f=some ⟨oc,od,.func (PySem.W.fnOf x qual (z3a st) (z24 st) (z03 st) .none kV doc pm an cdv ct),osl⟩)
 (c:codeIn K cdv qual=true) (k:keepIn K (.ref f)=true):Fun K x qual st f (PySem.W.fnOf x qual (z3a st) (z24 st) (z03 st) .none kV doc pm an cdv ct):=⟨⟨oc,od,kV,doc,pm,an,cdv,ct,osl,rfl,l,c⟩,k⟩
end
section
variable {X:Cx}
theorem pv (i:Nat) {x:Str} {pos:Pos} (hN:X.N[i]?=some x:=by rfl) (hv:Vis X.env.scope x:=by first | exact .inl rfl | exact .inr (.inl rfl) | exact .inr (.inr rfl)) (hd:(x==("__debug__":Str))=false:=by decide)
 (hcd:(x==("__classdict__":Str))=false:=by decide):PE X (.Name x pos) (zx1 i):=zfq hN hv hd hcd
theorem call_lenD:CallR X (.builtin "len") (fun xs H Q=>∃a kvs,xs=[V.ref a]/\H a=some (.dK kvs)/\Q (.int kvs.length) H):=by
 intro pins s U H xs us Q I r h
 obtain ⟨a,kvs,rfl,ha,q⟩:=h
 obtain ⟨u,rfl,ru⟩:=z4o r
 cases ru
 exact zxb I (.inl ha) fun t s' I'=>⟨.int kvs.length,H,I',⟨t,rfl⟩,q⟩
end
def Same (H H':Hp):Prop:=∀b o,H b=some o->H' b=some o
theorem Same.refl (H:Hp):Same H H:=fun _ _ h=>h
theorem Same.trans {H H1 H2:Hp} (a:Same H H1) (b:Same H1 H2):Same H H2:=fun c o h=>b c o (a c o h)
theorem Same.free {H H':Hp} (e:Same H H') {l:Addr} (h:H' l=Option.none):H l=Option.none:=by
 cases q:H l with
 | none=>rfl
 | some o=>
  rw [e l o q] at h
  cases h
theorem Same.seq {K:Frag} {H H':Hp} {a:Addr} {xs:List V} (e:Same H H') (h:SqL K H a xs):SqL K H' a xs:=by
 rcases h with (h | ⟨o,h⟩) | h
 . exact .inl (.inl (e _ _ h))
 . exact .inl (.inr ⟨o,e _ _ h⟩)
 . exact .inr h
end L2
set_option maxHeartbeats 4000000
namespace L2
open PySem PySem.Spec PyProof.Rows
noncomputable def z16 (cells:List (Str×Addr)):List (Str×NameKind)->List (Str×Addr)->List (Str×Addr)
 | [],acc=>acc
 | (n,k)::r,acc=>z16 cells r (if k==.free then (n,(cells.lookup n).getD 0)::acc else acc)
theorem z4i {cells:List (Str×Addr)} {x:Str} {c:Addr}:∀{names:List (Str×NameKind)} {acc:List (Str×Addr)},
  (∀y∈names,y.2=.free->∃c,cells.lookup y.1=some c)->(∀y c,acc.lookup y=some c->cells.lookup y=some c)->(z16 cells names acc).lookup x=some c->cells.lookup x=some c
 | [],acc,_,ha,h=>ha x c h
 | (n,k)::r,acc,hf,ha,h=>by
  refine z4i (names:=r) (fun y hy=>hf y (List.mem_cons_of_mem _ hy)) (fun y c'=>?_) h
  by_cases hk:k=.free
  . subst hk
    obtain ⟨c0,e0⟩:=hf (n,.free) List.mem_cons_self rfl
    intro e
    have e1:(if (NameKind.free==NameKind.free)=true then (n,(cells.lookup n).getD 0)::acc else acc)=(n,(cells.lookup n).getD 0)::acc:=if_pos (show (NameKind.free==NameKind.free)=true from rfl)
    rw [e1,List.lookup_cons] at e
    cases hyn:y==n with
    | true=>
     rw [hyn] at e
     have e2:y=n:=by simpa using hyn
     subst e2
     have e3:=Option.some.inj e
     have e0':cells.lookup y=some c0:=e0
     rw [e0'] at e3 ⊢
     exact congrArg some e3
    | false=>rw [hyn] at e;exact ha y c' e
  . have e1:(if (k==NameKind.free)=true then (n,(cells.lookup n).getD 0)::acc else acc)=acc:=if_neg (by simpa using hk)
    rw [e1];exact ha y c'
theorem z4q {cells:List (Str×Addr)} {x:Str}:∀{names:List (Str×NameKind)} {acc:List (Str×Addr)},
  ((∃c,acc.lookup x=some c)\/∃y∈names,y.2=.free/\y.1=x)->∃c,(z16 cells names acc).lookup x=some c
 | [],acc,h=>by
  rcases h with h | ⟨y,hy,_⟩
  . exact h
  . cases hy
 | (n,k)::r,acc,h=>by
  refine z4q (names:=r) ?_
  by_cases hk:k=.free
  . subst hk
    have e1:(if (NameKind.free==NameKind.free)=true then (n,(cells.lookup n).getD 0)::acc else acc)=(n,(cells.lookup n).getD 0)::acc:=if_pos (show (NameKind.free==NameKind.free)=true from rfl)
    rw [e1,List.lookup_cons]
    cases hxn:x==n with
    | true=>exact .inl ⟨_,rfl⟩
    | false=>
     rcases h with h | ⟨y,hy,hf,e⟩
     . exact .inl h
     . rcases List.mem_cons.mp hy with z | z
       . subst z
         have e':n=x:=e
         subst e'
         simp at hxn
       . exact .inr ⟨y,z,hf,e⟩
  . have e1:(if (k==NameKind.free)=true then (n,(cells.lookup n).getD 0)::acc else acc)=acc:=if_neg (by simpa using hk)
    rw [e1]
    rcases h with h | ⟨y,hy,hf,e⟩
    . exact .inl h
    . rcases List.mem_cons.mp hy with z | z
      . subst z;exact absurd hf hk
      . exact .inr ⟨y,z,hf,e⟩
theorem z54 {scope:Scope} {env:Env} (hf:∀y∈scope.names,y.2=.free->∃c,env.cells.lookup y.1=some c):closureFor scope env=pure (z16 env.cells scope.names []):=by
 have go:∀(names:List (Str×NameKind)) (acc:List (Str×Addr)),(∀y∈names,y.2=.free->∃c,env.cells.lookup y.1=some c) ->
   (forIn names acc fun x cs=>if (x.2==NameKind.free)=true then do let a <-cellOf env x.1;pure (ForInStep.yield ((x.1,a)::cs)) else pure (ForInStep.yield cs):Sem (List (Str×Addr)))=pure (z16 env.cells names acc):=by
  intro names
  induction names with
  | nil=>intro acc _;rfl
  | cons p r ih=>
   intro acc h
   obtain ⟨n,k⟩:=p
   rw [List.forIn_cons]
   by_cases hk:k=.free
   . subst hk
     obtain ⟨c,e⟩:=h (n,.free) List.mem_cons_self rfl
     have e':env.cells.lookup n=some c:=e
     have e1:cellOf env n=pure c:=by unfold cellOf;rw [e']
     have e2:z16 env.cells ((n,NameKind.free)::r) acc=z16 env.cells r ((n,c)::acc):=by
      show z16 env.cells r (if (NameKind.free==NameKind.free)=true then (n,(env.cells.lookup n).getD 0)::acc else acc)=_
      rw [if_pos (show (NameKind.free==NameKind.free)=true from rfl),e'];rfl
     rw [e2,<-ih _ fun y hy=>h y (List.mem_cons_of_mem _ hy)]
     show ((if (NameKind.free==NameKind.free)=true then do let a <-cellOf env n;pure (ForInStep.yield ((n,a)::acc)) else pure (ForInStep.yield acc)) >>= _:Sem _)=_
     rw [if_pos (show (NameKind.free==NameKind.free)=true from rfl),e1]
     rfl
   . have hk':(k==NameKind.free)=false:=by simpa using hk
     have e2:z16 env.cells ((n,k)::r) acc=z16 env.cells r acc:=by
      show z16 env.cells r (if (k==NameKind.free)=true then _ else acc)=_
      rw [if_neg (by rw [hk'];exact Bool.false_ne_true)]
     rw [e2,<-ih _ fun y hy=>h y (List.mem_cons_of_mem _ hy)]
     show ((if (k==NameKind.free)=true then do let a <-cellOf env n;pure (ForInStep.yield ((n,a)::acc)) else pure (ForInStep.yield acc)) >>= _:Sem _)=_
     rw [if_neg (by rw [hk'];exact Bool.false_ne_true)]
     rfl
 have:=go scope.names [] hf
 unfold closureFor
 simpa using this
theorem zap {prog:Program} {w:World} {A:Around} {R:Result->Shared->Prop} {s:Shared} {elt target iter:Expr} {ifs:List Expr} {scope:Scope} {pos:Pos} {it acc:Value} {env:Env} (I:Nat->Shared->Prop)
  (turn:∀n s,I n s->wpAny (model prog w) A (pyNext it) (fun r s₁=>match r with
   | none=>R (.ok .next) s₁
   | some v=>wpAny (model prog w) A (letOwnedTupleGo target it v) (fun _ s₁'=>wpAny (model prog w) A (assign target env v) (fun _ s₂=>
    wpAny (model prog w) A (forIn ifs true fun c r=>if r=true then do let ok <-isTrue c env (eval c env);pure (ForInStep.yield ok) else pure (ForInStep.yield r)) (fun ok s₃=>
     if ok=true then wpAny (model prog w) A (eval elt env) (fun x s₄=>
      wpAny (model prog w) A (call (.builtin "list.append") [acc,x]) (fun _ s₅=>∃m,m<n/\I m s₅) (fun _ _=>False) s₄) (fun _ _=>False) s₃
     else ∃m,m<n/\I m s₃) (fun _ _=>False) s₂) (fun _ _=>False) s₁') (fun _ _=>False) s₁) (fun _ _=>False) s)
  (n:Nat) (h:I n s) :
  codeAny (model prog w) A (.compLoop (.ListComp elt [⟨target,iter,ifs,0⟩] scope pos) 0 it acc env) R s:=by
 refine codeAny_loop rfl I (fun n s hI=>?_) n h
 show wpAny _ A ((compTurn (.ListComp elt [⟨target,iter,ifs,0⟩] scope pos) 0 it acc env).onRaise (fun x=>do noteFrame x env;theTreesLotGoes x)) _ _ s
 refine wpAny_noted ?_
 rw [compTurn_list]
 refine wpAny_bind (wpAny_standAt (wpAny_bind (wpAny_mono (turn n s hI) (fun r s₁ h₁=>?_) fun _ _ h'=>h'.elim)))
 cases r with
 | none=>exact wpAny_pure h₁
 | some v=>
  refine wpAny_bind (wpAny_mono h₁ (fun _ s₁' h₁'=>?_) fun _ _ h'=>h'.elim)
  refine wpAny_bind (wpAny_mono h₁' (fun _ s₂ h₂=>wpAny_bind (wpAny_mono h₂ (fun ok s₃ h₃=>?_) fun _ _ h'=>h'.elim)) fun _ _ h'=>h'.elim)
  cases ok with
  | false=>exact wpAny_pure ⟨rfl,h₃⟩
  | true=>
   exact wpAny_bind (wpAny_bind (wpAny_mono h₃ (fun x s₄ h₄=>wpAny_bind (wpAny_mono h₄ (fun _ s₅ h₅=>wpAny_pure (wpAny_pure ⟨rfl,h₅⟩)) fun _ _ h'=>h'.elim)) fun _ _ h'=>h'.elim))
theorem z2x {env:Env}:∀{names:List (Str×NameKind)} {x:Str},
  (names.map fun (n,k)=>if (k==NameKind.free&&env.scope.kind==.function&&env.kindOf n==some .cell) then (n,NameKind.cell) else (n,k)).lookup x =
   (names.lookup x).map fun k=>if (k==NameKind.free&&env.scope.kind==.function&&env.kindOf x==some .cell) then NameKind.cell else k
 | [],_=>rfl
 | (n,k)::r,x=>by
  have ih:=@z2x env r x
  show List.lookup x ((if (k==NameKind.free&&env.scope.kind==.function&&env.kindOf n==some .cell)=true then (n,NameKind.cell) else (n,k))::_)=_
  cases hx:x==n with
  | true=>
   have e:x=n:=by simpa using hx
   subst e
   by_cases hc:(k==NameKind.free&&env.scope.kind==.function&&env.kindOf x==some .cell)=true
   . rw [if_pos hc];simp only [List.lookup_cons,hx,Option.map_some,hc,if_true]
   . rw [if_neg hc];simp only [List.lookup_cons,hx,Option.map_some,hc,if_false];rfl
  | false=>
   by_cases hc:(k==NameKind.free&&env.scope.kind==.function&&env.kindOf n==some .cell)=true
   . rw [if_pos hc];simp only [List.lookup_cons,hx];exact ih
   . rw [if_neg hc];simp only [List.lookup_cons,hx];exact ih
noncomputable def z0n (X:Cx) (sc:Scope) (N':List Str) (fp:List Addr) (s₃:Shared) (H₃:Hp):Cx:=
 { X with env:=compEnvC sc (z16 X.env.cells sc.names []) s₃.heap.objs.size X.env,N:=N',s₀:=s₃,H₀:=H₃,outer:=X.stack,ex:=fp,fn:=fun _=>false,pn:=[],xe:=fun _ _=>False }
noncomputable def zj1 (ix:List Nat) (U:St):St:=ix.map fun j=>(U[j]?).getD none
structure CompOk (X:Cx) (sc:Scope) (caps:List Str) (ix:List Nat):Prop where
 calm:X.calm=true
 kind:sc.kind=.function
 ncell:∀y∈sc.names,y.2≠.cell
 free:∀y∈sc.names,y.2=.free->X.env.kindOf y.1=some .cell\/X.env.kindOf y.1=some .free
 names:∀y∈sc.names,y.2=.local->sc.names.lookup y.1=some .local
 cap:∀(j:Nat) x,caps[j]?=some x->sc.names.lookup x=some .free/\∃i,ix[j]?=some i/\X.N[i]?=some x
 len:ix.length=caps.length
noncomputable def zaq (fsc:Scope) (N:List Str) (sc:Scope) (caps:List Str) (ix:List Nat):Bool:=
 sc.kind==.function&&sc.names.all (fun y=>y.2 != .cell)&&sc.names.all (fun y=>y.2 != .free||(fsc.names.lookup y.1==some .cell||fsc.names.lookup y.1==some .free)) &&
  sc.names.all (fun y=>y.2 != .local||sc.names.lookup y.1==some .local)&&caps.all (fun x=>sc.names.lookup x==some .free)&&(ix.map fun i=>N[i]?)==caps.map some
theorem z17 {X:Cx} {sc:Scope} {caps:List Str} {ix:List Nat} (hc:X.calm=true) (h:zaq X.env.scope X.N sc caps ix=true):CompOk X sc caps ix:=by
 unfold zaq at h
 simp only [Bool.and_eq_true] at h
 obtain ⟨⟨⟨⟨⟨h1,h2⟩,h3⟩,h4⟩,h5⟩,h6⟩:=h
 have e6:(ix.map fun i=>X.N[i]?)=caps.map some:=by simpa using h6
 have elen:ix.length=caps.length:=by simpa using congrArg List.length e6
 refine ⟨hc,by simpa using h1,fun y hy=>?_,fun y hy hf=>?_,fun y hy hl=>?_,fun j x hj=>⟨?_,?_⟩,elen⟩
 . have:=List.all_eq_true.mp h2 y hy
   simpa using this
 . have:=List.all_eq_true.mp h3 y hy
   rw [hf] at this
   simp only [bne_self_eq_false,Bool.false_or,Bool.or_eq_true,beq_iff_eq] at this
   exact this
 . have:=List.all_eq_true.mp h4 y hy
   rw [hl] at this
   simpa using this
 . have:=List.all_eq_true.mp h5 x (List.mem_of_getElem? hj)
   simpa using this
 . have hjl:j<ix.length:=by rw [elen];exact (List.getElem?_eq_some_iff.mp hj).1
   refine ⟨ix[j],List.getElem?_eq_getElem hjl,?_⟩
   have q:=congrArg (fun l=>l[j]?) e6
   simp only [List.getElem?_map,List.getElem?_eq_getElem hjl,hj,Option.map_some] at q
   exact Option.some.inj q
section
variable {X:Cx} {sc:Scope} {tgs caps:List Str} {ix:List Nat} {pins:List (Addr×Obj)} {U:St} {H:Hp} {s:Shared} {fp:List Addr}
theorem CompOk.free_cell (C:CompOk X sc caps ix) (I:Inv X pins U H s):∀y∈sc.names,y.2=.free->∃c,X.env.cells.lookup y.1=some c:=fun y hy hf=>I.ok.has y.1 (C.free y hy hf)
theorem CompOk.sub (C:CompOk X sc caps ix) (I:Inv X pins U H s) {x:Str} {c:Addr} (h:(z16 X.env.cells sc.names []).lookup x=some c):X.env.cells.lookup x=some c:=
 z4i (C.free_cell I) (fun _ _ e=>by cases e) h
theorem zes (C:CompOk X sc caps ix) (I:Inv X pins U H s) (hf:∀b∈fp,zbr X pins H b) (hl:∀b∈fp,b<s.heap.objs.size) {h':Heap} {t':Nat} {m:Str->Option Value} (hn:h'.Ns s.heap.objs.size m)
  (hk:∀b o,s.heap.get? b=some o->h'.get? b=some o) :
  Inv (z0n X sc (tgs++caps) fp s H) [] (List.replicate tgs.length none++zj1 ix U) H { s with heap:=h',toks:=t' }:=by
 have sub:∀{x c},(z16 X.env.cells sc.names []).lookup x=some c->X.env.cells.lookup x=some c:=fun h=>C.sub I h
 have clt:∀{x c},X.env.cells.lookup x=some c->c<s.heap.objs.size:=fun {x c} h=>by
  obtain ⟨v,q⟩:=I.cell x c h
  exact q.lt
 refine ⟨⟨I.ok.mod,C.kind,I.ok.glob,I.ok.blt,Nat.le_refl _,fun x y c h1 h2=>I.ok.inj x y c (sub h1) (sub h2),fun x hx=>?_,fun x c hfn _=>?_,I.ok.hd,I.ok.frames,.inl rfl,fun b hb=>⟨?_,fun x c h z=>?_⟩,fun b o e=>I.bs b o e,Nat.le_trans I.ok.bsz I.sz,fun b o e hb=>?_,fun b hb hfs=>?_,I.stack,I.stkFree⟩,
  rfl,I.bare,Un.kept hk,⟨m,hn,fun i x v e1 e2 e3=>?_⟩,fun x c h=>?_,I.hok.fresh (Nat.le_refl _),fun x c h=>I.freeC x c (sub h),fun p hp=>absurd (show p∈([]:List (Addr×Obj)) from hp) (by simp),I.hok.kept hk,?_⟩
 . -- a cell or free name of the block has a cell
   have hx':(relabel sc X.env).names.lookup x=some .cell\/(relabel sc X.env).names.lookup x=some .free:=hx
   have e:(relabel sc X.env).names.lookup x=(sc.names.lookup x).map fun k=>if (k==NameKind.free&&X.env.scope.kind==.function&&X.env.kindOf x==some .cell) then NameKind.cell else k:=z2x
   rw [e] at hx'
   cases q:sc.names.lookup x with
   | none=>rw [q] at hx';rcases hx' with z | z<;>cases z
   | some k=>
    have hm:(x,k)∈sc.names:=PySem.mem_of_lookup q
    have hkf:k=.free:=by
     rw [q] at hx'
     simp only [Option.map_some] at hx'
     by_cases hkk:k=.free
     . exact hkk
     . have:(k==NameKind.free)=false:=by simpa using hkk
       simp only [this,Bool.false_and,Bool.false_eq_true,if_false] at hx'
       rcases hx' with z | z
       . exact absurd (Option.some.inj z) (C.ncell _ hm)
       . exact Option.some.inj z
    subst hkf
    exact z4q (.inr ⟨_,hm,rfl,rfl⟩)
 . exact absurd (show false=true from hfn) Bool.false_ne_true
 . exact Nat.ne_of_lt (hl b hb)
 . exact (hf b hb).2.2.2.2.1 x c (sub h) z
 . obtain ⟨_,_,_,hx,_⟩:=hf b hb
   rcases hx with z | z
   . exact I.ok.noex b o e z
   . exact absurd (Nat.lt_of_lt_of_le (Heap.lt_size e) (Nat.le_trans I.ok.bsz z)) (Nat.lt_irrefl _)
 . obtain ⟨_,h1,h2,_⟩:=hf b hb
   rcases List.mem_cons.mp (I.stkSub b hfs) with z | z
   . exact h1 z
   . exact h2 z
 . -- the captured names' values
   have hi:tgs.length<=i:=by
    by_cases hi:i<tgs.length
    . rw [List.getElem?_append_left (by simpa using hi),List.getElem?_replicate] at e2
      split at e2<;>cases e2
    . lia
   have e1':caps[i - tgs.length]?=some x:=by
    have:(tgs++caps)[i]?=some x:=e1
    rw [List.getElem?_append_right hi] at this
    exact this
   rw [List.getElem?_append_right (by simpa using hi),List.length_replicate] at e2
   obtain ⟨hfr,j,hj,hjN⟩:=C.cap _ x e1'
   have e2':U[j]?=some (some v):=by
    unfold zj1 at e2
    rw [List.getElem?_map,hj] at e2
    simp only [Option.map_some] at e2
    have e2:=Option.some.inj e2
    cases q:U[j]? with
    | none=>rw [q] at e2;cases e2
    | some o=>rw [q] at e2;exact congrArg some e2
   have hmem:(x,NameKind.free)∈sc.names:=PySem.mem_of_lookup hfr
   have hkind:=C.free _ hmem rfl
   obtain ⟨m0,hn0,hl0⟩:=I.loc
   have hvis:Vis X.env.scope x:=hkind.elim (fun z=>.inr (.inl z)) fun z=>.inr (.inr z)
   obtain ⟨u,r,look⟩:=hl0 j x v hjN e2' hvis
   refine ⟨u,r,?_⟩
   rcases look with ⟨k,_⟩ | ⟨_,c,hc,z⟩
   . rcases hkind with q | q
     . rw [show X.env.kindOf x=some .cell from q] at k;cases k
     . rw [show X.env.kindOf x=some .free from q] at k;cases k
   . obtain ⟨c',hc'⟩:=z4q (cells:=X.env.cells) (names:=sc.names) (acc:=[]) (x:=x) (.inr ⟨_,hmem,rfl,rfl⟩)
     have hcc:c'=c:=by have:=sub hc';rw [hc] at this;exact (Option.some.inj this).symm
     subst hcc
     refine .inr ⟨?_,c',hc',?_⟩
     . have e:(relabel sc X.env).names.lookup x=(sc.names.lookup x).map fun k=>if (k==NameKind.free&&X.env.scope.kind==.function&&X.env.kindOf x==some .cell) then NameKind.cell else k:=z2x
       show (relabel sc X.env).names.lookup x=some .cell\/(relabel sc X.env).names.lookup x=some .free
       rw [e,hfr]
       simp only [Option.map_some]
       split
       . exact .inl rfl
       . exact .inr rfl
     . obtain ⟨o,ho,hd⟩:=z
       exact ⟨o,hk _ o ho,hd⟩
 . obtain ⟨v,o,ho,hd⟩:=I.cell x c (sub h)
   exact ⟨v,o,hk _ o ho,hd⟩
 . show _=(tgs++caps).length
   unfold zj1
   rw [List.length_append,List.length_replicate,List.length_map,List.length_append,C.len]
inductive PTs (X:Cx):List Expr->TT->Prop where
 | nil:PTs X [] (fun _ H Q=>Q true H)
 | one {c:Expr} {t:TT} (h:PT X c t):PTs X [c] t
theorem PTs.run {X:Cx} {ifs:List Expr} {t:TT} (h:PTs X ifs t) {pins:List (Addr×Obj)} {s:Shared} {U:St} {H:Hp} {Q:Bool->Hp->Prop} (I:Inv X pins U H s) (q:t U H Q) :
  wpAny (model X.prog X.w) X.A (forIn ifs true fun c r=>if r=true then do let ok <-isTrue c X.env (eval c X.env);pure (ForInStep.yield ok) else pure (ForInStep.yield r)) (TP X pins U Q) X.xe s:=by
 cases h with
 | nil=>exact wpAny_tests_nil ⟨H,I,q⟩
 | one h=>exact wpAny_tests_one (h pins s U H Q I q)
def zrm (J:It) (D:Addr) (B:V->Hp->(List V->Hp->Prop)->Prop) (cs:St) (tt:TT) (te:TE) (Q:VK) (H1:Hp):Prop:=
 ∃W:Nat->Nat->List V->Hp->Prop,(∃m,W 0 m [] (upd H1 D (.lst [])))/\∀i m ys H,W i m ys H ->
  H D=some (.lst ys)/\((J.stop i H/\Q (.ref D) H)\/(J.go i H/\∀x H',J.yld i H x H'->B x H' fun vals H2=>tt (vals.map some++cs) H2 fun b H3=>
   if b=true then te (vals.map some++cs) H3 fun y H4=>H4 D=some (.lst ys)/\ys.length<sizeLine/\∃m',m'<m/\W (i+1) m' (ys++[y]) (upd H4 D (.lst (ys++[y])))
   else ∃m',m'<m/\W (i+1) m' ys H3))
noncomputable def z6c (wi:TI) (B:V->Hp->(List V->Hp->Prop)->Prop) (ix:List Nat) (tt:TT) (te:TE):TE:=fun U H Q=>wi U H fun J H1=>∀D,H1 D=none->zrm J D B (zj1 ix U) tt te Q H1
variable {elt tg iter:Expr} {ifs:List Expr} {pos:Pos} {g:TG} {B:V->Hp->(List V->Hp->Prop)->Prop} {tt:TT} {te:TE}
theorem z8h (C:CompOk X sc caps ix) (hg:∀fp s H,PG (z0n X sc (tgs++caps) fp s H) tg g)
  (hB:∀(x:V) (σt cs:St) (H:Hp) (Q:St->Hp->Prop),σt.length=tgs.length->B x H (fun vals H2=>Q (vals.map some++cs) H2)->g x (σt++cs) H fun σ2 H2=>(∃vals:List V,vals.length=tgs.length/\σ2=vals.map some++cs)/\Q σ2 H2)
  (ht:∀fp s H,PTs (z0n X sc (tgs++caps) fp s H) ifs tt) (he:∀fp s H,PE (z0n X sc (tgs++caps) fp s H) elt te)
  {J:It} {it:Addr} {tn:Nat->Heap->Prop} {Q:VK} {E:Value->Shared->Prop} (I2:Inv X pins U H s) (T:Turn X.prog X.w X.K tg J fp it tn) (st:tn 0 s.heap) (hf:∀b∈fp,zbr X pins H b)
  (hw:∀D,H D=none->zrm J D B (zj1 ix U) tt te Q H) {RR:Value->Addr->Result->Shared->Prop}
  (hRR:∀D Cc H' s' m,s'.heap.Ns Cc m->Inv X pins U H' s'->zbr X pins H' Cc->Q (.ref D) H'->RR (.ref D) Cc (.ok .next) s') :
  wpAny (model X.prog X.w) X.A (newList []) (fun acc s₃=>wpAny (model X.prog X.w) X.A (newFunctionEnv sc X.env.globals (z16 X.env.cells sc.names []) [] X.env.qual none .none (some X.env)) (fun cenv s₄=>
   codeAny (model X.prog X.w) X.A (.compStart (.ListComp elt [⟨tg,iter,ifs,0⟩] sc pos) 0 (.ref it) acc { cenv with scope:=relabel sc X.env }) (RR acc cenv.locals) s₄) E s₃) E s:=by
 refine wpAny_newObj_type (wpAny_newFunctionEnv C.ncell (by intro y hy;simp at hy) (fun h₁ hns₁ hsb₁=>?_) C.kind)
 have I3:Inv X pins U (upd H s.heap.objs.size (.lst [])) { s with heap:=s.heap.push { cls:=.type "list",dict:=none,data:=.seq ([]:List Value).toArray } }:=I2.lnew (t':=s.toks) (its:=[]) .nil (Nat.zero_le _)
 have hD0:H s.heap.objs.size=none:=I2.fresh
 have lt0:∀b∈fp,b<s.heap.objs.size:=fun b hb=>by
  obtain ⟨o,e,_⟩:=T.obj _ _ st b hb
  exact Heap.lt_size e
 have hfD:∀b∈fp,b≠s.heap.objs.size:=fun b hb=>Nat.ne_of_lt (lt0 b hb)
 have hf3:∀b∈fp,zbr X pins (upd H s.heap.objs.size (.lst [])) b:=fun b hb=>⟨by rw [z08 (hfD b hb)];exact (hf b hb).1,(hf b hb).2⟩
 generalize hs3:({ s with heap:=s.heap.push { cls:=.type "list",dict:=none,data:=.seq ([]:List Value).toArray } }:Shared)=s₃ at I3 hns₁ hsb₁ ⊢
 have hs3h:s₃.heap=s.heap.push { cls:=.type "list",dict:=none,data:=.seq ([]:List Value).toArray }:=by rw [<-hs3]
 have st3:tn 0 s₃.heap:=T.keep _ _ _ st fun b _ o e=>by rw [hs3h];exact Heap.get?_push_of_some _ e
 have hl3:∀b∈fp,b<s₃.heap.objs.size:=fun b hb=>by rw [hs3h,Heap.size_push];exact Nat.lt_succ_of_lt (lt0 b hb)
 generalize hDD:s.heap.objs.size=D at *
 have hk1:∀b o,s₃.heap.get? b=some o->h₁.get? b=some o:=fun b o e=>hsb₁.extBut b o (Nat.ne_of_lt (Heap.lt_size e)) (Heap.get?_push_of_some _ e)
 have I4:=zes (tgs:=tgs) (t':=s₃.toks+([]:List (Str×Value)).length) C I3 hf3 hl3 hns₁ hk1
 have st4:tn 0 h₁:=T.keep _ _ _ st3 fun b _ o e=>hk1 b o e
 have fr4:∀b∈fp,(upd H D (.lst [])) b=none:=fun b hb=>(hf3 b hb).1
 generalize hXc:z0n X sc (tgs++caps) fp s₃ (upd H D (.lst []))=Xc at I4
 have hprog:Xc.prog=X.prog:=by rw [<-hXc];rfl
 have hww:Xc.w=X.w:=by rw [<-hXc];rfl
 have hKK:Xc.K=X.K:=by rw [<-hXc];rfl
 have hcalm:Xc.calm=true:=by rw [<-hXc];exact C.calm
 have hA:Xc.A=X.A:=by rw [<-hXc];rfl
 have henv:Xc.env=compEnvC sc (z16 X.env.cells sc.names []) s₃.heap.objs.size X.env:=by rw [<-hXc];rfl
 have hxe:Xc.xe=fun _ _=>False:=by rw [<-hXc];rfl
 have hg':=hg fp s₃ (upd H D (.lst []))
 have ht':=ht fp s₃ (upd H D (.lst []))
 have he':=he fp s₃ (upd H D (.lst []))
 rw [hXc] at hg' ht' he'
 obtain ⟨W,⟨m0,w0⟩,turn⟩:=hw D hD0
 have stat:∀{H':Hp},(∀b∈fp,H' b=none)->∀b∈fp,zbr Xc [] H' b:=fun {H'} hn b hb=>by
  refine ⟨hn b hb,?_,?_,.inl ?_,fun x c e z=>?_,fun p hp=>?_⟩
  . rw [henv];exact Nat.ne_of_lt (hl3 b hb)
  . rw [<-hXc]
    intro z
    obtain ⟨_,h1,h2,_⟩:=hf b hb
    rcases List.mem_cons.mp (I3.stkSub b z) with q | q
    . exact h1 q
    . exact h2 q
  . rw [<-hXc];exact hb
  . rw [henv] at e
    exact (hf b hb).2.2.2.2.1 x c (C.sub I2 e) z
  . rw [<-hXc] at hp
    exact absurd (show p∈([]:List (Addr×Obj)) from hp) (by simp)
 have loop:∀s₄:Shared,s₄={ s₃ with heap:=h₁,toks:=s₃.toks+([]:List (Str×Value)).length } ->
   codeAny (model X.prog X.w) X.A (.compLoop (.ListComp elt [⟨tg,iter,ifs,0⟩] sc pos) 0 (.ref it) (.ref D) (compEnvC sc (z16 X.env.cells sc.names []) s₃.heap.objs.size X.env)) (RR (.ref D) s₃.heap.objs.size) s₄:=by
  intro s₄ hs4
  rw [<-hprog,<-hww,<-hA,<-henv]
  refine zap (fun n s'=>∃(i:Nat) (ys:List V) (σt:St) (H':Hp),σt.length=tgs.length/\Inv Xc [] (σt++zj1 ix U) H' s'/\tn i s'.heap/\(∀b∈fp,H' b=none)/\W i n ys H') ?_ m0
   ⟨0,[],List.replicate tgs.length none,upd H D (.lst []),by simp,by rw [hs4];exact I4,by rw [hs4];exact st4,fr4,w0⟩
  rintro n s5 ⟨i,ys,σt,H5,hσ,I5,st5,fr5,w5⟩
  obtain ⟨hD5,hturn⟩:=turn i n ys H5 w5
  rcases hturn with ⟨stop,q⟩ | ⟨go,step⟩
  . rw [hprog,hww]
    refine thn (T.done Xc hprog hww hKK hcalm i [] s5 _ H5 _ I5 (stat fr5) st5 stop) fun r s6 ⟨hr,I6⟩=>?_
    subst hr
    obtain ⟨m6,hn6,_⟩:=I6.loc
    rw [henv] at hn6
    have hcb:∀b∈fp,(b∈X.ex\/X.s₀.heap.objs.size<=b)/\b≠X.env.locals/\(∀x c,X.env.cells.lookup x=some c->c≠b)/\∀p∈X.pn++pins,p.1≠b:=fun b hb=>⟨(hf b hb).2.2.2.1,(hf b hb).2.1,(hf b hb).2.2.2.2.1,(hf b hb).2.2.2.2.2⟩
    have hos:s6.os=s₃.os:=by have:=I6.os;rw [<-hXc] at this;exact this
    have un6:Un (frs X.stack) fp (upd H D (.lst [])) H5 s₃.heap s6.heap:=by have:=I6.base;rw [<-hXc] at this;exact this
    have hok6:HOk X.prog X.w H5 s6.heap:=by have:=I6.hok;rw [hprog,hww] at this;exact this
    have I7:Inv X pins U H5 s6:=I3.call' hos un6 hok6 I6.bare hcb
    refine hRR D _ H5 s6 m6 hn6 I7 ?_ q
    have hCn:H5 s₃.heap.objs.size=none:=by have:=I6.free;rw [henv] at this;exact this
    exact I3.fpOk (Nat.le_refl _) hCn
  . rw [hprog,hww]
    refine thn (T.item Xc hprog hww hKK hcalm i [] s5 _ H5 _ I5 (stat fr5) st5 go) fun r s6 ⟨u,hr,h6⟩=>?_
    subst hr
    refine thn h6 fun _ s7 ⟨x,H7,I7,r7,y7,st7,fr7⟩=>?_
    have I7':=I7.pinned (stat fr7) (T.obj _ _ st7)
    have hst:=hg' _ s7 _ H7 x u _ I7' r7 (hB x σt (zj1 ix U) H7 (fun σ2 H2=>tt σ2 H2 fun b H3=>if b=true then te σ2 H3 fun y H4=>H4 D=some (.lst ys)/\ys.length<sizeLine/\∃m',m'<n/\W (i+1) m' (ys++[y]) (upd H4 D (.lst (ys++[y]))) else ∃m',m'<n/\W (i+1) m' ys H3) hσ (step x H7 y7))
    rw [hprog,hww,hxe] at hst
    refine thn hst fun _ s8 ⟨σ8,H8,I8,⟨vals,hvl,hσ8⟩,q8⟩=>?_
    have again:∀{H9:Hp} {s9:Shared},Inv Xc ([]++zag fp s7.heap) σ8 H9 s9->tn (i+1) s9.heap/\∀b∈fp,H9 b=none:=fun {H9 s9} I9=>
     ⟨T.keep _ _ _ st7 fun b hb o e=>(I9.pin (b,o) (List.mem_append_right _ (List.mem_append_right _ (z48 hb e)))).1,fun b hb=>by
      obtain ⟨o,e,d⟩:=T.obj _ _ st7 b hb
      exact (I9.pin (b,o) (List.mem_append_right _ (List.mem_append_right _ (z48 hb e)))).2.1⟩
    subst hσ8
    have hts:=ht'.run I8 q8
    rw [hprog,hww,hxe] at hts
    refine thn hts fun ok s9 ⟨H9,I9,q9⟩=>?_
    cases ok with
    | false=>
     rw [if_neg Bool.false_ne_true] at q9 ⊢
     obtain ⟨m',hm,w9⟩:=q9
     obtain ⟨a1,a2⟩:=again I9
     exact ⟨m',hm,i+1,ys,vals.map some,H9,by simpa using hvl,I9.unpinned,a1,a2,w9⟩
    | true=>
     rw [if_pos rfl] at q9 ⊢
     have hev:=he' _ s9 _ H9 _ I9 q9
     rw [hprog,hww,hxe] at hev
     refine thn hev fun uy s10 ⟨y,H10,I10,r10,hD10,hz10,m',hm,w10⟩=>?_
     have hap:=z1f (X:=Xc) _ s10 _ H10 (.ref D) [y] (.ref D) [uy] (fun v H11=>v=.non/\H11=upd H10 D (.lst (ys++[y]))) I10 rfl (.cons r10 .nil) ⟨D,ys,y,rfl,rfl,hD10,hz10,rfl,rfl⟩
     rw [hprog,hww,hxe] at hap
     refine thn hap fun _ s11 ⟨v,H11,I11,_,_,e11⟩=>?_
     subst e11
     obtain ⟨a1,a2⟩:=again I11
     exact ⟨m',hm,i+1,ys++[y],vals.map some,_,by simpa using hvl,I11.unpinned,a1,a2,w10⟩
 refine codeAny_compStart_list (loop _ rfl) (T.self X.A 0 _ _ _ st4 (loop _ rfl))
theorem zc3 {wi:TI} (C:CompOk X sc caps ix) (hi:PI X tg iter wi) (hg:∀fp s H,PG (z0n X sc (tgs++caps) fp s H) tg g)
  (hB:∀(x:V) (σt cs:St) (H:Hp) (Q:St->Hp->Prop),σt.length=tgs.length->B x H (fun vals H2=>Q (vals.map some++cs) H2)->g x (σt++cs) H fun σ2 H2=>(∃vals:List V,vals.length=tgs.length/\σ2=vals.map some++cs)/\Q σ2 H2)
  (ht:∀fp s H,PTs (z0n X sc (tgs++caps) fp s H) ifs tt) (he:∀fp s H,PE (z0n X sc (tgs++caps) fp s H) elt te)
  (hs:∀x,foldedSetIterable iter X.env x=pure x:=by intro _;rfl):PE X (.ListComp elt [⟨tg,iter,ifs,0⟩] sc pos) (z6c wi B ix tt te):=by
 intro pins s U H Q I h
 rw [eval_ListComp]
 refine wpAny_comprehension_free (use:=none) rfl hs (z54 (C.free_cell I)) C.kind C.names (thn (hi pins s U H _ I h) fun v s1 h1=>thn h1 fun itv s2 h2=>?_)
 obtain ⟨it,fp,tn,J,H2,e,I2,T,st2,f2,hw⟩:=h2
 subst e
 refine z8h (RR:=fun acc Cc=>compPost (model X.prog X.w) X.A X.xe none (EP X pins U Q) acc Cc) C hg hB ht he I2 T st2 f2 hw ?_
 intro D Cc H' s' m hn I' hfp q
 refine ⟨m,hn,fun h' sb=>⟨.ref D,H',?_,rfl,q⟩⟩
 exact I'.turned (t':=s'.toks) (fun b o hb e=>sb.extBut b o hb e) hfp.1 hfp.2.1 hfp.2.2.2.1 hfp.2.2.2.2.1 hfp.2.2.2.2.2
theorem zg5 {wi:TI} {k:Nat} {x:Str} {spos px:Pos} (hN:X.N.Nodup) (hk:X.N[k]?=some x) (hx:X.env.scope.names.lookup x=some .local) (C:CompOk X sc caps ix) (hi:PI X tg iter wi) (hg:∀fp s H,PG (z0n X sc (tgs++caps) fp s H) tg g)
  (hB:∀(x:V) (σt cs:St) (H:Hp) (Q:St->Hp->Prop),σt.length=tgs.length->B x H (fun vals H2=>Q (vals.map some++cs) H2)->g x (σt++cs) H fun σ2 H2=>(∃vals:List V,vals.length=tgs.length/\σ2=vals.map some++cs)/\Q σ2 H2)
  (ht:∀fp s H,PTs (z0n X sc (tgs++caps) fp s H) ifs tt) (he:∀fp s H,PE (z0n X sc (tgs++caps) fp s H) elt te)
  (hsw:swapsWith (.ListComp elt [⟨tg,iter,ifs,0⟩] sc pos) (some (.Name x px)) spos.line X.env=pure true:=by rfl)
  (hs:∀x,foldedSetIterable iter X.env x=pure x:=by intro _;rfl):PS X (.Assign [.Name x px] (.ListComp elt [⟨tg,iter,ifs,0⟩] sc pos) spos) (zft (z6c wi B ix tt te) (z2v k)):=by
 intro pins s U H D0 I h
 rw [exec_Assign_Name_used _ _ _ _ hsw]
 refine wpAny_bind (wpAny_standAt (wpAny_bind ?_))
 show wpAny _ X.A (do let _ <-comprehension (.ListComp elt [⟨tg,iter,ifs,0⟩] sc pos) sc X.env _ (newList []) false (eval iter X.env) (some (assign (.Name x px) X.env))) _ _ s
 refine wpAny_bind (wpAny_mono (wpAny_comprehension_free (use:=some (assign (.Name x px) X.env)) (Q:=fun _ s'=>SP X pins D0 .next s') rfl hs (z54 (C.free_cell I)) C.kind C.names
  (thn (hi pins s U H _ I h) fun v s1 h1=>thn h1 fun itv s2 h2=>?_)) (fun _ s' hq=>wpAny_pure (wpAny_pure hq)) fun _ _ e=>e)
 obtain ⟨it,fp,tn,J,H2,e,I2,T,st2,f2,hw⟩:=h2
 subst e
 refine z8h (RR:=fun acc Cc=>compPost (model X.prog X.w) X.A X.xe (some (assign (.Name x px) X.env)) (fun _ s'=>SP X pins D0 .next s') acc Cc) C hg hB ht he I2 T st2 f2 hw ?_
 intro D Cc H' s' m hn I' hfp q
 show wpAny _ X.A (assign (.Name x px) X.env (.ref D)) _ _ _
 refine wpAny_assign_Name (zae I' hN hk (.inl hx) (v:=.ref D) rfl (fun s'' I'' hch=>?_) (.inr hx))
 obtain ⟨a,sb,ha⟩:=hch
 have hne:Cc≠a:=by
  rcases ha with z | z
  . rw [z];exact hfp.2.1
  . exact fun e=>hfp.2.2.2.2.1 x a z e.symm
 refine ⟨m,hn.sameBut sb hne,fun h' sb'=>⟨_,H',?_,q⟩⟩
 exact I''.turned (t':=s''.toks) (fun b o hb e=>sb'.extBut b o hb e) hfp.1 hfp.2.1 hfp.2.2.2.1 hfp.2.2.2.2.1 hfp.2.2.2.2.2
end
section
variable {X:Cx}
theorem PE.imp {e:Expr} {t t':TE} (h:PE X e t) (hi:∀U H Q,t' U H Q->t U H Q):PE X e t':=fun pins s U H Q I q=>h pins s U H Q I (hi U H Q q)
theorem PT.imp {e:Expr} {t t':TT} (h:PT X e t) (hi:∀U H Q,t' U H Q->t U H Q):PT X e t':=fun pins s U H Q I q=>h pins s U H Q I (hi U H Q q)
theorem OpR.imp {f:Value->Value->Sem Value} {r r':R2} (h:OpR X f r) (hi:∀x y H Q,r' x y H Q->r x y H Q):OpR X f r':=fun pins s U H x y v u Q I rx ry q=>h pins s U H x y v u Q I rx ry (hi x y H Q q)
theorem UnR.imp {f:Value->Sem Value} {r r':V->Hp->VK->Prop} (h:UnR X f r) (hi:∀x H Q,r' x H Q->r x H Q):UnR X f r':=fun pins s U H x v Q I rx q=>h pins s U H x v Q I rx (hi x H Q q)
theorem CallR.imp {f:Value} {r r':List V->Hp->VK->Prop} (h:CallR X f r) (hi:∀xs H Q,r' xs H Q->r xs H Q):CallR X f r':=fun pins s U H xs us Q I rx q=>h pins s U H xs us Q I rx (hi xs H Q q)
end
noncomputable def z6l (i:Nat):TE:=fun U H Q=>match U[i]? with | some (some v)=>Q v H | _=>False
theorem pw {X:Cx} (i:Nat) {x:Str} {pos:Pos} (hN:X.N[i]?=some x:=by rfl) (hv:Vis X.env.scope x:=by first | exact .inl rfl | exact .inr (.inl rfl) | exact .inr (.inr rfl)) (hd:(x==("__debug__":Str))=false:=by decide)
  (hcd:(x==("__classdict__":Str))=false:=by decide):PE X (.Name x pos) (z6l i):=
 (zfq hN hv hd hcd).imp fun U H Q q=>by
  unfold z6l at q
  unfold zx1
  split at q
  . rename_i v e;exact ⟨v,e,q⟩
  . exact q.elim
noncomputable def cI (g:Int->Int->V):R2:=fun x y H Q=>match x,y with | .int i,.int j=>Q (g i j) H | _,_=>False
noncomputable def cIC (C:Int->Int->Prop) (g:Int->Int->V):R2:=fun x y H Q=>match x,y with | .int i,.int j=>C i j/\Q (g i j) H | _,_=>False
theorem OpR.cI {X:Cx} {f:Value->Value->Sem Value} {g:Int->Int->V} (h:OpR X f (rI0 g)):OpR X f (cI g):=h.imp fun x y H Q q=>by
 cases x<;>cases y<;>first | exact ⟨_,_,rfl,rfl,q⟩ | exact q.elim
theorem OpR.cIC {X:Cx} {f:Value->Value->Sem Value} {C:Int->Int->Prop} {g:Int->Int->V} (h:OpR X f (rI C g)):OpR X f (cIC C g):=h.imp fun x y H Q q=>by
 cases x<;>cases y<;>first | exact ⟨_,_,rfl,rfl,q.1,q.2⟩ | exact q.elim
section
variable {X:Cx}
theorem z3n:OpR X (binaryOp .Add) (cI fun i j=>.int (i+j)):=op_add.cI
theorem z2a:OpR X (binaryOp .Sub) (cI fun i j=>.int (i - j)):=op_sub.cI
theorem zrn:OpR X (binaryOp .Mult) (cIC CMul fun i j=>.int (i * j)):=op_mul.cIC
theorem zro:OpR X (binaryOp .FloorDiv) (cIC zn4 fun i j=>.int (i / j)):=op_fdiv.cIC
theorem zet:OpR X (binaryOp .Mod) (cIC (fun _ j=>0<j) fun i j=>.int (i % j)):=op_mod.cIC
theorem zxc:OpR X (binaryOp .Pow) (cIC zn5 fun i j=>.int (i ^ j.toNat)):=op_pow.cIC
theorem zj2:OpR X (compareOp .Lt) (cI fun i j=>.bl (decide (i<j))):=op_lt.cI
theorem zlc:OpR X (compareOp .LtE) (cI fun i j=>.bl (decide (i<=j))):=op_le.cI
theorem zwk:OpR X (compareOp .Gt) (cI fun i j=>.bl (decide (j<i))):=op_gt.cI
theorem y0a:OpR X (compareOp .GtE) (cI fun i j=>.bl (decide (j<=i))):=op_ge.cI
def cU (g:Int->V):V->Hp->VK->Prop:=fun x H Q=>match x with | .int i=>Q (g i) H | _=>False
theorem zje:UnR X (unaryOp .USub) (cU fun i=>.int (-i)):=un_neg.imp fun x H Q q=>by
 cases x<;>first | exact ⟨_,rfl,q⟩ | exact q.elim
end
noncomputable def z6d (H:Hp) (p:Addr):Option (List V):=match H p with
 | some (.lst xs)=>some xs
 | some (.tup xs)=>some xs
 | some (.frz _ (.lst xs))=>some xs
 | some (.frz _ (.tup xs))=>some xs
 | _=>none
theorem zdh {K:Frag} {H:Hp} {p:Addr} {xs:List V} (h:z6d H p=some xs):SqL K H p xs\/SqT K H p xs:=by
 unfold z6d at h
 split at h
 all_goals first | (cases h;done) | skip
 . rename_i ys e;cases h;exact .inl (.inl (.inl e))
 . rename_i ys e;cases h;exact .inr (.inl (.inl e))
 . rename_i o ys e;cases h;exact .inl (.inl (.inr ⟨_,e⟩))
 . rename_i o ys e;cases h;exact .inr (.inl (.inr ⟨_,e⟩))
theorem zar {H:Hp} {p:Addr} {xs:List V} (h:H p=some (.lst xs)):z6d H p=some xs:=by unfold z6d;rw [h]
theorem zas {H:Hp} {p:Addr} {xs:List V} (h:H p=some (.tup xs)):z6d H p=some xs:=by unfold z6d;rw [h]
def zat (x:V) (H:Hp) (Q:Bool->Hp->Prop):Prop:=match x with
 | .bl b=>Q b H
 | .int i=>Q (i != 0) H
 | .non=>Q false H
 | .str y=>y.length<=sizeLine/\Q ((y.length:Int) != 0) H
 | .ref p=>(match z6d H p with
  | some xs=>Q (!xs.isEmpty) H
  | none=>(match H p with | some (.dK kvs)=>Q (!kvs.isEmpty) H | _=>False))
 | _=>False
theorem zdi {K:Frag} {x:V} {H:Hp} {Q:Bool->Hp->Prop} (h:zat x H Q):∃k,y03 K x H k/\Q k H:=by
 cases x with
 | bl b=>exact ⟨b,rfl,h⟩
 | int i=>exact ⟨_,rfl,h⟩
 | non=>exact ⟨_,rfl,h⟩
 | str y=>exact ⟨_,⟨h.1,rfl⟩,h.2⟩
 | ref p=>
  unfold zat at h
  dsimp only at h
  split at h
  . rename_i xs e
    rcases zdh (K:=K) e with z | z
    . exact ⟨_,.inl ⟨xs,z,rfl⟩,h⟩
    . exact ⟨_,.inr (.inl ⟨xs,z,rfl⟩),h⟩
  . split at h
    . rename_i kvs e;exact ⟨_,.inr (.inr ⟨kvs,e,rfl⟩),h⟩
    . exact h.elim
 | _=>exact h.elim
noncomputable def y13 (t:TE):TT:=fun U H Q=>t U H fun x H'=>zat x H' Q
section
variable {X:Cx} {a b c:Expr} {ta tb:TE} {pos:Pos}
theorem zrp (ha:PE X a ta) (he:∀whole,isTrue a X.env whole=(do let v <-whole;standAt a.pos;holding [v] (truthy v)):=by intro _;rfl):PT X a (y13 ta):=by
 intro pins s U H Q I h
 exact isTrue_plain (thn (ha pins s U H _ I h) fun v s1 ⟨x,H1,I1,r1,q1⟩=>zl9 pins s1 U H1 x v Q I1 r1 (zdi q1)) (he _)
noncomputable def zng (t:TE):TT:=fun U H Q=>t U H fun x H'=>match x with | .bl k=>Q k H' | _=>False
theorem znh {op:CmpOp} {r:R2} (ho:OpR X (compareOp op) r) (ha:PE X a ta) (hb:PE X b tb) (hm:behindInMarks op b=false):PT X (.Compare a [op] [b] pos) (zng (tOp r ta tb)):=by
 intro pins s U H Q I h
 refine wpAny_isTrue_Compare1 (thn (ha pins s U H _ I h) fun v s1 ⟨x,H1,I1,r1,q1⟩=>thn (hb pins s1 U H1 _ I1 q1) fun u s2 ⟨y,H2,I2,r2,q2⟩=>
  thn (ho pins s2 U H2 x y v u _ I2 r1 r2 q2) fun c s3 ⟨z,H3,I3,r3,q3⟩=>?_) hm
 cases z<;>first | exact q3.elim | skip
 cases r3
 exact wpAny_truthy_bool ⟨H3,I3,q3⟩
end
section
variable {X:Cx} {a b c:Expr} {ta tb:TE} {pos:Pos}
def PCh (X:Cx) (ops:List CmpOp) (rs:List Expr) (t:V->TE):Prop:=
 ∀(pos:Pos) (pins:List (Addr×Obj)) (s:Shared) (U:St) (H:Hp) (x:V) (v:Value) (Q:VK),Inv X pins U H s->RelV x v->t x U H Q->wpAny (model X.prog X.w) X.A (compareChain pos v ops (evalEach rs X.env)) (EP X pins U Q) X.xe s
def PChT (X:Cx) (ops:List CmpOp) (rs:List Expr) (t:V->TT):Prop:=
 ∀(pos:Pos) (pins:List (Addr×Obj)) (s:Shared) (U:St) (H:Hp) (x:V) (v:Value) (Q:Bool->Hp->Prop),Inv X pins U H s->RelV x v->t x U H Q->wpAny (model X.prog X.w) X.A (testChain pos v ops (evalEach rs X.env)) (TP X pins U Q) X.xe s
noncomputable def zrq (r:R2) (tb:TE):V->TE:=fun x U H Q=>tb U H fun y H2=>r x y H2 Q
noncomputable def zrr (r:R2) (tb:TE) (t:V->TE):V->TE:=fun x U H Q=>tb U H fun y H2=>r x y H2 fun z H3=>match z with | .bl k=>(if k=true then t y U H3 Q else Q (.bl false) H3) | _=>False
noncomputable def zld (r:R2) (tb:TE):V->TT:=fun x U H Q=>tb U H fun y H2=>r x y H2 fun z H3=>match z with | .bl k=>Q k H3 | _=>False
noncomputable def zle (r:R2) (tb:TE) (t:V->TT):V->TT:=fun x U H Q=>tb U H fun y H2=>r x y H2 fun z H3=>match z with | .bl k=>(if k=true then t y U H3 Q else Q false H3) | _=>False
theorem zjf {op:CmpOp} {r:R2} (ho:OpR X (compareOp op) r) (hb:PE X b tb):PCh X [op] [b] (zrq r tb):=by
 intro pos pins s U H x v Q I rx h
 exact chain_last (thn (hb pins s U H _ I h) fun u s2 ⟨y,H2,I2,r2,q2⟩=>ho pins s2 U H2 x y v u Q I2 rx r2 q2)
theorem zjg {op op':CmpOp} {ops:List CmpOp} {r':Expr} {rs:List Expr} {r:R2} {t:V->TE} (ho:OpR X (compareOp op) r) (hb:PE X b tb) (hr:PCh X (op'::ops) (r'::rs) t):PCh X (op::op'::ops) (b::r'::rs) (zrr r tb t):=by
 intro pos pins s U H x v Q I rx h
 refine chain_link (thn (hb pins s U H _ I h) fun u s2 ⟨y,H2,I2,r2,q2⟩=>thn (ho pins s2 U H2 x y v u _ I2 rx r2 q2) fun d s3 ⟨z,H3,I3,r3,q3⟩=>?_)
 cases z<;>first | exact q3.elim | skip
 rename_i k
 cases r3
 refine wpAny_truthy_bool ?_
 cases k with
 | false=>exact ite_ff ⟨.bl false,H3,I3,rfl,by simpa using q3⟩
 | true=>exact ite_tt (hr pos pins s3 U H3 y u Q I3 r2 (by simpa using q3))
theorem zg6 {op:CmpOp} {r:R2} (ho:OpR X (compareOp op) r) (hb:PE X b tb):PChT X [op] [b] (zld r tb):=by
 intro pos pins s U H x v Q I rx h
 refine test_last (thn (hb pins s U H _ I h) fun u s2 ⟨y,H2,I2,r2,q2⟩=>thn (ho pins s2 U H2 x y v u _ I2 rx r2 q2) fun d s3 ⟨z,H3,I3,r3,q3⟩=>?_)
 cases z<;>first | exact q3.elim | skip
 cases r3
 exact wpAny_truthy_bool ⟨H3,I3,q3⟩
theorem zg7 {op op':CmpOp} {ops:List CmpOp} {r':Expr} {rs:List Expr} {r:R2} {t:V->TT} (ho:OpR X (compareOp op) r) (hb:PE X b tb) (hr:PChT X (op'::ops) (r'::rs) t):PChT X (op::op'::ops) (b::r'::rs) (zle r tb t):=by
 intro pos pins s U H x v Q I rx h
 refine test_link (thn (hb pins s U H _ I h) fun u s2 ⟨y,H2,I2,r2,q2⟩=>thn (ho pins s2 U H2 x y v u _ I2 rx r2 q2) fun d s3 ⟨z,H3,I3,r3,q3⟩=>?_)
 cases z<;>first | exact q3.elim | skip
 rename_i k
 cases r3
 refine wpAny_truthy_bool ?_
 cases k with
 | false=>exact ite_ff ⟨H3,I3,by simpa using q3⟩
 | true=>exact ite_tt (hr pos pins s3 U H3 y u Q I3 r2 (by simpa using q3))
noncomputable def y0b (ta:TE) (t:V->TE):TE:=fun U H Q=>ta U H fun x H1=>t x U H1 Q
noncomputable def zrs (ta:TE) (t:V->TT):TT:=fun U H Q=>ta U H fun x H1=>t x U H1 Q
theorem zrt {op₁ op₂:CmpOp} {ops:List CmpOp} {r₁ r₂:Expr} {rs:List Expr} {t:V->TE} (ha:PE X a ta) (hr:PCh X (op₁::op₂::ops) (r₁::r₂::rs) t) (hm:lastMarks (op₁::op₂::ops) (r₁::r₂::rs)=false:=by with_unfolding_all rfl) :
  PE X (.Compare a (op₁::op₂::ops) (r₁::r₂::rs) pos) (y0b ta t):=by
 intro pins s U H Q I h
 exact Compare_chain (thn (ha pins s U H _ I h) fun v s1 ⟨x,H1,I1,r1,q1⟩=>hr pos pins s1 U H1 x v Q I1 r1 q1) hm
theorem zru {op₁ op₂:CmpOp} {ops:List CmpOp} {r₁ r₂:Expr} {rs:List Expr} {t:V->TT} (ha:PE X a ta) (hr:PChT X (op₁::op₂::ops) (r₁::r₂::rs) t) (hm:lastMarks (op₁::op₂::ops) (r₁::r₂::rs)=false:=by with_unfolding_all rfl) :
  PT X (.Compare a (op₁::op₂::ops) (r₁::r₂::rs) pos) (zrs ta t):=by
 intro pins s U H Q I h
 exact isTrue_chain (thn (ha pins s U H _ I h) fun v s1 ⟨x,H1,I1,r1,q1⟩=>hr pos pins s1 U H1 x v Q I1 r1 q1) hm
noncomputable def zrv (ta tb:TE):TE:=fun U H Q=>ta U H fun x H1=>match x with | .bl c=>(if c=true then tb U H1 Q else Q (.bl false) H1) | _=>False
noncomputable def y0c (ta tb:TE):TE:=fun U H Q=>ta U H fun x H1=>match x with | .bl c=>(if c=true then Q (.bl true) H1 else tb U H1 Q) | _=>False
end
section
variable {X:Cx} {a b c:Expr} {ta tb:TE} {pos:Pos} {rest:List Expr}
theorem zni (ha:PE X a ta) (hb:PE X (.BoolOp .And (b::rest) pos) tb):PE X (.BoolOp .And (a::b::rest) pos) (zrv ta tb):=by
 intro pins s U H Q I h
 refine BoolOp_and (thn (ha pins s U H _ I h) fun v s1 ⟨x,H1,I1,r1,q1⟩=>?_)
 cases x<;>first | exact q1.elim | skip
 rename_i k
 cases r1
 refine wpAny_truthy_bool ?_
 cases k with
 | true=>exact ite_tt (hb pins s1 U H1 Q I1 (by simpa using q1))
 | false=>exact ite_ff ⟨.bl false,H1,I1,rfl,by simpa using q1⟩
theorem zrw (ha:PE X a ta) (hb:PE X (.BoolOp .Or (b::rest) pos) tb):PE X (.BoolOp .Or (a::b::rest) pos) (y0c ta tb):=by
 intro pins s U H Q I h
 refine BoolOp_or (thn (ha pins s U H _ I h) fun v s1 ⟨x,H1,I1,r1,q1⟩=>?_)
 cases x<;>first | exact q1.elim | skip
 rename_i k
 cases r1
 refine wpAny_truthy_bool ?_
 cases k with
 | true=>exact ite_tt ⟨.bl true,H1,I1,rfl,by simpa using q1⟩
 | false=>exact ite_ff (hb pins s1 U H1 Q I1 (by simpa using q1))
noncomputable def zxd (ta:TE):TE:=fun U H Q=>ta U H fun x H1=>zat x H1 fun k H2=>Q (.bl (!k)) H2
theorem znj (ha:PE X a ta):PE X (.UnaryOp .Not a pos) (zxd ta):=by
 intro pins s U H Q I h
 refine UnaryOp_ (thn (ha pins s U H _ I h) fun v s1 ⟨x,H1,I1,r1,q1⟩=>not_of ?_)
 exact thn (zl9 pins s1 U H1 x v _ I1 r1 (zdi q1)) fun k s2 ⟨H2,I2,q2⟩=>⟨.bl (!k),H2,I2,rfl,q2⟩
noncomputable def z94 (H:Hp):V->Option String
 | .non=>some "NoneType"
 | .bl _=>some "bool"
 | .int _=>some "int"
 | .str _=>some "str"
 | .ref a=>(match H a with
  | some (.lst _)=>some "list"
  | some (.frz _ (.lst _))=>some "list"
  | some (.tup _)=>some "tuple"
  | some (.dK _)=>some "dict"
  | some (.dT _)=>some "dict"
  | _=>none)
 | _=>none
noncomputable def zc4 (t c:String):Bool:=t==c||(t=="bool"&&c=="int")
noncomputable def z4r (c:String):Bool:=["int","bool","str","list","tuple","dict"].contains c
theorem z1r {K:Frag} {t c:String} (ht:["NoneType","bool","int","str","list","tuple","dict"].contains t=true) (hc:z4r c=true):kitOne K (.type t) (.type c)=some (zc4 t c):=by
 have h1:t="NoneType"\/t="bool"\/t="int"\/t="str"\/t="list"\/t="tuple"\/t="dict":=by simpa using ht
 have h2:c="int"\/c="bool"\/c="str"\/c="list"\/c="tuple"\/c="dict":=by simpa [z4r] using hc
 rcases h1 with rfl | rfl | rfl | rfl | rfl | rfl | rfl<;>rcases h2 with rfl | rfl | rfl | rfl | rfl | rfl<;>first | rfl | (with_unfolding_all rfl)
theorem zjh:CallR X (.builtin "isinstance") (fun xs H Q=>match xs with
  | [x,.ty c]=>z4r c=true/\(match z94 H x with | some t=>Q (.bl (zc4 t c)) H | none=>False)
  | _=>False):=by
 intro pins s U H xs us Q I r h
 split at h
 . rename_i x c
   obtain ⟨hc,h⟩:=h
   obtain ⟨u,w',rfl,ru,rw'⟩:=zn7 r
   cases rw'
   split at h
   . rename_i t et
     have fin:∀(tk:Nat),EP X pins U Q (.bool (zc4 t c)) { s with toks:=tk }:=fun tk=>⟨.bl _,H,I.tok _,rfl,h⟩
     cases x<;>simp only [z94] at et
     case non=>cases et;exact z1q I ru .non (z1r (by decide) hc) fin
     case bl b=>cases et;exact z1q I ru (.bl b) (z1r (by decide) hc) fin
     case int b=>cases et;exact z1q I ru (.int b) (z1r (by decide) hc) fin
     case str b=>cases et;exact z1q I ru (.str b) (z1r (by decide) hc) fin
     case ref a=>
      split at et<;>first | (cases et;done) | skip
      . rename_i ys e;cases et;exact z1q I ru (.lst e) (z1r (by decide) hc) fin
      . rename_i o ys e;cases et;exact z1q I ru (.frz e) (z1r (by decide) hc) fin
      . rename_i ys e;cases et;exact z1q I ru (.tup e) (z1r (by decide) hc) fin
      . rename_i ys e;cases et;exact z1q I ru (.dK e) (z1r (by decide) hc) fin
      . rename_i ys e;cases et;exact z1q I ru (.dT e) (z1r (by decide) hc) fin
     all_goals cases et
   . exact h.elim
 . exact h.elim
theorem zg8 (hc:X.calm=true):CallR X (.builtin "sum") (fun xs H Q=>match xs with
  | [.ref p]=>∃ns:List Int,z6d H p=some (ns.map V.int)/\Q (.int ns.sum) H
  | _=>False):=by
 intro pins s U H xs us Q I r h
 split at h
 . rename_i p
   obtain ⟨ns,e,q⟩:=h
   obtain ⟨u,rfl,ru⟩:=z4o r
   cases ru
   have key:∀{its:List Value},Vals (ns.map V.int) its->∃ys:Array (Int×Tok),its.toArray=intItems ys/\preSum (numAt ys) ys.size=ns.sum:=fun {its} rv=>by
    have hi:=z2f rv
    obtain ⟨ys,hx⟩:=hi.allInts.items
    refine ⟨ys,hx,?_⟩
    have e1:ns=ys.toList.map (·.1):=by
     rw [<-nums_intItems,<-hx]
     exact (show numsOf its.toArray.toList=ns from hi.numsOf).symm
    rw [preSum_eq,List.take_of_length_le (by simp),e1]
   rcases zdh (K:=X.K) e with hq | hq
   . obtain ⟨its,rv,pl,_⟩:=I.list hq
     obtain ⟨ys,hx,es⟩:=key rv
     refine sum_intListG (I.ok.hd hc) (hx ▸ pl.isList) fun h' tk t' hk=>?_
     rw [es]
     exact ⟨.int ns.sum,H,I.kept hk,⟨_,rfl⟩,q⟩
   . obtain ⟨its,rv,pl,_⟩:=I.tuple hq
     obtain ⟨ys,hx,es⟩:=key rv
     refine PySem.W.ktm_sumG (I.ok.hd hc) (hx ▸ pl) fun h' tk t' hk=>?_
     rw [es]
     exact ⟨.int ns.sum,H,I.kept hk,⟨_,rfl⟩,q⟩
 . exact h.elim
abbrev zg9 (s:Shared) (L:Addr):List (Addr×Obj):=z6u (Att.noObjs s.heap) s.heap L
section
variable {pins:List (Addr×Obj)} {U:St} {H:Hp} {s:Shared} {h':Heap} {m:Str->Option Value}
theorem z8i {L:Addr} (N:News (Att.noObjs s.heap) L h' (zg9 s L)):∀b o,b≠L->s.heap.get? b=some o->h'.get? b=some o:=fun b o hb e=>(N (b,o) (z6v hb (Att.noObjs_get _ _) e)).1
theorem Inv.frn {tk:Nat} (I:Inv X pins U H s) (hn:s.heap.Ns X.env.locals m) (F:Fr (Att.noObjs s.heap) X.env.locals h' m) (N:News (Att.noObjs s.heap) X.env.locals h' (zg9 s X.env.locals)):Inv X pins U H { s with heap:=h',toks:=tk }:=by
 have kept:=z8i N
 refine I.step (g':=s.gens) (d':=s.drawn) (ch:=[]) (fun _ z=>nomatch z) (fun b o hL _ _ e _=>kept b o hL e) (fun b o hL _ _ e _=>⟨o.slots,kept b o hL e⟩) (fun _ _ _ _ n=>n) (fun b o _ e=>?_) (fun _ _ e=>e) (fun _ _ _ e=>e) (fun b ps e=>⟨#[],by rw [e];simp⟩) (fun m' hm=>?_) (fun b u e=>?_) I.bare
 . by_cases hb:b=X.env.locals
   . subst hb
     obtain ⟨o',_,_,ho',_⟩:=F.ns
     exact ⟨o',ho'⟩
   . exact ⟨o,kept b o hb e⟩
 . rw [hm.eq_nsMap,<-hn.eq_nsMap];exact F.ns
 . refine (I.hok b u e).stay (fun c v hc q=>kept c v ?_ q) (fun _ q=>q) fun _ _ q=>q
   intro z
   rcases hc with hc | hc
   . rw [<-hc,z,I.free] at e;cases e
   . rw [z,I.free] at hc;cases hc
theorem Inv.frnew {tk:Nat} {D:Addr} {ob:Obj} {o:HO} (I:Inv X pins U H s) (hn:s.heap.Ns X.env.locals m) (F:Fr (Att.noObjs s.heap) X.env.locals h' m) (N:News (Att.noObjs s.heap) X.env.locals h' ((D,ob)::zg9 s X.env.locals))
  (hD:s.heap.get? D=none) (new:ObjOk X.prog X.w (upd H D o) h' D o):H D=none/\Inv X pins U (upd H D o) { s with heap:=h',toks:=tk }:=by
 have kept:=z8i (fun p hp=>N p (.tail _ hp))
 have hDL:D≠X.env.locals:=(N (D,ob) (.head _)).2.1
 have neD:∀b o,s.heap.get? b=some o->b≠D:=fun b o e z=>by rw [z,hD] at e;cases e
 have HD:H D=none:=by
  cases q:H D with
  | none=>rfl
  | some u=>
   have:=(I.hok D u q).lt
   obtain ⟨v,hv⟩:∃v,s.heap.get? D=some v:=by
    have z:=I.hok D u q
    cases u with
    | lst xs=>obtain ⟨_,_,_,_,e⟩:=z;exact ⟨_,e⟩
    | tup xs=>obtain ⟨_,_,_,o,e,_⟩:=z;exact ⟨_,e⟩
    | dK kvs=>obtain ⟨_,_,_,_,o,_,_,e,_⟩:=z;exact ⟨_,e⟩
    | dT kvs=>obtain ⟨_,_,_,_,o,_,_,e,_⟩:=z;exact ⟨_,e⟩
    | set S n=>obtain ⟨_,_,_,_,e,_⟩:=z;exact ⟨_,e⟩
    | ins C dx fs=>obtain ⟨_,_,_,e,_⟩:=z;exact ⟨_,e⟩
    | own x=>exact z
    | xd fs=>obtain ⟨mA,n1,_⟩:=z;obtain ⟨o,_,_,e,_⟩:=n1;exact ⟨o,e⟩
    | met f x=>exact ⟨_,z⟩
    | rng lo hi=>obtain ⟨_,_,_,e⟩:=z;exact ⟨_,e⟩
    | frz o u=>exact ⟨_,z.1⟩
    | tbl ps=>exact ⟨_,z⟩
    | ctb q=>obtain ⟨_,e,_⟩:=z;exact ⟨_,e⟩
    | ext φ=>exact z.2.1
   rw [hD] at hv;cases hv
 refine ⟨HD,I.step (g':=s.gens) (d':=s.drawn) (ch:=[]) (fun _ z=>nomatch z) (fun b o hL _ _ e _=>kept b o hL e) (fun b o hL _ _ e _=>⟨o.slots,kept b o hL e⟩) (fun b ob _ e n=>by rw [z08 (neD b ob e)];exact n) (fun b o _ e=>?_)
  (fun b xs e=>by rw [z08 (z0f e HD)];exact e) (fun b u xs e=>by rw [z08 (z0f e HD)];exact e) (fun b ps e=>⟨#[],by rw [z08 (z0f e HD),e];simp⟩) (fun m' hm=>?_) (fun b u e=>?_) I.bare⟩
 . by_cases hb:b=X.env.locals
   . subst hb
     obtain ⟨o',_,_,ho',_⟩:=F.ns
     exact ⟨o',ho'⟩
   . exact ⟨o,kept b o hb e⟩
 . rw [hm.eq_nsMap,<-hn.eq_nsMap];exact F.ns
 . by_cases hb:b=D
   . subst hb
     rw [z0d] at e
     cases e
     exact new
   . rw [z08 hb] at e
     refine (I.hok b u e).stay (fun c v hc q=>kept c v ?_ q) (fun c q=>?_) fun c xs q=>?_
     . intro z
       rcases hc with hc | hc
       . rw [<-hc,z,I.free] at e;cases e
       . rw [z,I.free] at hc;cases hc
     . rw [z08 (z0f q HD)];exact q
     . rw [z08 (z0f q HD)];exact q
end
theorem z74 {bs:List Bool}:∀{us:List Value},Vals (bs.map V.bl) us->LSm.BoolsAre us bs:=by
 induction bs with
 | nil=>intro us r;cases r;exact .nil
 | cons b bs ih=>
  intro us r
  cases r with
  | cons r1 r2=>cases r1;exact .cons b (ih r2)
theorem zga (hc:X.calm=true):CallR X (.builtin "all") (fun xs H Q=>match xs with
  | [.ref p]=>∃bs:List Bool,Rd H p (.lst (bs.map V.bl))/\Q (.bl (bs.all id)) H
  | _=>False):=by
 intro pins s U H xs us Q I r h
 split at h
 . rename_i p
   obtain ⟨bs,e,q⟩:=h
   obtain ⟨u,rfl,ru⟩:=z4o r
   cases ru
   obtain ⟨its,rv,pl,_⟩:=I.list (.inl e)
   obtain ⟨m,hn,_⟩:=id I.loc
   exact LSm.all_bools (Att.fr_all hn) (z53 (g:=Att.noObjs s.heap) (L:=X.env.locals)) (I.ok.hd hc) pl.isList (z74 rv) fun h' tk F N=>⟨.bl _,H,I.frn hn F N,rfl,q⟩
 . exact h.elim
theorem zgb (hc:X.calm=true):CallR X (.builtin "any") (fun xs H Q=>match xs with
  | [.ref p]=>∃bs:List Bool,Rd H p (.lst (bs.map V.bl))/\Q (.bl (bs.any id)) H
  | _=>False):=by
 intro pins s U H xs us Q I r h
 split at h
 . rename_i p
   obtain ⟨bs,e,q⟩:=h
   obtain ⟨u,rfl,ru⟩:=z4o r
   cases ru
   obtain ⟨its,rv,pl,_⟩:=I.list (.inl e)
   obtain ⟨m,hn,_⟩:=id I.loc
   exact LSm.any_bools (Att.fr_all hn) (z53 (g:=Att.noObjs s.heap) (L:=X.env.locals)) (I.ok.hd hc) pl.isList (z74 rv) fun h' tk F N=>⟨.bl _,H,I.frn hn F N,rfl,q⟩
 . exact h.elim
theorem zgc:CallR X (.type "int") (fun xs H Q=>match xs with | [.int i]=>Q (.int i) H | [.bl k]=>Q (.int (if k then 1 else 0)) H | _=>False):=call_int1.imp fun xs H Q q=>by
 split at q
 . exact .inl ⟨_,rfl,q⟩
 . exact .inr ⟨_,rfl,q⟩
 . exact q.elim
end
noncomputable def ItS (S:Hp->Prop) (xs:List V):It:=⟨fun i H=>S H/\i<xs.length,fun i H x H'=>H'=H/\xs[i]?=some x,fun i H=>S H/\xs.length<=i⟩
theorem Turn.conv {P:Program} {w:World} {K:Frag} {tg:Expr} {J J':It} {fp:List Addr} {it:Addr} {tn:Nat->Heap->Prop} (T:Turn P w K tg J fp it tn) (h1:∀i H,J'.go i H->J.go i H) (h2:∀i H x H',J'.go i H->J.yld i H x H'->J'.yld i H x H')
  (h3:∀i H,J'.stop i H->J.stop i H):Turn P w K tg J' fp it tn where
 mem:=T.mem
 obj:=T.obj
 keep:=T.keep
 item:=fun X a b c d i pins s U H E I hf st hg=>thn (T.item X a b c d i pins s U H E I hf st (h1 i H hg)) fun r s1 ⟨u,e,h⟩=>⟨u,e,thn h fun _ s2 ⟨x,H',I',r',y',st',fr'⟩=>⟨x,H',I',r',h2 i H x H' hg y',st',fr'⟩⟩
 done:=fun X a b c d i pins s U H E I hf st hg=>T.done X a b c d i pins s U H E I hf st (h3 i H hg)
 self:=T.self
section
variable {X:Cx} {tg:Expr}
def zqf (x:V) (H1:Hp) (R:It->Hp->Prop):Prop:=match x with
 | .ref a=>(match H1 a with
  | some (.lst xs)=>R (ItS (fun H'=>Rd H' a (.lst xs)) xs) H1
  | some (.frz _ (.lst xs))=>R (ItS (fun H'=>Rd H' a (.lst xs)) xs) H1
  | some (.tup xs)=>R (ItS (fun H'=>H' a=some (.tup xs)) xs) H1
  | _=>False)
 | _=>False
theorem zji {a:Addr} {H:Hp} {R:It->Hp->Prop} {xs:List V} (h:Rd H a (.lst xs)) (r:R (ItS (fun H'=>Rd H' a (.lst xs)) xs) H):zqf (.ref a) H R:=by
 unfold zqf
 rcases h with h | ⟨o,h⟩
 . dsimp only;rw [h];exact r
 . dsimp only;rw [h];exact r
theorem zjj {a:Addr} {H:Hp} {R:It->Hp->Prop} {xs:List V} (h:H a=some (.tup xs)) (r:R (ItS (fun H'=>H' a=some (.tup xs)) xs) H):zqf (.ref a) H R:=by
 unfold zqf
 dsimp only;rw [h];exact r
noncomputable def y14 (K:Frag) (tl:TE):TI:=fun U H R=>tl U H fun x H1=>zqf x H1 R
theorem zrx {l:Expr} {tl:TE} (hl:PE X l tl):PI X tg l (y14 X.K tl):=by
 intro pins s U H R I h
 refine thn (hl pins s U H _ I h) fun v s1 ⟨x,H1,I1,r1,q1⟩=>?_
 cases x<;>first | exact q1.elim | skip
 rename_i a
 cases r1
 unfold zqf at q1
 dsimp only at q1
 have asList:∀xs,Rd H1 a (.lst xs)->R (ItS (fun H'=>Rd H' a (.lst xs)) xs) H1->wpAny (model X.prog X.w) X.A (pyIter (.ref a)) (PIE X pins U tg R) X.xe s1:=fun xs hq q=>by
  obtain ⟨its,rv,p,hz⟩:=I1.list (.inl hq)
  refine wpAny_pyIter_list p.isList ?_
  refine ⟨s1.heap.objs.size,[s1.heap.objs.size],_,_,H1,rfl,I1.kept (t':=s1.toks) fun b o e=>Heap.get?_push_of_some _ e,(zfu a _).conv ?_ ?_ ?_,⟨_,Heap.get?_push_size _ rfl,rfl,rfl⟩,fun b hb=>?_,q⟩
  . exact fun i H' ⟨h1,h2⟩=>⟨xs,xs[i],.inl h1,by simp [h2]⟩
  . exact fun i H' x H'' ⟨h1,h2⟩ ⟨e,y⟩=>⟨e,y xs (.inl h1)⟩
  . exact fun i H' ⟨h1,h2⟩=>⟨xs,.inl h1,h2⟩
  . have e:b=s1.heap.objs.size:=by simpa using hb
    subst e
    exact I1.fpOk (Nat.le_refl _) (I1.hok.fresh (Nat.le_refl _))
 split at q1
 . rename_i xs e;exact asList xs (.inl e) q1
 . rename_i o xs e;exact asList xs (.inr ⟨o,e⟩) q1
 . rename_i xs e
   obtain ⟨its,rv,p,hz⟩:=I1.tuple (.of e)
   refine wpAny_pyIter_tuple (show s1.heap.IsTuple a its.toArray from p) ?_
   refine ⟨s1.heap.objs.size,[s1.heap.objs.size],_,_,H1,rfl,I1.kept (t':=s1.toks) fun b o e=>Heap.get?_push_of_some _ e,(zem a _).conv ?_ ?_ ?_,⟨_,Heap.get?_push_size _ rfl,rfl,rfl⟩,fun b hb=>?_,q1⟩
   . exact fun i H' ⟨h1,h2⟩=>⟨xs,xs[i],.of h1,by simp [h2]⟩
   . exact fun i H' x H'' ⟨h1,h2⟩ ⟨e,y⟩=>⟨e,y xs (.of h1)⟩
   . exact fun i H' ⟨h1,h2⟩=>⟨xs,.of h1,h2⟩
   . have e:b=s1.heap.objs.size:=by simpa using hb
     subst e
     exact I1.fpOk (Nat.le_refl _) (I1.hok.fresh (Nat.le_refl _))
 . exact q1.elim
noncomputable def zgd (lo:Int) (n:Nat):List V:=(List.range n).map fun (i:Nat)=>V.int (lo+i)
theorem z95 (lo:Int) (n:Nat):(zgd lo n).length=n:=by simp [zgd]
theorem znk (lo:Int) (n i:Nat) (h:i<n):(zgd lo n)[i]?=some (.int (lo+i)):=by simp [zgd,h]
noncomputable def iR1 (ta:TA):TI:=fun U H R=>ta U H fun vs H1=>match vs with | [.int j]=>(-(2 ^ 62)<=j/\j<2 ^ 62)/\R (ItS (fun _=>True) (zgd 0 j.toNat)) H1 | _=>False
noncomputable def iR2 (ta:TA):TI:=fun U H R=>ta U H fun vs H1=>match vs with | [.int i,.int j]=>(-(2 ^ 62)<=i/\i<2 ^ 62/\-(2 ^ 62)<=j/\j<2 ^ 62)/\R (ItS (fun _=>True) (zgd i (j - i).toNat)) H1 | _=>False
theorem z2g (lo:Int) (n:Nat):(∀i (H:Hp),(ItS (fun _=>True) (zgd lo n)).go i H->(Itr lo n).go i H)/\(∀i H x H',(ItS (fun _=>True) (zgd lo n)).go i H->(Itr lo n).yld i H x H'->(ItS (fun _=>True) (zgd lo n)).yld i H x H') /\
  (∀i (H:Hp),(ItS (fun _=>True) (zgd lo n)).stop i H->(Itr lo n).stop i H):=by
 refine ⟨fun i H ⟨_,h⟩=>?_,fun i H x H' ⟨_,h⟩ ⟨e,y⟩=>⟨e,?_⟩,fun i H ⟨_,h⟩=>?_⟩
 . rw [z95] at h;exact h
 . rw [z95] at h;rw [y];exact znk lo n i h
 . rw [z95] at h;exact h
end
def y0d (J:It) (g:TG) (tb:TS) (D:Ends) (U:St) (H1:Hp):Prop:=∃W:Nat->Nat->St->Hp->Prop,(∃m,W 0 m U H1)/\∀i m U H,W i m U H ->
 (J.stop i H/\D.nx U H)\/(J.go i H/\∃N:St->Hp->Prop,(∀σ' H',N σ' H'->∃m',m'<m/\W (i+1) m' σ' H')/\∀x H',J.yld i H x H'->g x U H' fun σ2 H2=>tb { D with nx:=N,ct:=N,bk:=D.nx } σ2 H2)
noncomputable def zjk (wi:TI) (g:TG) (tb:TS):TS:=fun D U H=>wi U H fun J H1=>y0d J g tb D U H1
theorem zge {X:Cx} {tg iter:Expr} {body:List Stmt} {wi:TI} {g:TG} {tb:TS} {pos:Pos} (hp:PassesOwn (model X.prog X.w) X.A X.env X.xe) (hc:X.calm=true) (hi:PI X tg iter wi) (hg:PG X tg g) (hb:PSs X body tb)
 (hs:∀x,foldedSetIterable iter X.env x=pure x:=by intro _;rfl):PS X (.For tg iter body [] pos) (zjk wi g tb):=zr7 hp hc hi hg hb hs
theorem Same.upd_new {H:Hp} {a:Addr} {o:HO} (h:H a=none):Same H (upd H a o):=fun b u e=>by rw [z08 (z0f e h)];exact e
theorem Same.upd_at {H H1:Hp} {a:Addr} {o:HO} (s:Same H H1) (h:H a=none):Same H (upd H1 a o):=fun b u e=>by rw [z08 (z0f e h)];exact s b u e
section
variable {X:Cx} {pins:List (Addr×Obj)} {U:St} {H:Hp} {s:Shared}
theorem Inv.turnedT {wr:List Addr} {h':Heap} {tk:Nat} {T:Addr} {xs:List V} {its:List Value} (I:Inv X pins U H s) (hw:∀b∈wr,zbr X pins H b) (k:∀b o,b∉wr->s.heap.get? b=some o->h'.get? b=some o)
  (hT:s.heap.objs.size<=T) (ht:IsTp h' T its.toArray) (rv:Vals xs its) (hz:xs.length<=sizeLine):Inv X pins U (upd H T (.tup xs)) { s with heap:=h',toks:=tk }:=by
 have HT:H T=none:=I.hok.fresh hT
 have nw:∀b u,H b=some u->b∉wr:=fun b u e z=>by rw [(hw b z).1] at e;cases e
 have neT:∀b o,s.heap.get? b=some o->b≠T:=fun b o e=>Nat.ne_of_lt (Nat.lt_of_lt_of_le (Heap.lt_size e) hT)
 refine I.step (g':=s.gens) (d':=s.drawn) (ch:=wr) (fun b hb=>⟨(hw b hb).2.2.2.1,(hw b hb).2.1,(hw b hb).2.2.2.2.1,(hw b hb).2.2.2.2.2⟩) (fun b o _ _ hc e _=>k b o hc e) (fun b o _ _ hc e _=>⟨o.slots,k b o hc e⟩)
  (fun b o _ e n=>by rw [z08 (neT b o e)];exact n) (fun b o hc e=>⟨o,k b o hc e⟩) (fun b ys e=>by rw [z08 (z0f e HT)];exact e) (fun b u ys e=>by rw [z08 (z0f e HT)];exact e)
  (fun b ps e=>⟨#[],by rw [z08 (z0f e HT),e];simp⟩) (fun m hm=>?_) (fun b u e=>?_) I.bare
 . obtain ⟨o,es,ep,ho,r⟩:=hm
   exact ⟨o,es,ep,k _ o (fun z=>(hw _ z).2.1 rfl) ho,r⟩
 . by_cases hb:b=T
   . subst hb
     rw [z0d] at e
     cases e
     exact ⟨hz,its,rv,ht⟩
   . rw [z08 hb] at e
     refine (I.hok b u e).stay (fun c v hc q=>k c v ?_ q) (fun c q=>?_) fun c ys q=>?_
     . rcases hc with z | z
       . rw [z];exact nw b u e
       . exact nw c _ z
     . rw [z08 (z0f q HT)];exact q
     . rw [z08 (z0f q HT)];exact q
end
section
variable {X:Cx} {pins:List (Addr×Obj)} {U:St} {H:Hp} {s:Shared}
theorem Inv.turnedN {wr:List Addr} {h':Heap} {tk:Nat} (I:Inv X pins U H s) (hw:∀b∈wr,zbr X pins H b) (k:∀b o,b∉wr->s.heap.get? b=some o->h'.get? b=some o):Inv X pins U H { s with heap:=h',toks:=tk }:=by
 have nw:∀b u,H b=some u->b∉wr:=fun b u e z=>by rw [(hw b z).1] at e;cases e
 refine I.step (g':=s.gens) (d':=s.drawn) (ch:=wr) (fun b hb=>⟨(hw b hb).2.2.2.1,(hw b hb).2.1,(hw b hb).2.2.2.2.1,(hw b hb).2.2.2.2.2⟩) (fun b o _ _ hc e _=>k b o hc e) (fun b o _ _ hc e _=>⟨o.slots,k b o hc e⟩)
  (fun b o _ e n=>n) (fun b o hc e=>⟨o,k b o hc e⟩) (fun b ys e=>e) (fun b u ys e=>e) (fun b ps e=>⟨#[],by rw [e];simp⟩) (fun m hm=>?_) (fun b u e=>?_) I.bare
 . obtain ⟨o,es,ep,ho,r⟩:=hm
   exact ⟨o,es,ep,k _ o (fun z=>(hw _ z).2.1 rfl) ho,r⟩
 . refine (I.hok b u e).stay (fun c v hc q=>k c v ?_ q) (fun c q=>q) fun c ys q=>q
   rcases hc with z | z
   . rw [z];exact nw b u e
   . exact nw c _ z
end
noncomputable def ItP (S:Hp->Prop) (ps:List (V×V)):It:=⟨fun i H=>S H/\i<ps.length,fun i H x H'=>∃T a b,x=.ref T/\H T=none/\H'=upd H T (.tup [a,b])/\ps[i]?=some (a,b),fun i H=>S H/\i=ps.length⟩
theorem zry:2<=sizeLine:=by rw [sizeLine_eq];decide
section
theorem zgf {n l1 l2:Addr} (h1:l1<n) (h2:l2<n):ZipApart (n+4) (n+2) (n+3) n (n+1) l1 l2:=PySem.W.ktu_apart _ _ _ h1 h2
end
section
variable {X:Cx} {tg:Expr} {a b:Expr} {ta:TA} {p pos:Pos}
theorem zxe (hg:Gl X "range") (hm:X.mg "range"=none) (ha:PA X [a] ta) (hs:starEach [a] X.env=[(false,eval a X.env)]:=by rfl):PI X tg (.Call (.Name "range" p) [a] [] pos) (iR1 ta):=by
 intro pins s U H R I h
 refine Call_ (z6x I hg hm boot_range (PyProof.Rows.callWith_type1 (thn (ha pos pins s U H _ I h) fun us s1 ⟨vs,H1,I1,r1,q1⟩=>?_) hs rfl))
 dsimp only at q1
 split at q1
 . rename_i j
   obtain ⟨⟨h1,h2⟩,q⟩:=q1
   obtain ⟨u,rfl,t,rfl⟩:=z4o r1
   refine call_range_1 (thn (zdb (tg:=tg) (R:=fun J H1=>∃J',(∀i H,J'.go i H->J.go i H)/\(∀i H x H',J'.go i H->J.yld i H x H'->J'.yld i H x H')/\(∀i H,J'.stop i H->J.stop i H)/\R J' H1) I1 (by lia) (by lia) h1 h2 ?_) fun itv s2 h2=>?_)
   . refine ⟨_,(z2g 0 (j - 0).toNat).1,(z2g 0 (j - 0).toNat).2.1,(z2g 0 (j - 0).toNat).2.2,?_⟩
     simpa using q
   . obtain ⟨it,fp,tn,J,H2,e,I2,T,st,hf,J',c1,c2,c3,r⟩:=h2
     exact ⟨it,fp,tn,J',H2,e,I2,T.conv c1 c2 c3,st,hf,r⟩
 . exact q1.elim
theorem zxf (hg:Gl X "range") (hm:X.mg "range"=none) (ha:PA X [a,b] ta) (hs:starEach [a,b] X.env=[(false,eval a X.env),(false,eval b X.env)]:=by rfl) (hs2:starEach [b] X.env=[(false,eval b X.env)]:=by rfl) :
  PI X tg (.Call (.Name "range" p) [a,b] [] pos) (iR2 ta):=by
 intro pins s U H R I h
 refine Call_ (z6x I hg hm boot_range (PyProof.Rows.callWith_type1 (thn (ha pos pins s U H _ I h) fun us s1 ⟨vs,H1,I1,r1,q1⟩=>?_) (by rw [hs,hs2]) (by rw [hs2];rfl)))
 dsimp only at q1
 split at q1
 . rename_i i j
   obtain ⟨⟨h1,h2,h3,h4⟩,q⟩:=q1
   obtain ⟨u,w',rfl,⟨t,rfl⟩,⟨t',rfl⟩⟩:=zn7 r1
   refine call_range_2 (thn (zdb (tg:=tg) (R:=fun J H1=>∃J',(∀i H,J'.go i H->J.go i H)/\(∀i H x H',J'.go i H->J.yld i H x H'->J'.yld i H x H')/\(∀i H,J'.stop i H->J.stop i H)/\R J' H1) I1 h1 h2 h3 h4 ?_) fun itv s2 h2=>?_)
   . exact ⟨_,(z2g i (j - i).toNat).1,(z2g i (j - i).toNat).2.1,(z2g i (j - i).toNat).2.2,q⟩
   . obtain ⟨it,fp,tn,J,H2,e,I2,T,st,hf,J',c1,c2,c3,r⟩:=h2
     exact ⟨it,fp,tn,J',H2,e,I2,T.conv c1 c2 c3,st,hf,r⟩
 . exact q1.elim
end
def cB1:V->Hp->(List V->Hp->Prop)->Prop:=fun x H R=>R [x] H
def cBT (n:Nat):V->Hp->(List V->Hp->Prop)->Prop:=fun x H R=>match x with
 | .ref a=>(match H a with | some (.tup xs)=>xs.length=n/\R xs H | _=>False)
 | _=>False
section
variable {X:Cx} {sc:Scope} {caps:List Str} {ix:List Nat} {elt iter:Expr} {ifs:List Expr} {pos px py pz tpos:Pos} {tt:TT} {te:TE} {wi:TI} {x y z:Str} {kt:Nat}
theorem y0e (x:V) (σt cs:St) (H:Hp) (Q:St->Hp->Prop) (hl:σt.length=1) (h:cB1 x H (fun vals H2=>Q (vals.map some++cs) H2)):z2v 0 x (σt++cs) H fun σ2 H2=>(∃vals:List V,vals.length=1/\σ2=vals.map some++cs)/\Q σ2 H2:=by
 match σt,hl with
 | [t],_=>exact ⟨⟨[x],rfl,rfl⟩,h⟩
theorem y0f {K:Frag} (x:V) (σt cs:St) (H:Hp) (Q:St->Hp->Prop) (hl:σt.length=2) (h:cBT 2 x H (fun vals H2=>Q (vals.map some++cs) H2)) :
  zr1 K 2 (z6y (z2v 0) (z6y (z2v 1) zr0)) x (σt++cs) H fun σ2 H2=>(∃vals:List V,vals.length=2/\σ2=vals.map some++cs)/\Q σ2 H2:=by
 cases x<;>first | exact h.elim | skip
 rename_i a
 unfold cBT at h
 dsimp only at h
 split at h
 . rename_i xs e
   obtain ⟨hn,h⟩:=h
   match σt,hl,xs,hn with
   | [t,t'],_,[v,v'],_=>exact ⟨a,[v,v'],rfl,.of e,rfl,v,[v'],rfl,v',[],rfl,rfl,⟨[v,v'],rfl,rfl⟩,h⟩
 . exact h.elim
theorem y15 {K:Frag} (x:V) (σt cs:St) (H:Hp) (Q:St->Hp->Prop) (hl:σt.length=3) (h:cBT 3 x H (fun vals H2=>Q (vals.map some++cs) H2)) :
  zr1 K 3 (z6y (z2v 0) (z6y (z2v 1) (z6y (z2v 2) zr0))) x (σt++cs) H fun σ2 H2=>(∃vals:List V,vals.length=3/\σ2=vals.map some++cs)/\Q σ2 H2:=by
 cases x<;>first | exact h.elim | skip
 rename_i a
 unfold cBT at h
 dsimp only at h
 split at h
 . rename_i xs e
   obtain ⟨hn,h⟩:=h
   match σt,hl,xs,hn with
   | [t,t',t''],_,[v,v',v''],_=>exact ⟨a,[v,v',v''],rfl,.of e,rfl,v,[v',v''],rfl,v',[v''],rfl,v'',[],rfl,rfl,⟨[v,v',v''],rfl,rfl⟩,h⟩
 . exact h.elim
theorem znl {tgs:List Str} {i:Nat} {x:Str} {px:Pos} (hN:(tgs++caps).Nodup) (hi:(tgs++caps)[i]?=some x) (hx:sc.names.lookup x=some .local) (fp:List Addr) (s:Shared) (H:Hp):PG (z0n X sc (tgs++caps) fp s H) (.Name x px) (z2v i):=
 zby (X:=z0n X sc (tgs++caps) fp s H) hN hi (.inl (lookup_relabel_local hx)) (.inr (lookup_relabel_local hx))
theorem zjl (C:CompOk X sc caps ix) (hN:([x]++caps).Nodup) (hx:sc.names.lookup x=some .local) (hi:PI X (.Name x px) iter wi) (ht:∀fp s H,PTs (z0n X sc ([x]++caps) fp s H) ifs tt) (he:∀fp s H,PE (z0n X sc ([x]++caps) fp s H) elt te)
  (hs:∀x,foldedSetIterable iter X.env x=pure x:=by intro _;rfl):PE X (.ListComp elt [⟨.Name x px,iter,ifs,0⟩] sc pos) (z6c wi cB1 ix tt te):=
 zc3 (tgs:=[x]) C hi (fun fp s H=>znl hN rfl hx fp s H) y0e ht he hs
theorem zdj {v:Str} {k:Nat} {spos pv:Pos} (hNX:X.N.Nodup) (hk:X.N[k]?=some v) (hv:X.env.scope.names.lookup v=some .local) (C:CompOk X sc caps ix) (hN:([x]++caps).Nodup) (hx:sc.names.lookup x=some .local) (hi:PI X (.Name x px) iter wi)
  (ht:∀fp s H,PTs (z0n X sc ([x]++caps) fp s H) ifs tt) (he:∀fp s H,PE (z0n X sc ([x]++caps) fp s H) elt te)
  (hsw:swapsWith (.ListComp elt [⟨.Name x px,iter,ifs,0⟩] sc pos) (some (.Name v pv)) spos.line X.env=pure true:=by rfl) (hs:∀x,foldedSetIterable iter X.env x=pure x:=by intro _;rfl) :
  PS X (.Assign [.Name v pv] (.ListComp elt [⟨.Name x px,iter,ifs,0⟩] sc pos) spos) (zft (z6c wi cB1 ix tt te) (z2v k)):=
 zg5 (tgs:=[x]) hNX hk hv C hi (fun fp s H=>znl hN rfl hx fp s H) y0e ht he hsw hs
theorem zrz (hc:X.calm=true) (hN:([x,y]++caps).Nodup) (hx:sc.names.lookup x=some .local) (hy:sc.names.lookup y=some .local) (fp:List Addr) (s:Shared) (H:Hp) :
  PG (z0n X sc ([x,y]++caps) fp s H) (.Tuple [.Name x px,.Name y py] kt tpos) (zr1 X.K 2 (z6y (z2v 0) (z6y (z2v 1) zr0))):=
 zfs (X:=z0n X sc ([x,y]++caps) fp s H) hc (z47 (znl hN rfl hx fp s H) (z47 (znl hN rfl hy fp s H) pgs_nil))
theorem zxg (hc:X.calm=true) (hN:([x,y,z]++caps).Nodup) (hx:sc.names.lookup x=some .local) (hy:sc.names.lookup y=some .local) (hz:sc.names.lookup z=some .local) (fp:List Addr) (s:Shared) (H:Hp) :
  PG (z0n X sc ([x,y,z]++caps) fp s H) (.Tuple [.Name x px,.Name y py,.Name z pz] kt tpos) (zr1 X.K 3 (z6y (z2v 0) (z6y (z2v 1) (z6y (z2v 2) zr0)))):=
 zfs (X:=z0n X sc ([x,y,z]++caps) fp s H) hc (z47 (znl hN rfl hx fp s H) (z47 (znl hN rfl hy fp s H) (z47 (znl hN rfl hz fp s H) pgs_nil)))
theorem zjm (C:CompOk X sc caps ix) (hN:([x,y]++caps).Nodup) (hx:sc.names.lookup x=some .local) (hy:sc.names.lookup y=some .local) (hi:PI X (.Tuple [.Name x px,.Name y py] kt tpos) iter wi) (ht:∀fp s H,PTs (z0n X sc ([x,y]++caps) fp s H) ifs tt)
  (he:∀fp s H,PE (z0n X sc ([x,y]++caps) fp s H) elt te) (hs:∀x,foldedSetIterable iter X.env x=pure x:=by intro _;rfl):PE X (.ListComp elt [⟨.Tuple [.Name x px,.Name y py] kt tpos,iter,ifs,0⟩] sc pos) (z6c wi (cBT 2) ix tt te):=
 zc3 (tgs:=[x,y]) C hi (fun fp s H=>zrz C.calm hN hx hy fp s H) y0f ht he hs
theorem zjn {v:Str} {k:Nat} {spos pv:Pos} (hNX:X.N.Nodup) (hk:X.N[k]?=some v) (hv:X.env.scope.names.lookup v=some .local) (C:CompOk X sc caps ix) (hN:([x,y]++caps).Nodup) (hx:sc.names.lookup x=some .local) (hy:sc.names.lookup y=some .local)
  (hi:PI X (.Tuple [.Name x px,.Name y py] kt tpos) iter wi) (ht:∀fp s H,PTs (z0n X sc ([x,y]++caps) fp s H) ifs tt) (he:∀fp s H,PE (z0n X sc ([x,y]++caps) fp s H) elt te)
  (hsw:swapsWith (.ListComp elt [⟨.Tuple [.Name x px,.Name y py] kt tpos,iter,ifs,0⟩] sc pos) (some (.Name v pv)) spos.line X.env=pure true:=by rfl) (hs:∀x,foldedSetIterable iter X.env x=pure x:=by intro _;rfl) :
  PS X (.Assign [.Name v pv] (.ListComp elt [⟨.Tuple [.Name x px,.Name y py] kt tpos,iter,ifs,0⟩] sc pos) spos) (zft (z6c wi (cBT 2) ix tt te) (z2v k)):=
 zg5 (tgs:=[x,y]) hNX hk hv C hi (fun fp s H=>zrz C.calm hN hx hy fp s H) y0f ht he hsw hs
theorem zjo (C:CompOk X sc caps ix) (hN:([x,y,z]++caps).Nodup) (hx:sc.names.lookup x=some .local) (hy:sc.names.lookup y=some .local) (hz:sc.names.lookup z=some .local) (hi:PI X (.Tuple [.Name x px,.Name y py,.Name z pz] kt tpos) iter wi)
  (ht:∀fp s H,PTs (z0n X sc ([x,y,z]++caps) fp s H) ifs tt) (he:∀fp s H,PE (z0n X sc ([x,y,z]++caps) fp s H) elt te) (hs:∀x,foldedSetIterable iter X.env x=pure x:=by intro _;rfl) :
  PE X (.ListComp elt [⟨.Tuple [.Name x px,.Name y py,.Name z pz] kt tpos,iter,ifs,0⟩] sc pos) (z6c wi (cBT 3) ix tt te):=
 zc3 (tgs:=[x,y,z]) C hi (fun fp s H=>zxg C.calm hN hx hy hz fp s H) y15 ht he hs
noncomputable def znm (n:Nat) (t:TGs):TG:=fun v U H Q=>match v with
 | .ref a=>(match H a with | some (.tup xs)=>xs.length=n/\t xs U H Q | _=>False)
 | _=>False
noncomputable def zlf (t:TG) (u:TGs):TGs:=fun vs U H Q=>match vs with | v::r=>t v U H fun σ' H'=>u r σ' H' Q | []=>False
noncomputable def zs0:TGs:=fun vs U H Q=>match vs with | []=>Q U H | _=>False
theorem PGs.imp {es:List Expr} {t t':TGs} (h:PGs X es t) (hi:∀vs U H Q,t' vs U H Q->t vs U H Q):PGs X es t':=fun pins s U H vs us Q I r q=>h pins s U H vs us Q I r (hi vs U H Q q)
theorem PG.imp {e:Expr} {t t':TG} (h:PG X e t) (hi:∀v U H Q,t' v U H Q->t v U H Q):PG X e t':=fun pins s U H v u Q I r q=>h pins s U H v u Q I r (hi v U H Q q)
theorem zjp:PGs X [] zs0:=pgs_nil.imp fun vs U H Q q=>by
 cases vs with
 | nil=>exact ⟨rfl,q⟩
 | cons _ _=>exact q.elim
theorem zgg {e:Expr} {es:List Expr} {t:TG} {u:TGs} (h1:PG X e t) (h2:PGs X es u) (hs:(assignEach (e::es) X.env).map (·.2)=assign e X.env::(assignEach es X.env).map (·.2):=by rfl):PGs X (e::es) (zlf t u):=(z47 h1 h2 hs).imp fun vs U H Q q=>by
 cases vs with
 | nil=>exact q.elim
 | cons v r=>exact ⟨v,r,rfl,q⟩
theorem znn {es:List Expr} {k:Nat} {t:TGs} {n:Nat} (hc:X.calm=true) (h:PGs X es t)
  (hn:(assignEach es X.env).length=n:=by rfl) (hst:(assignEach es X.env).findIdx? (·.1)=none:=by rfl):PG X (.Tuple es k pos) (znm n t):=(zfs hc h hn hst).imp fun v U H Q q=>by
 cases v<;>first | exact q.elim | skip
 rename_i a
 unfold znm at q
 dsimp only at q
 split at q
 . rename_i xs e;exact ⟨a,xs,rfl,.of e,q.1,q.2⟩
 . exact q.elim
end
theorem y0g {α:Type} (a:α) (r:List α):atI (a::r) 0=some a:=z71 (j:=0) rfl
theorem y0h {α:Type} (a b:α) (r:List α):atI (a::b::r) 1=some b:=z71 (j:=1) rfl
section
variable {prog:Program} {w:World} {A:Around} {E:Value->Shared->Prop} {s:Shared}
theorem zdk {it t:Addr} {items:Array Value} (hne:t≠it):∀(n i:Nat) (s:Shared) (Q:List Value->Shared->Prop),s.heap.IsListIter it t i->s.heap.IsList t items->i+n<=items.size ->
  (∀h',h'.IsListIter it t (i+n)->Heap.SameBut it s.heap h'->Q ((items.toList.drop i).take n) { s with heap:=h' })->wpAny (model prog w) A (draw (.ref it) n) Q E s
 | 0,i,s,Q,hit,_,_,k=>by
  show wpAny _ _ (pure []) Q E s
  exact wpAny_pure (by simpa using k s.heap hit (Heap.SameBut.refl ..))
 | n+1,i,s,Q,hit,ht,hle,k=>by
  have hlt:i<items.size:=by lia
  show wpAny _ _ (pyNext (.ref it) >>= _) Q E s
  refine wpAny_bind (wpAny_pyNext_list_item hit ht (x:=items[i]) (by simp [hlt]) fun g1 it1 sb1=>?_)
  refine wpAny_bind (wpAny_holding (zdk hne n (i+1) _ _ it1 (ht.extBut sb1.extBut hne) (by lia) fun g2 it2 sb2=>wpAny_pure ?_))
  have hd:items.toList.drop i=items[i]::items.toList.drop (i+1):=by simp [List.drop_eq_getElem_cons,hlt]
  have z:=k g2 (by rw [show i+(n+1)=i+1+n by lia];exact it2) (sb1.trans sb2)
  rw [hd,List.take_succ_cons] at z
  exact z
theorem zgh {t:Addr} {items:Array Value} {Q:List Value->Shared->Prop} (hh:A.handled=none) (ht:s.heap.IsList t items)
  (k:∀h',(∀b o,s.heap.get? b=some o->h'.get? b=some o)->Q items.toList { s with heap:=h' }):wpAny (model prog w) A (unpackItems (.ref t) items.size none) Q E s:=by
 have hlt:t≠s.heap.objs.size:=by obtain ⟨o,ho,_⟩:=ht;exact Nat.ne_of_lt (Heap.lt_size ho)
 have old:∀{b:Addr} {o:Obj},s.heap.get? b=some o->b≠s.heap.objs.size:=fun e=>Nat.ne_of_lt (Heap.lt_size e)
 unfold unpackItems
 refine wpAny_bind ?_
 . unfold notIterableAtAll
   refine wpAny_bind (wpAny_specialOf ht.typeIs slot_list_iter.lookup ?_)
   refine wpAny_pure ?_
   simp only [Bool.false_eq_true,if_false]
   refine wpAny_bind (wpAny_holding (wpAny_pyIter_list ht ?_))
   refine wpAny_bind (wpAny_holding (zdk hlt items.size 0 _ _ ⟨_,Heap.get?_push_size _ rfl,rfl,rfl⟩ (ht.push _) (by lia) fun g1 it1 sb1=>?_))
   have hall:List.take items.size (List.drop 0 items.toList)=items.toList:=by
    rw [List.drop_zero];exact List.take_of_length_le (by simp)
   rw [hall]
   rw [if_neg (by simp)]
   have ht1:g1.IsList t items:=(ht.push _).extBut sb1.extBut hlt
   refine wpAny_bind (wpAny_holding (wpAny_pyNext_list_end hh it1 ht1 (by simp) fun g2 eb2=>?_))
   simp only [Option.isSome_none,Bool.false_eq_true,if_false]
   exact wpAny_pure (k g2 fun b o e=>eb2 b o (old e) (sb1.extBut b o (old e) (Heap.get?_push_of_some _ e)))
theorem zeu {env:Env} {elts:List Expr} {x1} {pos:Pos} {t:Addr} {items:Array Value} {Q:Unit->Shared->Prop} (hh:A.handled=none) (ht:s.heap.IsList t items)
  (hn:(assignEach elts env).length=items.size) (hstar:(assignEach elts env).findIdx? (·.1)=none)
  (h:∀h',(∀b o,s.heap.get? b=some o->h'.get? b=some o)->wpAny (model prog w) A (assignInOrder ((assignEach elts env).map (·.2)) items.toList) Q E { s with heap:=h' }) :
  wpAny (model prog w) A (assign (.Tuple elts x1 pos) env (.ref t)) Q E s:=by
 rw [assign_Tuple]
 refine wpAny_bind (wpAny_standAt ?_)
 unfold unpack
 rw [hn,hstar]
 exact wpAny_bind (wpAny_holding (zgh hh ht h))
end
section
variable {X:Cx} {pos:Pos}
noncomputable def zau (n:Nat) (t:TGs):TG:=fun v U H Q=>match v with
 | .ref a=>(match H a with
  | some (.tup xs)=>xs.length=n/\t xs U H Q
  | some (.lst xs)=>xs.length=n/\t xs U H Q
  | _=>False)
 | _=>False
theorem zgi {es:List Expr} {k:Nat} {t:TGs} {n:Nat} (hc:X.calm=true) (h:PGs X es t)
  (hn:(assignEach es X.env).length=n:=by rfl) (hst:(assignEach es X.env).findIdx? (·.1)=none:=by rfl):PG X (.Tuple es k pos) (zau n t):=by
 intro pins s U H v u Q I r hw
 cases v<;>first | exact hw.elim | skip
 rename_i a
 unfold zau at hw
 dsimp only at hw
 split at hw
 . rename_i xs e
   exact znn hc h hn hst pins s U H (.ref a) u Q I r (by unfold znm;dsimp only;rw [e];exact hw)
 . rename_i xs e
   obtain ⟨hl,hw⟩:=hw
   cases r
   obtain ⟨its,rv,ht,hz⟩:=I.list (.of e)
   refine zeu (I.ok.hd hc) ht.isList (by simp [hn,<-hl,rv.length]) hst fun h' hx=>?_
   exact h pins _ U H xs _ Q (I.kept (t':=s.toks) hx) (by simpa using rv) hw
 . exact hw.elim
theorem kq {Q:VK} {a b:Bool} {H:Hp} (h:Q (.bl a) H) (e:a=b):Q (.bl b) H:=e ▸ h
def zwl:List V->Hp->VK->Prop:=fun xs H Q=>match xs with
 | [x,.ty c]=>z4r c=true/\(match z94 H x with | some t=>Q (.bl (zc4 t c)) H | none=>False)
 | _=>False
def zno:List V->Hp->VK->Prop:=fun xs H Q=>match xs with
 | [.ref p]=>∃ns:List Int,z6d H p=some (ns.map V.int)/\Q (.int ns.sum) H
 | _=>False
def znp:List V->Hp->VK->Prop:=fun xs H Q=>match xs with
 | [.ref p]=>∃bs:List Bool,Rd H p (.lst (bs.map V.bl))/\Q (.bl (bs.all id)) H
 | _=>False
def znq:List V->Hp->VK->Prop:=fun xs H Q=>match xs with
 | [.ref p]=>∃bs:List Bool,Rd H p (.lst (bs.map V.bl))/\Q (.bl (bs.any id)) H
 | _=>False
def zs1:List V->Hp->VK->Prop:=fun xs H Q=>match xs with | [.int i]=>Q (.int i) H | [.bl k]=>Q (.int (if k then 1 else 0)) H | _=>False
section
variable {H:Hp} {Q:VK} {p:Addr} {x:V} {cs:String}
theorem zs2:zwl [x,.ty cs] H Q=(z4r cs=true/\(match z94 H x with | some t=>Q (.bl (zc4 t cs)) H | none=>False)):=rfl
theorem zgj:zno [.ref p] H Q=∃ns:List Int,z6d H p=some (ns.map V.int)/\Q (.int ns.sum) H:=rfl
theorem znr:znp [.ref p] H Q=∃bs:List Bool,Rd H p (.lst (bs.map V.bl))/\Q (.bl (bs.all id)) H:=rfl
theorem zns:znq [.ref p] H Q=∃bs:List Bool,Rd H p (.lst (bs.map V.bl))/\Q (.bl (bs.any id)) H:=rfl
end
theorem zxh:CallR X (.builtin "isinstance") zwl:=zjh
theorem zs3 (hc:X.calm=true):CallR X (.builtin "sum") zno:=zg8 hc
theorem zxi (hc:X.calm=true):CallR X (.builtin "all") znp:=zga hc
theorem zxj (hc:X.calm=true):CallR X (.builtin "any") znq:=zgb hc
theorem zs4:CallR X (.type "int") zs1:=zgc
end
inductive NK where
 | i (n:Int)
 | t (ks:List NK)
noncomputable instance:DecidableEq NK:=fun a b=>Classical.propDecidable (a=b)
mutual
noncomputable def NK.dep:NK->Nat
 | .i _=>0
 | .t ks=>z3i ks+1
noncomputable def z3i:List NK->Nat
 | []=>0
 | k::ks=>max k.dep (z3i ks)
end
mutual
noncomputable def NK.hs:NK->Int
 | .i n=>hashInt n
 | .t ks=>reduceHash (Builtin.Tuple.tupleHashOf (zs5 ks))
noncomputable def zs5:List NK->List Int
 | []=>[]
 | k::ks=>k.hs::zs5 ks
end
mutual
noncomputable def NK.dr:NK->Nat
 | .i _=>1
 | .t ks=>zwm ks+1
noncomputable def zwm:List NK->Nat
 | []=>0
 | k::ks=>k.dr+zwm ks
end
mutual
def NKv (h:Heap):NK->Value->Prop
 | .i n,v=>∃t,v=.int n t
 | .t ks,v=>∃a its,v=.ref a/\h.IsTuple a its/\NKvs h ks its.toList
def NKvs (h:Heap):List NK->List Value->Prop
 | [],vs=>vs=[]
 | k::ks,vs=>∃v r,vs=v::r/\NKv h k v/\NKvs h ks r
end
theorem NKvs.len {h:Heap}:∀{ks:List NK} {vs:List Value},NKvs h ks vs->ks.length=vs.length
 | [],_,q=>by simp only [NKvs] at q;rw [q];rfl
 | k::ks,_,q=>by
  simp only [NKvs] at q
  obtain ⟨v,r,rfl,_,q⟩:=q
  simp only [List.length_cons,NKvs.len q]
theorem zgk {h:Heap} {a:Addr} {x y:Array Value} (p:h.IsTuple a x) (q:h.IsTuple a y):x=y:=by
 obtain ⟨o,e,c,n,d⟩:=p
 obtain ⟨o',e',c',n',d'⟩:=q
 rw [e] at e';cases e'
 rw [d] at d';cases d';rfl
mutual
theorem NKv.inj {h:Heap}:∀{k j:NK} {v:Value},NKv h k v->NKv h j v->k=j
 | .i n,.i m,v,p,q=>by
  simp only [NKv] at p q
  obtain ⟨t,rfl⟩:=p;obtain ⟨t',e⟩:=q
  cases e;rfl
 | .i n,.t ks,v,p,q=>by
  simp only [NKv] at p q
  obtain ⟨t,rfl⟩:=p;obtain ⟨_,_,e,_⟩:=q;cases e
 | .t ks,.i m,v,p,q=>by
  simp only [NKv] at p q
  obtain ⟨t,rfl⟩:=q;obtain ⟨_,_,e,_⟩:=p;cases e
 | .t ks,.t js,v,p,q=>by
  simp only [NKv] at p q
  obtain ⟨a,its,rfl,p1,p2⟩:=p
  obtain ⟨b,its',e,q1,q2⟩:=q
  cases e
  cases zgk p1 q1
  rw [NKvs.inj p2 q2]
theorem NKvs.inj {h:Heap}:∀{ks js:List NK} {vs:List Value},NKvs h ks vs->NKvs h js vs->ks=js
 | [],[],_,_,_=>rfl
 | [],j::js,_,p,q=>by
  simp only [NKvs] at p q;subst p;obtain ⟨_,_,e,_⟩:=q;cases e
 | k::ks,[],_,p,q=>by
  simp only [NKvs] at p q;subst q;obtain ⟨_,_,e,_⟩:=p;cases e
 | k::ks,j::js,_,p,q=>by
  simp only [NKvs] at p q
  obtain ⟨v,r,rfl,p1,p2⟩:=p
  obtain ⟨_,_,e,q1,q2⟩:=q
  cases e
  rw [NKv.inj p1 q1,NKvs.inj p2 q2]
end
mutual
theorem NKv.stay {h h':Heap} (st:∀a its,h.IsTuple a its->h'.IsTuple a its):∀{k:NK} {v:Value},NKv h k v->NKv h' k v
 | .i n,v,p=>by simp only [NKv] at p ⊢;exact p
 | .t ks,v,p=>by
  simp only [NKv] at p ⊢
  obtain ⟨a,its,e,p1,p2⟩:=p
  exact ⟨a,its,e,st _ _ p1,NKvs.stay st p2⟩
theorem NKvs.stay {h h':Heap} (st:∀a its,h.IsTuple a its->h'.IsTuple a its):∀{ks:List NK} {vs:List Value},NKvs h ks vs->NKvs h' ks vs
 | [],_,p=>by simp only [NKvs] at p ⊢;exact p
 | k::ks,_,p=>by
  simp only [NKvs] at p ⊢
  obtain ⟨v,r,e,p1,p2⟩:=p
  exact ⟨v,r,e,NKv.stay st p1,NKvs.stay st p2⟩
end
section
variable {prog:Program} {w:World}
theorem zgl:∀(m:Nat) {k:NK} {v:Value} {A:Around} {E:Value->Shared->Prop} {s:Shared} {Q:Int->Shared->Prop},k.dep<=m->A.units+m<cLine->NKv s.heap k v->Q k.hs { s with toks:=s.toks+k.dr }->wpAny (model prog w) A (pyHash v) Q E s
 | m,.i n,v,A,E,s,Q,hd,hu,p,q=>by
  simp only [NKv] at p
  obtain ⟨t,rfl⟩:=p
  exact wpAny_pyHash_int q
 | 0,.t ks,v,A,E,s,Q,hd,hu,p,q=>by simp only [NK.dep] at hd;lia
 | m+1,.t ks,v,A,E,s,Q,hd,hu,p,q=>by
  simp only [NKv] at p
  obtain ⟨a,its,rfl,⟨o,e,c,n,d⟩,p2⟩:=p
  simp only [NK.dep] at hd
  show wpAny (model prog w) A (pyHashByItsType (.ref a)) Q E s
  refine W.pyHash_slot (T:="tuple") ⟨o,e,c⟩ F.slot_tuple_hash F.entry_tuple_hash (F.args_tuple_hash_1 _) rfl (.inr (by lia)) ?_
  refine wpAny_bind (wpAny_of_eq (show slotArgs "__hash__" 0 ⟨[.ref a],[]⟩=pure (.ref a,[]) from rfl) ?_)
  show wpAny (model prog w) A.in1 (Builtin.Tuple.tupleItemsOf (.ref a) >>= _) _ _ s
  refine wpAny_bind (wpAny_tupleItemsOf e d ?_)
  refine wpAny_bind ?_
  have go:∀(ks:List NK) (vs:List Value) (b:Array Int) (s':Shared) (Q':Array Int->Shared->Prop),z3i ks<=m->NKvs s'.heap ks vs->(∀b':Array Int,b'.toList=b.toList++zs5 ks->Q' b' { s' with toks:=s'.toks+zwm ks }) ->
    wpAny (model prog w) A.in1 (forIn vs b fun x r=>do
     let h <-pyHash x
     pure (ForInStep.yield (r.push h))) Q' E s':=by
   intro ks
   induction ks with
   | nil=>
    intro vs b s' Q' _ p hq
    simp only [NKvs] at p;subst p
    exact wpAny_pure (hq b (by simp [zs5]))
   | cons k ks ih=>
    intro vs b s' Q' hd p hq
    simp only [NKvs] at p
    obtain ⟨v,r,rfl,p1,p2⟩:=p
    simp only [z3i] at hd
    rw [List.forIn_cons]
    refine wpAny_bind (wpAny_bind (zgl m (by lia) (by show A.units+1+m<cLine;lia) p1 ?_))
    refine wpAny_pure ?_
    refine ih r (b.push k.hs) _ Q' (by lia) p2 fun b' hb'=>?_
    have:=hq b' (by rw [hb'];simp [zs5])
    simpa only [zwm,Nat.add_assoc] using this
  rw [<-Array.forIn_toList]
  refine go ks its.toList #[] s _ (by lia) p2 fun b' hb'=>?_
  show wpAny (model prog w) A.in1 (retInt (Builtin.Tuple.tupleHashOf b'.toList)) _ _ _
  refine wpAny_mono (wpAny_ret_mkInt (Q:=fun v s'=>∃n t,v=Value.int n t/\Q (reduceHash n) s') ⟨_,_,rfl,?_⟩) (fun fin s' h=>?_) fun _ _ h=>h
  . rw [hb']
    simpa only [NK.hs,NK.dr,Nat.add_assoc,List.nil_append] using q
  . obtain ⟨v,rfl,n,t,rfl,hq⟩:=h
    exact ⟨n,t,rfl,hq⟩
theorem zs6 {s:Shared}:∀(m:Nat) {k j:NK} {u v:Value} {A:Around},k.dep<=m->A.units+m<cLine->NKv s.heap k u->NKv s.heap j v->SeqAt.EqAt A s u v (decide (k=j))
 | m,.i n,.i n',u,v,A,hd,hu,p,q=>by
  simp only [NKv] at p q
  obtain ⟨t,rfl⟩:=p;obtain ⟨t',rfl⟩:=q
  have:decide (NK.i n=NK.i n')=(n==n'):=by
   by_cases h:n=n'
   . rw [h];simp
   . rw [decide_eq_false (fun e=>h (NK.i.inj e))];simp [h]
  rw [this]
  exact .int_int _ _ _ _
 | m,.i n,.t js,u,v,A,hd,hu,p,q=>by
  simp only [NKv] at p q
  obtain ⟨t,rfl⟩:=p;obtain ⟨a,its,rfl,q1,_⟩:=q
  rw [decide_eq_false (fun e=>by cases e)]
  exact .int_tuple _ _ q1 (by lia)
 | m,.t ks,.i n',u,v,A,hd,hu,p,q=>by
  simp only [NKv] at p q
  obtain ⟨t,rfl⟩:=q;obtain ⟨a,its,rfl,q1,_⟩:=p
  rw [decide_eq_false (fun e=>by cases e)]
  exact .tuple_int _ _ q1 (by lia)
 | 0,.t ks,.t js,u,v,A,hd,hu,p,q=>by simp only [NK.dep] at hd;lia
 | m+1,.t ks,.t js,u,v,A,hd,hu,p,q=>by
  have p0:=p
  have q0:=q
  simp only [NKv] at p q
  obtain ⟨a,its,rfl,p1,p2⟩:=p
  obtain ⟨b,its2,rfl,q1,q2⟩:=q
  simp only [NK.dep] at hd
  by_cases hab:a=b
  . subst hab
    rw [decide_eq_true (NKv.inj p0 q0)]
    exact .same _
  . have l1:=p2.len
    have l2:=q2.len
    simp only [Array.length_toList] at l1 l2
    have at':∀(ks:List NK) (vs:List Value),NKvs s.heap ks vs->∀j v,vs[j]?=some v->NKv s.heap (ks.getD j (.i 0)) v/\(ks.getD j (.i 0)).dep<=z3i ks:=by
     intro ks
     induction ks with
     | nil=>intro vs p j v e;simp only [NKvs] at p;subst p;simp at e
     | cons k ks ih=>
      intro vs p j v e
      simp only [NKvs] at p
      obtain ⟨v0,r,rfl,r1,r2⟩:=p
      cases j with
      | zero=>simp at e;subst e;exact ⟨r1,by simp only [List.getD_cons_zero,z3i];lia⟩
      | succ j=>
       simp only [List.getElem?_cons_succ] at e
       obtain ⟨x1,x2⟩:=ih r r2 j v e
       exact ⟨x1,by simp only [List.getD_cons_succ,z3i];lia⟩
    have q:=SeqAt.RcAt.tuples (A:=A) p1 q1 (by lia) (e:=fun j=>decide (ks.getD j (.i 0)=js.getD j (.i 0))) fun j h1 h2=>by
     obtain ⟨x1,x2⟩:=at' ks _ p2 j its[j] (by simp [h1])
     obtain ⟨y1,y2⟩:=at' js _ q2 j its2[j] (by simp [h2])
     exact zs6 m (by lia) (by show A.units+1+m<cLine;lia) x1 y1
    have eb:((List.range (min its.size its2.size)).all (fun j=>decide (ks.getD j (.i 0)=js.getD j (.i 0)))&&its.size==its2.size)=decide (NK.t ks=NK.t js):=by
     rw [Bool.eq_iff_iff,Bool.and_eq_true,List.all_eq_true,decide_eq_true_eq,beq_iff_eq]
     constructor
     . rintro ⟨h1,h2⟩
       congr 1
       refine List.ext_getElem (by lia) fun j hj hj'=>?_
       have:=h1 j (List.mem_range.mpr (by lia))
       rw [decide_eq_true_eq,List.getD_eq_getElem?_getD,List.getD_eq_getElem?_getD,List.getElem?_eq_getElem hj,List.getElem?_eq_getElem hj'] at this
       exact this
     . intro e
       cases e
       exact ⟨fun j _=>decide_eq_true rfl,by lia⟩
    rw [eb] at q
    exact .of_refs hab q
end
section
variable {prog:Program} {w:World}
theorem zdl {A:Around} {E:Value->Shared->Prop} {s:Shared}:∀(m:Nat) {k:NK} {v:Value} {Q:Bool->Shared->Prop},k.dep<=m->NKv s.heap k v->Q true s->wpAny (model prog w) A (eqIsQuiet m v) Q E s
 | m,.i n,v,Q,hd,p,q=>by
  simp only [NKv] at p
  obtain ⟨t,rfl⟩:=p
  rw [eqIsQuiet.eq_3 _ _ (fun a e=>by cases e)]
  exact wpAny_pure q
 | 0,.t ks,v,Q,hd,p,q=>by simp only [NK.dep] at hd;lia
 | m+1,.t ks,v,Q,hd,p,q=>by
  simp only [NKv] at p
  obtain ⟨a,its,rfl,⟨o,e,c,n,d⟩,p2⟩:=p
  simp only [NK.dep] at hd
  rw [eqIsQuiet.eq_2]
  refine wpAny_bind (wpAny_specialOf (T:="tuple") ⟨o,e,c⟩ F.slot_tuple_eq.lookup ?_)
  show wpAny (model prog w) A (isInstance (.ref a) (.type "tuple") >>= _) _ _ s
  refine wpAny_bind (wpAny_isInstance (T:="tuple") (b:=true) ⟨o,e,c⟩ (by rfl) ?_)
  show wpAny (model prog w) A (seqItems? (.ref a) >>= _) _ _ s
  refine wpAny_bind (wpAny_seqItems e d ?_)
  refine wpAny_bind ?_
  have go:∀(ks:List NK) (vs:List Value) (Q':Option Bool×Unit->Shared->Prop),z3i ks<=m->NKvs s.heap ks vs->Q' (none,()) s ->
    wpAny (model prog w) A (forIn vs ((none,()):Option Bool×Unit) fun y __s=>do
     let __do_lift <-eqIsQuiet m y
     if (!__do_lift)=true then pure (ForInStep.done (some false,()))
      else pure (ForInStep.yield (none,()))) Q' E s:=by
   intro ks
   induction ks with
   | nil=>
    intro vs Q' _ p hq
    simp only [NKvs] at p;subst p
    exact wpAny_pure hq
   | cons k ks ih=>
    intro vs Q' hd p hq
    simp only [NKvs] at p
    obtain ⟨v,r,rfl,p1,p2⟩:=p
    simp only [z3i] at hd
    rw [List.forIn_cons]
    refine wpAny_bind (wpAny_bind (zdl m (by lia) p1 ?_))
    refine wpAny_pure ?_
    exact ih r Q' (by lia) p2 hq
  show wpAny (model prog w) A (forIn its ((none,()):Option Bool×Unit) _) _ _ s
  rw [<-Array.forIn_toList]
  refine go ks its.toList _ (by lia) p2 ?_
  exact wpAny_pure q
noncomputable def deepKind (prog:Program) (w:World):HeapKind prog w NK where
 is:=fun h k a=>NKv h k (.ref a)/\k.dep<=8
 hash:=NK.hs
 draws:=NK.dr
 room:=fun A=>A.units+8<cLine
 inj:=fun p q=>NKv.inj p.1 q.1
 keeps:=fun {h h' k a d o es ep} p e eo sb=>⟨NKv.stay (fun b its t=>by
  obtain ⟨ob,eb,cb,n,db⟩:=t
  have hne:b≠d:=fun z=>by
   subst z
   rw [e] at eb;cases eb
   rw [eo] at db;cases db
  exact ⟨ob,(sb.2 b hne).trans eb,cb,n,db⟩) p.1,p.2⟩
 pyHash:=fun {A E s k a Q} hr p q=>zgl 8 p.2 hr p.1 q
 eqBool:=fun {A E s x y a b Q} hr p p' q=>zs6 8 p.2 hr p.1 p'.1 prog w E Q q
 quiet:=fun {A E s k a Q} p q=>zdl 8 p.2 p.1 q
end
noncomputable def dnE (x:NK×Addr×Value):DictEntry:={ hash:=x.1.hs,key:=.ref x.2.1,val:=x.2.2 }
def dnP (a:Addr) (ks:List (NK×Addr)) (xs:List V) (o:Obj) (h:Heap):Prop:=
 h.get? a=some o/\∃(vs:List Value) (es:Array DictEntry) (ep:Nat),Vals xs vs/\ks.length=vs.length/\o.ExactDict/\o.data=.dict es ep/\es.toList=((ks.zip vs).map fun q=>(q.1.1,q.1.2,q.2)).map dnE
theorem dnP.stay {a:Addr} {ks:List (NK×Addr)} {xs:List V} {o:Obj}:∀h1 h2:Heap,dnP a ks xs o h1->(∀o,h1.get? a=some o->h2.get? a=some o)->dnP a ks xs o h2:=fun _ _ p k=>⟨k _ p.1,p.2⟩
mutual
def NKr (H:Hp):NK->V->Prop
 | .i n,v=>v=.int n
 | .t ks,v=>∃a ys,v=.ref a/\H a=some (.tup ys)/\NKrs H ks ys
def NKrs (H:Hp):List NK->List V->Prop
 | [],vs=>vs=[]
 | k::ks,vs=>∃v r,vs=v::r/\NKr H k v/\NKrs H ks r
end
mutual
theorem NKr.mono {H H':Hp} (st:∀a ys,H a=some (.tup ys)->H' a=some (.tup ys)):∀{k:NK} {v:V},NKr H k v->NKr H' k v
 | .i n,v,p=>by simp only [NKr] at p ⊢;exact p
 | .t ks,v,p=>by
  simp only [NKr] at p ⊢
  obtain ⟨a,ys,e,p1,p2⟩:=p
  exact ⟨a,ys,e,st _ _ p1,NKrs.mono st p2⟩
theorem NKrs.mono {H H':Hp} (st:∀a ys,H a=some (.tup ys)->H' a=some (.tup ys)):∀{ks:List NK} {vs:List V},NKrs H ks vs->NKrs H' ks vs
 | [],_,p=>by simp only [NKrs] at p ⊢;exact p
 | k::ks,_,p=>by
  simp only [NKrs] at p ⊢
  obtain ⟨v,r,e,p1,p2⟩:=p
  exact ⟨v,r,e,NKr.mono st p1,NKrs.mono st p2⟩
end
section
variable {X:Cx} {pins:List (Addr×Obj)} {U:St} {H:Hp} {s:Shared}
mutual
theorem zjq (I:Inv X pins U H s):∀{k:NK} {x:V} {u:Value},NKr H k x->RelV x u->NKv s.heap k u
 | .i n,x,u,p,r=>by
  simp only [NKr] at p;subst p
  obtain ⟨t,rfl⟩:=r
  simp only [NKv];exact ⟨t,rfl⟩
 | .t ks,x,u,p,r=>by
  simp only [NKr] at p
  obtain ⟨a,ys,rfl,p1,p2⟩:=p
  cases r
  obtain ⟨its,r1,t1,_⟩:=I.tuple (.of p1)
  simp only [NKv]
  exact ⟨a,its.toArray,rfl,t1,zlg I p2 r1⟩
theorem zlg (I:Inv X pins U H s):∀{ks:List NK} {xs:List V} {us:List Value},NKrs H ks xs->Vals xs us->NKvs s.heap ks us
 | [],_,_,p,r=>by simp only [NKrs] at p;subst p;cases r;simp only [NKvs]
 | k::ks,_,_,p,r=>by
  simp only [NKrs] at p
  obtain ⟨v,q,rfl,p1,p2⟩:=p
  cases r with
  | cons a1 a2=>
   simp only [NKvs]
   exact ⟨_,_,rfl,zjq I p1 a1,zlg I p2 a2⟩
end
end
def KL (K:Frag) (a:Addr) (xs:List V):Prop:=∃(o:Obj) (its:Array Value) (n:Nat),K.lookup a=some o/\o.cls=.type "list"/\o.dict=none/\o.data=.seq its n/\its.size<=sizeLine/\Vals xs its.toList
def XO (K:Frag) (c:String) (a:Addr) (od:Option Addr) (o:HO):Prop:=∃C:Addr,nsIn K mainGlobals (c:Str)=some (some (.ref C))/\o=.ext fun h=>∃ob,h.get? a=some ob/\ob.cls=.ref C/\(∃vs,ob.data=.fields vs)/\ob.dict=od
noncomputable def zxk (c:String):List Str:=if c="Fallen" then ["corner"] else if c="Crossed" then ["one","other"] else if c="NotFull" then ["line"] else []
inductive D where
 | non | bl (b:Bool) | int (i:Int) | str (x:Str) | tup (ds:List D) | lst (ds:List D)
 | dk (ks:List Key) (ds:List D) | dt (ks:List (List Key)) (ds:List D) | dn (ks:List NK) (ds:List D) | scr (ns:List Int) | exc (c:String) (fs:List D)
def DN (H:Hp) (a:Addr) (qs:List (NK×Addr)):Prop:=(qs.map (·.1)).Nodup/\(∀q∈qs,NKr H q.1 (.ref q.2)/\q.1.dep<=8)/\(a==sysModules)=false/\qs.length<=sizeLine
theorem DN.tk {H H':Hp} {a:Addr} {qs:List (NK×Addr)} (h:DN H a qs) (st:∀a ys,H a=some (.tup ys)->H' a=some (.tup ys)):DN H' a qs:=
 ⟨h.1,fun q hq=>⟨NKr.mono st (h.2.1 q hq).1,(h.2.1 q hq).2⟩,h.2.2⟩
mutual
def RD (K:Frag) (H:Hp):D->V->Prop
 | .non,v=>v=.non
 | .bl b,v=>v=.bl b
 | .int i,v=>v=.int i
 | .str x,v=>v=.str x
 | .tup ds,v=>∃a xs,v=.ref a/\H a=some (.tup xs)/\RDs K H ds xs
 | .lst ds,v=>∃a xs,v=.ref a/\H a=some (.lst xs)/\RDs K H ds xs
 | .dk ks ds,v=>∃a xs,v=.ref a/\H a=some (.dK (ks.zip xs))/\ks.length=xs.length/\RDs K H ds xs
 | .dt ks ds,v=>∃a xs,v=.ref a/\H a=some (.dT (ks.zip xs))/\ks.length=xs.length/\RDs K H ds xs
 | .dn ks ds,v=>∃a qs xs o,v=.ref a/\H a=some (.ext (dnP a qs xs o))/\qs.map (·.1)=ks/\DN H a qs/\RDs K H ds xs
 | .scr ns,v=>∃a,v=.ref a/\((∃o,H a=some (.frz o (.lst (ns.map V.int))))\/KL K a (ns.map V.int))
 | .exc c fs,v=>∃a od o,v=.ref a/\XO K c a od o/\H a=some o/\(fs=[]\/∃(dx:Addr) (ns:List Int) (ob:Obj),od=some dx/\H dx=some (.frz ob (.xd ((zxk c).zip (ns.map V.int))))/\fs=ns.map D.int)
def RDs (K:Frag) (H:Hp):List D->List V->Prop
 | [],xs=>xs=[]
 | d::ds,xs=>∃x r,xs=x::r/\RD K H d x/\RDs K H ds r
end
mutual
noncomputable def D.noL:D->Bool
 | .lst _=>false
 | .dk _ _=>false
 | .dt _ _=>false
 | .dn _ _=>false
 | .tup ds=>z3q ds
 | _=>true
noncomputable def z3q:List D->Bool
 | []=>true
 | d::ds=>d.noL&&z3q ds
end
mutual
noncomputable def D.pl:D->Bool
 | .dk _ _=>false
 | .dt _ _=>false
 | .dn _ _=>false
 | .scr _=>false
 | .exc _ _=>false
 | .tup ds=>pls ds
 | .lst ds=>pls ds
 | _=>true
noncomputable def pls:List D->Bool
 | []=>true
 | d::ds=>d.pl&&pls ds
end
noncomputable def D.shal:D->Bool
 | .lst ds=>z3q ds
 | .dk _ ds=>z3q ds
 | .dt _ ds=>z3q ds
 | .dn _ ds=>z3q ds
 | d=>d.noL
def Imm:HO->Prop
 | .tup _=>True
 | .frz _ _=>True
 | .ext φ=>∀a qs xs o,φ≠dnP a qs xs o
 | _=>False
theorem XO.imm {K:Frag} {c:String} {a:Addr} {od:Option Addr} {o:HO} (h:XO K c a od o):Imm o:=by
 obtain ⟨C,_,rfl⟩:=h
 intro b qs xs o0 e
 obtain ⟨ob,hob⟩:∃ob:Obj,ob={ cls:=.ref C,dict:=od,data:=.fields #[] }:=⟨_,rfl⟩
 have hg:∀(i:Nat) (o:Obj),({ objs:=Array.replicate (a+1) ob }:Heap).get? i=some o->o=ob:=fun i o q=>by
  by_cases hi:i<a+1
  . have z:({ objs:=Array.replicate (a+1) ob }:Heap).get? i=some ob:=by
     unfold Heap.get?
     rw [Array.getElem?_replicate,if_pos hi,hob]
    rw [z] at q;cases q;rfl
  . unfold Heap.get? at q
    rw [Array.getElem?_replicate,if_neg hi] at q;cases q
 have h1:(fun h:Heap=>∃ob,h.get? a=some ob/\ob.cls=.ref C/\(∃vs,ob.data=.fields vs)/\ob.dict=od) { objs:=Array.replicate (a+1) ob }:=by
  refine ⟨ob,?_,by rw [hob],⟨#[],by rw [hob]⟩,by rw [hob]⟩
  unfold Heap.get?
  rw [Array.getElem?_replicate,if_pos (Nat.lt_succ_self a),hob]
 rw [e] at h1
 obtain ⟨g,vs,es,ep,_,_,_,d,_⟩:=h1
 rw [hg _ _ g,hob] at d
 cases d
def TK (H H':Hp):Prop:=∀a o,Imm o->H a=some o->H' a=some o
section
variable {K:Frag} {H H':Hp}
mutual
theorem RD.tk (hs:TK H H'):∀{d:D} {v:V},d.noL=true->RD K H d v->RD K H' d v
 | .non,_,_,h=>by simp only [RD] at h ⊢;exact h
 | .bl _,_,_,h=>by simp only [RD] at h ⊢;exact h
 | .int _,_,_,h=>by simp only [RD] at h ⊢;exact h
 | .str _,_,_,h=>by simp only [RD] at h ⊢;exact h
 | .tup ds,_,n,h=>by
  simp only [RD] at h ⊢
  obtain ⟨a,xs,e,h1,h2⟩:=h
  exact ⟨a,xs,e,hs _ _ trivial h1,RDs.tk hs (by simpa only [D.noL] using n) h2⟩
 | .lst ds,_,n,h=>by simp [D.noL] at n
 | .dk _ ds,_,n,h=>by simp [D.noL] at n
 | .dt _ ds,_,n,h=>by simp [D.noL] at n
 | .dn _ ds,_,n,h=>by simp [D.noL] at n
 | .exc c fs,_,n,h=>by
  simp only [RD] at h ⊢
  obtain ⟨a,od,o,e,h1,h2,h3⟩:=h
  refine ⟨a,od,o,e,h1,hs _ _ h1.imm h2,?_⟩
  rcases h3 with h3 | ⟨dx,xs,ob,q1,q2,q3⟩
  . exact .inl h3
  . exact .inr ⟨dx,xs,ob,q1,hs _ _ trivial q2,q3⟩
 | .scr ns,_,n,h=>by
  simp only [RD] at h ⊢
  obtain ⟨a,e,h1⟩:=h
  refine ⟨a,e,?_⟩
  rcases h1 with ⟨o,h1⟩ | h1
  . exact .inl ⟨o,hs _ _ trivial h1⟩
  . exact .inr h1
theorem RDs.tk (hs:TK H H'):∀{ds:List D} {xs:List V},z3q ds=true->RDs K H ds xs->RDs K H' ds xs
 | [],_,_,h=>by simp only [RDs] at h ⊢;exact h
 | d::ds,_,n,h=>by
  simp only [RDs] at h ⊢
  simp only [z3q,Bool.and_eq_true] at n
  obtain ⟨x,r,e,h1,h2⟩:=h
  exact ⟨x,r,e,RD.tk hs n.1 h1,RDs.tk hs n.2 h2⟩
end
mutual
theorem RD.mono (hs:Same H H'):∀{d:D} {v:V},RD K H d v->RD K H' d v
 | .non,_,h=>by simp only [RD] at h ⊢;exact h
 | .bl _,_,h=>by simp only [RD] at h ⊢;exact h
 | .int _,_,h=>by simp only [RD] at h ⊢;exact h
 | .str _,_,h=>by simp only [RD] at h ⊢;exact h
 | .tup ds,_,h=>by
  simp only [RD] at h ⊢
  obtain ⟨a,xs,e,h1,h2⟩:=h
  exact ⟨a,xs,e,hs _ _ h1,RDs.mono hs h2⟩
 | .lst ds,_,h=>by
  simp only [RD] at h ⊢
  obtain ⟨a,xs,e,h1,h2⟩:=h
  exact ⟨a,xs,e,hs _ _ h1,RDs.mono hs h2⟩
 | .dk _ ds,_,h=>by
  simp only [RD] at h ⊢
  obtain ⟨a,xs,e,h1,hl,h2⟩:=h
  exact ⟨a,xs,e,hs _ _ h1,hl,RDs.mono hs h2⟩
 | .dn _ ds,_,h=>by
  simp only [RD] at h ⊢
  obtain ⟨a,qs,xs,o,e,h1,hk,hd,h2⟩:=h
  exact ⟨a,qs,xs,o,e,hs _ _ h1,hk,hd.tk fun b ys q=>hs _ _ q,RDs.mono hs h2⟩
 | .dt _ ds,_,h=>by
  simp only [RD] at h ⊢
  obtain ⟨a,xs,e,h1,hl,h2⟩:=h
  exact ⟨a,xs,e,hs _ _ h1,hl,RDs.mono hs h2⟩
 | .exc c fs,_,h=>by
  simp only [RD] at h ⊢
  obtain ⟨a,od,o,e,h1,h2,h3⟩:=h
  refine ⟨a,od,o,e,h1,hs _ _ h2,?_⟩
  rcases h3 with h3 | ⟨dx,xs,ob,q1,q2,q3⟩
  . exact .inl h3
  . exact .inr ⟨dx,xs,ob,q1,hs _ _ q2,q3⟩
 | .scr ns,_,h=>by
  simp only [RD] at h ⊢
  obtain ⟨a,e,h1⟩:=h
  refine ⟨a,e,?_⟩
  rcases h1 with ⟨o,h1⟩ | h1
  . exact .inl ⟨o,hs _ _ h1⟩
  . exact .inr h1
theorem RDs.mono (hs:Same H H'):∀{ds:List D} {xs:List V},RDs K H ds xs->RDs K H' ds xs
 | [],_,h=>by simp only [RDs] at h ⊢;exact h
 | d::ds,_,h=>by
  simp only [RDs] at h ⊢
  obtain ⟨x,r,e,h1,h2⟩:=h
  exact ⟨x,r,e,RD.mono hs h1,RDs.mono hs h2⟩
end
theorem RDs.length:∀{ds:List D} {xs:List V},RDs K H ds xs->ds.length=xs.length
 | [],_,h=>by simp only [RDs] at h;subst h;rfl
 | d::ds,_,h=>by
  simp only [RDs] at h
  obtain ⟨x,r,rfl,_,h2⟩:=h
  simp [RDs.length h2]
theorem RDs.get:∀{ds:List D} {xs:List V} {i:Nat} {x:V},RDs K H ds xs->xs[i]?=some x->∃d,ds[i]?=some d/\RD K H d x
 | [],_,i,x,h,e=>by simp only [RDs] at h;subst h;simp at e
 | d::ds,_,i,x,h,e=>by
  simp only [RDs] at h
  obtain ⟨y,r,rfl,h1,h2⟩:=h
  cases i with
  | zero=>simp at e;subst e;exact ⟨d,rfl,h1⟩
  | succ i=>simp at e;obtain ⟨d',e1,e2⟩:=RDs.get h2 e;exact ⟨d',by simpa using e1,e2⟩
theorem RDs.get':∀{ds:List D} {xs:List V} {i:Nat} {d:D},RDs K H ds xs->ds[i]?=some d->∃x,xs[i]?=some x/\RD K H d x
 | [],_,i,d,h,e=>by simp at e
 | d'::ds,_,i,d,h,e=>by
  simp only [RDs] at h
  obtain ⟨y,r,rfl,h1,h2⟩:=h
  cases i with
  | zero=>simp at e;subst e;exact ⟨y,rfl,h1⟩
  | succ i=>simp at e;obtain ⟨x',e1,e2⟩:=RDs.get' h2 e;exact ⟨x',by simpa using e1,e2⟩
theorem RDs.append:∀{ds es:List D} {xs ys:List V},RDs K H ds xs->RDs K H es ys->RDs K H (ds++es) (xs++ys)
 | [],_,_,_,h,h'=>by simp only [RDs] at h;subst h;exact h'
 | d::ds,es,_,ys,h,h'=>by
  simp only [RDs] at h
  obtain ⟨x,r,rfl,h1,h2⟩:=h
  simp only [List.cons_append,RDs]
  exact ⟨x,r++ys,rfl,h1,RDs.append h2 h'⟩
theorem RDs.nil:RDs K H [] []:=by simp only [RDs]
theorem RDs.cons {d:D} {x:V} {ds:List D} {xs:List V} (h:RD K H d x) (h':RDs K H ds xs):RDs K H (d::ds) (x::xs):=by simp only [RDs];exact ⟨x,xs,rfl,h,h'⟩
theorem RDs.one {d:D} {x:V} (h:RD K H d x):RDs K H [d] [x]:=.cons h .nil
theorem RDs.take:∀{ds:List D} {xs:List V} (n:Nat),RDs K H ds xs->RDs K H (ds.take n) (xs.take n)
 | _,_,0,_=>by simp [RDs]
 | [],_,n+1,h=>by simp only [RDs] at h;subst h;simp [RDs]
 | d::ds,_,n+1,h=>by
  simp only [RDs] at h
  obtain ⟨x,r,rfl,h1,h2⟩:=h
  simp only [List.take_succ_cons]
  exact .cons h1 (RDs.take n h2)
theorem RDs.drop:∀{ds:List D} {xs:List V} (n:Nat),RDs K H ds xs->RDs K H (ds.drop n) (xs.drop n)
 | _,_,0,h=>h
 | [],_,n+1,h=>by simp only [RDs] at h;subst h;simp [RDs]
 | d::ds,_,n+1,h=>by
  simp only [RDs] at h
  obtain ⟨x,r,rfl,h1,h2⟩:=h
  exact RDs.drop n h2
theorem RDs.set:∀{ds:List D} {xs:List V} (n:Nat) {d:D} {x:V},RDs K H ds xs->RD K H d x->RDs K H (ds.set n d) (xs.set n x)
 | [],_,n,_,_,h,_=>by simp only [RDs] at h;subst h;simp [RDs]
 | d::ds,_,0,_,_,h,h'=>by
  simp only [RDs] at h
  obtain ⟨x,r,rfl,h1,h2⟩:=h
  exact .cons h' h2
 | d::ds,_,n+1,_,_,h,h'=>by
  simp only [RDs] at h
  obtain ⟨x,r,rfl,h1,h2⟩:=h
  exact .cons h1 (RDs.set n h2 h')
theorem RDs.ofInts:∀(ns:List Int),RDs K H (ns.map D.int) (ns.map V.int)
 | []=>by simp only [List.map,RDs]
 | n::ns=>by
  simp only [List.map]
  exact RDs.cons (by simp only [RD]) (RDs.ofInts ns)
end
mutual
noncomputable def eqD:D->D->Bool
 | .non,.non=>true
 | .bl a,.bl b=>a==b
 | .bl a,.int j=>(if a then 1 else 0)==j
 | .int i,.bl b=>i==(if b then 1 else 0)
 | .int i,.int j=>i==j
 | .str a,.str b=>a==b
 | .tup ds,.tup es=>z4s ds es
 | .lst ds,.lst es=>z4s ds es
 | _,_=>false
noncomputable def z4s:List D->List D->Bool
 | [],[]=>true
 | d::ds,e::es=>eqD d e&&z4s ds es
 | _,_=>false
end
mutual
noncomputable def D.dep:D->Nat
 | .tup ds=>z4e ds+1
 | .lst ds=>z4e ds+1
 | _=>0
noncomputable def z4e:List D->Nat
 | []=>0
 | d::ds=>max d.dep (z4e ds)
end
mutual
theorem z6m:∀d:D,d.pl=true->eqD d d=true
 | .non,_=>rfl
 | .bl b,_=>by simp [eqD]
 | .int b,_=>by simp [eqD]
 | .str b,_=>by simp [eqD]
 | .tup ds,h=>by simp only [eqD];exact z75 ds (by simpa only [D.pl] using h)
 | .lst ds,h=>by simp only [eqD];exact z75 ds (by simpa only [D.pl] using h)
 | .dk _ _,h=>by simp [D.pl] at h
 | .dt _ _,h=>by simp [D.pl] at h
 | .dn _ _,h=>by simp [D.pl] at h
 | .scr _,h=>by simp [D.pl] at h
 | .exc _ _,h=>by simp [D.pl] at h
theorem z75:∀ds:List D,pls ds=true->z4s ds ds=true
 | [],_=>rfl
 | d::ds,h=>by
  simp only [pls,Bool.and_eq_true] at h
  simp only [z4s,z6m d h.1,z75 ds h.2,Bool.and_self]
end
mutual
theorem RD.inj {K:Frag} {H:Hp}:∀{d e:D} {v:V},d.pl=true->e.pl=true->RD K H d v->RD K H e v->d=e
 | .non,e,v,_,p,h,h'=>by
  simp only [RD] at h;subst h
  cases e<;>simp only [RD] at h'<;>first | (exfalso;simp [D.pl] at p;done) | rfl | (cases h';done) | (obtain ⟨a,xs,z,_⟩:=h';cases z)
 | .bl b,e,v,_,p,h,h'=>by
  simp only [RD] at h;subst h
  cases e<;>simp only [RD] at h'<;>first | (exfalso;simp [D.pl] at p;done) | (cases h';rfl) | (cases h';done) | (obtain ⟨a,xs,z,_⟩:=h';cases z)
 | .int b,e,v,_,p,h,h'=>by
  simp only [RD] at h;subst h
  cases e<;>simp only [RD] at h'<;>first | (exfalso;simp [D.pl] at p;done) | (cases h';rfl) | (cases h';done) | (obtain ⟨a,xs,z,_⟩:=h';cases z)
 | .str b,e,v,_,p,h,h'=>by
  simp only [RD] at h;subst h
  cases e<;>simp only [RD] at h'<;>first | (exfalso;simp [D.pl] at p;done) | (cases h';rfl) | (cases h';done) | (obtain ⟨a,xs,z,_⟩:=h';cases z)
 | .dk _ _,e,v,p,_,h,h'=>by simp [D.pl] at p
 | .dt _ _,e,v,p,_,h,h'=>by simp [D.pl] at p
 | .dn _ _,e,v,p,_,h,h'=>by simp [D.pl] at p
 | .scr _,e,v,p,_,h,h'=>by simp [D.pl] at p
 | .exc _ _,e,v,p,_,h,h'=>by simp [D.pl] at p
 | .tup ds,e,v,p,p',h,h'=>by
  simp only [RD] at h
  obtain ⟨a,xs,rfl,h1,h2⟩:=h
  cases e<;>simp only [RD] at h'
  case tup es=>
   obtain ⟨b,ys,z,h3,h4⟩:=h'
   cases z
   rw [h1] at h3;cases h3
   rw [RDs.inj (by simpa only [D.pl] using p) (by simpa only [D.pl] using p') h2 h4]
  case lst es=>
   obtain ⟨b,ys,z,h3,h4⟩:=h'
   cases z
   rw [h1] at h3;cases h3
  all_goals first | (exfalso;simp [D.pl] at p';done) | cases h'
 | .lst ds,e,v,p,p',h,h'=>by
  simp only [RD] at h
  obtain ⟨a,xs,rfl,h1,h2⟩:=h
  cases e<;>simp only [RD] at h'
  case tup es=>
   obtain ⟨b,ys,z,h3,h4⟩:=h'
   cases z
   rw [h1] at h3;cases h3
  case lst es=>
   obtain ⟨b,ys,z,h3,h4⟩:=h'
   cases z
   rw [h1] at h3;cases h3
   rw [RDs.inj (by simpa only [D.pl] using p) (by simpa only [D.pl] using p') h2 h4]
  all_goals first | (exfalso;simp [D.pl] at p';done) | cases h'
theorem RDs.inj {K:Frag} {H:Hp}:∀{ds es:List D} {xs:List V},pls ds=true->pls es=true->RDs K H ds xs->RDs K H es xs->ds=es
 | [],es,xs,_,_,h,h'=>by
  simp only [RDs] at h;subst h
  cases es<;>simp only [RDs] at h'
  . rfl
  . obtain ⟨x,r,z,_⟩:=h';cases z
 | d::ds,es,xs,p,p',h,h'=>by
  simp only [RDs] at h
  obtain ⟨x,r,rfl,h1,h2⟩:=h
  simp only [pls,Bool.and_eq_true] at p
  cases es with
  | nil=>simp only [RDs] at h';cases h'
  | cons e es=>
   simp only [RDs] at h'
   obtain ⟨y,r',z,h3,h4⟩:=h'
   cases z
   simp only [pls,Bool.and_eq_true] at p'
   rw [RD.inj p.1 p'.1 h1 h3,RDs.inj p.2 p'.2 h2 h4]
end
theorem zc5:∀{ds:List D} {d:D},pls ds=true->d∈ds->d.pl=true
 | e::ds,d,h,m=>by
  simp only [pls,Bool.and_eq_true] at h
  rcases List.mem_cons.mp m with rfl | m
  . exact h.1
  . exact zc5 h.2 m
theorem z96:∀{ds:List D} {d:D},d∈ds->d.dep<=z4e ds
 | d'::ds,d,h=>by
  simp only [z4e]
  rcases List.mem_cons.mp h with rfl | h
  . lia
  . have:=z96 h;lia
theorem z97:∀{ds es:List D},ds.length=es.length->z4s ds es=(List.range ds.length).all fun j=>eqD (ds.getD j .non) (es.getD j .non)
 | [],[],_=>rfl
 | [],_::_,h=>by simp at h
 | _::_,[],h=>by simp at h
 | d::ds,e::es,h=>by
  simp only [z4s,List.length_cons]
  rw [z97 (by simpa using h),List.range_succ_eq_map,List.all_cons,List.all_map]
  rfl
theorem z98:∀{ds es:List D},ds.length≠es.length->z4s ds es=false
 | [],[],h=>absurd rfl h
 | [],_::_,_=>rfl
 | _::_,[],_=>rfl
 | d::ds,e::es,h=>by
  simp only [z4s]
  rw [z98 (by intro z;exact h (by simp [z])),Bool.and_false]
section
variable {X:Cx} {pins:List (Addr×Obj)} {U:St} {H:Hp} {s:Shared}
theorem Inv.tupA (I:Inv X pins U H s) {a:Addr} {xs:List V} (h:H a=some (.tup xs)):∃its:List Value,Vals xs its/\s.heap.IsTuple a its.toArray:=by
 obtain ⟨its,r,t,_⟩:=I.tuple (.of h)
 exact ⟨its,r,t⟩
theorem Inv.lstA (I:Inv X pins U H s) {a:Addr} {xs:List V} (h:H a=some (.lst xs)):∃its:List Value,Vals xs its/\s.heap.IsList a its.toArray:=by
 obtain ⟨its,r,t,_⟩:=I.list (.of h)
 exact ⟨its,r,t.isList⟩
inductive Shp (X:Cx) (H:Hp) (s:Shared):D->V->Value->Prop
 | non:Shp X H s .non .non .none
 | bl (b:Bool):Shp X H s (.bl b) (.bl b) (.bool b)
 | int (i:Int) (t:Tok):Shp X H s (.int i) (.int i) (.int i t)
 | str (c:Str) (t:Tok):Shp X H s (.str c) (.str c) (.str c t)
 | tup {ds:List D} {a:Addr} {xs:List V} {its:List Value} (p:pls ds=true) (h:H a=some (.tup xs)) (q:RDs X.K H ds xs) (r:Vals xs its) (t:s.heap.IsTuple a its.toArray):Shp X H s (.tup ds) (.ref a) (.ref a)
 | lst {ds:List D} {a:Addr} {xs:List V} {its:List Value} (p:pls ds=true) (h:H a=some (.lst xs)) (q:RDs X.K H ds xs) (r:Vals xs its) (t:s.heap.IsList a its.toArray):Shp X H s (.lst ds) (.ref a) (.ref a)
theorem shp (I:Inv X pins U H s) {d:D} {x:V} {u:Value} (p:d.pl=true) (h:RD X.K H d x) (r:RelV x u):Shp X H s d x u:=by
 cases d<;>simp only [RD] at h<;>first | (exfalso;simp [D.pl] at p;done) | skip
 . subst h;cases r;exact .non
 . subst h;cases r;exact .bl _
 . subst h;obtain ⟨t,rfl⟩:=r;exact .int _ _
 . subst h;obtain ⟨t,rfl⟩:=r;exact .str _ _
 . obtain ⟨a,xs,rfl,h1,h2⟩:=h
   cases r
   obtain ⟨its,v,t⟩:=I.tupA h1
   exact .tup (by simpa only [D.pl] using p) h1 h2 v t
 . obtain ⟨a,xs,rfl,h1,h2⟩:=h
   cases r
   obtain ⟨its,v,t⟩:=I.lstA h1
   exact .lst (by simpa only [D.pl] using p) h1 h2 v t
def zxl (X:Cx) (H:Hp) (s:Shared) (A:Around) (n:Nat):Prop:=∀{d e:D} {x y:V} {u v:Value},d.pl=true->e.pl=true->d.dep<=n->RD X.K H d x->RD X.K H e y->RelV x u->RelV y v->SeqAt.EqAt A s u v (eqD d e)
theorem zgm {A:Around} {n:Nat} (ih:zxl X H s A n) {ds es:List D} {xs ys:List V} {its its2:List Value} (pd:pls ds=true) (pe:pls es=true) (hdn:z4e ds<=n) (hxs:RDs X.K H ds xs) (hys:RDs X.K H es ys) (r:Vals xs its) (r2:Vals ys its2) (j:Nat)
  (h1:j<its.toArray.size) (h2:j<its2.toArray.size):SeqAt.EqAt A s its.toArray[j] its2.toArray[j] (eqD (ds.getD j .non) (es.getD j .non)):=by
 have h1':j<its.length:=by simpa using h1
 have h2':j<its2.length:=by simpa using h2
 have l1:=r.length
 have l2:=r2.length
 obtain ⟨u1,e1,q1⟩:=r.get (i:=j) (x:=xs[j]'(by lia)) (by simp)
 obtain ⟨u2,e2,q2⟩:=r2.get (i:=j) (x:=ys[j]'(by lia)) (by simp)
 obtain ⟨d1,g1,w1⟩:=hxs.get (i:=j) (x:=xs[j]'(by lia)) (by simp)
 obtain ⟨d2,g2,w2⟩:=hys.get (i:=j) (x:=ys[j]'(by lia)) (by simp)
 have ea:its.toArray[j]=u1:=by
  rw [List.getElem?_eq_getElem h1'] at e1;simpa using e1
 have eb:its2.toArray[j]=u2:=by
  rw [List.getElem?_eq_getElem h2'] at e2;simpa using e2
 have ga:ds.getD j .non=d1:=by rw [List.getD_eq_getElem?_getD,g1];rfl
 have gb:es.getD j .non=d2:=by rw [List.getD_eq_getElem?_getD,g2];rfl
 rw [ea,eb,ga,gb]
 exact ih (zc5 pd (List.mem_of_getElem? g1)) (zc5 pe (List.mem_of_getElem? g2)) (Nat.le_trans (z96 (List.mem_of_getElem? g1)) hdn) w1 w2 q1 q2
theorem znt {ds es:List D} {xs ys:List V} {its its2:List Value} (hxs:RDs X.K H ds xs) (hys:RDs X.K H es ys) (r:Vals xs its) (r2:Vals ys its2) :
  ((List.range (min its.toArray.size its2.toArray.size)).all (fun j=>eqD (ds.getD j .non) (es.getD j .non))&&its.toArray.size==its2.toArray.size)=z4s ds es:=by
 have lx:=hxs.length;have ly:=hys.length;have l1:=r.length;have l2:=r2.length
 simp only [List.size_toArray]
 by_cases hl:ds.length=es.length
 . rw [z97 hl]
   have:its.length=its2.length:=by lia
   rw [this,Nat.min_self,show its2.length=ds.length by lia]
   simp
 . rw [z98 hl]
   have:(its.length==its2.length)=false:=by simp;lia
   rw [this,Bool.and_false]
theorem znu {ds es:List D} {xs ys:List V} {its its2:List Value} (hxs:RDs X.K H ds xs) (hys:RDs X.K H es ys) (r:Vals xs its) (r2:Vals ys its2) (hl:ds.length=es.length) :
  ((List.range its.toArray.size).all fun j=>eqD (ds.getD j .non) (es.getD j .non))=z4s ds es:=by
 have lx:=hxs.length;have ly:=hys.length;have l1:=r.length;have l2:=r2.length
 rw [z97 hl,List.size_toArray,show its.length=ds.length by lia]
theorem y0i {A:Around} {n:Nat} (hu:A.units<cLine) (ih:zxl X H s A.in1 n) {d e:D} {x y:V} {u v:Value} (hn:d.dep<=n+1) (sx:Shp X H s d x u) (sy:Shp X H s e y v):SeqAt.RcAt A s u v (eqD d e)/\SeqAt.RcNeAt A s u v (!eqD d e):=by
 cases sx with
 | non=>cases sy with
  | non=>exact ⟨.none_none,.none_none⟩
  | bl _=>exact ⟨.none_bool _,.none_bool _⟩
  | int _ _=>exact ⟨.none_int _ _,.none_int _ _⟩
  | str _ _=>exact ⟨.none_str _ _,.none_str _ _⟩
  | tup p2 h2 q2 r2 t2=>exact ⟨.none_tuple t2 hu,.none_tuple t2 hu⟩
  | lst p2 h2 q2 r2 t2=>exact ⟨.none_list t2 hu,.none_list t2 hu⟩
 | bl _=>cases sy with
  | non=>exact ⟨.bool_none _,.bool_none _⟩
  | bl _=>exact ⟨.bool_bool _ _,.bool_bool _ _⟩
  | int _ _=>exact ⟨.bool_int _ _ _,.bool_int _ _ _⟩
  | str _ _=>exact ⟨.bool_str _ _ _,.bool_str _ _ _⟩
  | tup p2 h2 q2 r2 t2=>exact ⟨.bool_tuple _ t2 hu,.bool_tuple _ t2 hu⟩
  | lst p2 h2 q2 r2 t2=>exact ⟨.bool_list _ t2 hu,.bool_list _ t2 hu⟩
 | int _ _=>cases sy with
  | non=>exact ⟨.int_none _ _,.int_none _ _⟩
  | bl _=>exact ⟨.int_bool _ _ _,.int_bool _ _ _⟩
  | int _ _=>exact ⟨.int_int _ _ _ _,.int_int _ _ _ _⟩
  | str _ _=>exact ⟨.int_str _ _ _ _,.int_str _ _ _ _⟩
  | tup p2 h2 q2 r2 t2=>exact ⟨.int_tuple _ _ t2 hu,.int_tuple _ _ t2 hu⟩
  | lst p2 h2 q2 r2 t2=>exact ⟨.int_list _ _ t2 hu,.int_list _ _ t2 hu⟩
 | str _ _=>cases sy with
  | non=>exact ⟨.str_none _ _,.str_none _ _⟩
  | bl _=>exact ⟨.str_bool _ _ _,.str_bool _ _ _⟩
  | int _ _=>exact ⟨.str_int _ _ _ _,.str_int _ _ _ _⟩
  | str _ _=>exact ⟨.str_str _ _ _ _,.str_str _ _ _ _⟩
  | tup p2 h2 q2 r2 t2=>exact ⟨.str_tuple _ _ t2 hu,.str_tuple _ _ t2 hu⟩
  | lst p2 h2 q2 r2 t2=>exact ⟨.str_list _ _ t2 hu,.str_list _ _ t2 hu⟩
 | tup p h q r t=>cases sy with
  | non=>exact ⟨.tuple_none t hu,.tuple_none t hu⟩
  | bl _=>exact ⟨.tuple_bool _ t hu,.tuple_bool _ t hu⟩
  | int _ _=>exact ⟨.tuple_int _ _ t hu,.tuple_int _ _ t hu⟩
  | str _ _=>exact ⟨.tuple_str _ _ t hu,.tuple_str _ _ t hu⟩
  | tup p2 h2 q2 r2 t2 => 
   simp only [D.dep] at hn
   have z:=zgm ih p p2 (Nat.le_of_succ_le_succ hn) q q2 r r2
   simp only [eqD]
   rw [<-znt q q2 r r2]
   exact ⟨.tuples t t2 hu z,.tuples t t2 hu z⟩
  | lst p2 h2 q2 r2 t2=>exact ⟨.tuple_list t t2 hu,.tuple_list t t2 hu⟩
 | lst p h q r t=>cases sy with
  | non=>exact ⟨.list_none t hu,.list_none t hu⟩
  | bl _=>exact ⟨.list_bool _ t hu,.list_bool _ t hu⟩
  | int _ _=>exact ⟨.list_int _ _ t hu,.list_int _ _ t hu⟩
  | str _ _=>exact ⟨.list_str _ _ t hu,.list_str _ _ t hu⟩
  | tup p2 h2 q2 r2 t2=>exact ⟨.list_tuple t t2 hu,.list_tuple t t2 hu⟩
  | lst p2 h2 q2 r2 t2 => 
   rename_i ds _ xs its es _ ys its2
   simp only [D.dep] at hn
   have z:=zgm ih p p2 (Nat.le_of_succ_le_succ hn) q q2 r r2
   have lx:=q.length;have ly:=q2.length;have l1:=r.length;have l2:=r2.length
   simp only [eqD]
   by_cases hl:ds.length=es.length
   . have hsz:its.toArray.size=its2.toArray.size:=by simp;lia
     rw [<-znu q q2 r r2 hl]
     exact ⟨.lists t t2 hsz hu z,.lists t t2 hsz hu z⟩
   . have hsz:(its.toArray.size != its2.toArray.size)=true:=by simp;lia
     rw [z98 hl]
     exact ⟨.lists_lengths t t2 hsz hu,.lists_lengths t t2 hsz hu⟩
theorem zdm (I:Inv X pins U H s):∀(n:Nat) {A:Around} {d e:D} {x y:V} {u v:Value},d.pl=true->e.pl=true->d.dep<=n->A.units+n<cLine->RD X.K H d x->RD X.K H e y->RelV x u->RelV y v->SeqAt.EqAt A s u v (eqD d e):=by
 have key:∀(n:Nat) {A:Around} {d e:D} {x y:V} {u v:Value},A.units<cLine->(∀m,m+1=n->zxl X H s A.in1 m)->d.pl=true->e.pl=true->d.dep<=n->RD X.K H d x->RD X.K H e y->RelV x u->RelV y v->SeqAt.EqAt A s u v (eqD d e):=by
  intro n A d e x y u v hu ih hpd hpe hn hx hy ru rv
  have sx:=shp I hpd hx ru
  have sy:=shp I hpe hy rv
  have back:∀{a b:Addr},u=.ref a->v=.ref b->x=.ref a->y=.ref b->1<=d.dep->SeqAt.EqAt A s u v (eqD d e):=fun {a b} eu ev ex ey h1=>by
   subst eu ev ex ey
   by_cases hab:a=b
   . subst hab
     rw [RD.inj hpd hpe hx hy,z6m _ hpe]
     exact .same _
   . exact .of_refs hab (y0i (n:=n - 1) hu (ih (n - 1) (by lia)) (by lia) sx sy).1
  cases sx with
  | non=>cases sy with
   | non=>exact .same _
   | bl _=>exact .none_bool _
   | int _ _=>exact .none_int _ _
   | str _ _=>exact .none_str _ _
   | tup p2 h2 q2 r2 t2=>exact .none_tuple t2 hu
   | lst p2 h2 q2 r2 t2=>exact .none_list t2 hu
  | bl _=>cases sy with
   | non=>exact .bool_none _
   | bl _=>exact .bool_bool _ _
   | int _ _=>exact .bool_int _ _ _
   | str _ _=>exact .bool_str _ _ _
   | tup p2 h2 q2 r2 t2=>exact .bool_tuple _ t2 hu
   | lst p2 h2 q2 r2 t2=>exact .bool_list _ t2 hu
  | int _ _=>cases sy with
   | non=>exact .int_none _ _
   | bl _=>exact .int_bool _ _ _
   | int _ _=>exact .int_int _ _ _ _
   | str _ _=>exact .int_str _ _ _ _
   | tup p2 h2 q2 r2 t2=>exact .int_tuple _ _ t2 hu
   | lst p2 h2 q2 r2 t2=>exact .int_list _ _ t2 hu
  | str _ _=>cases sy with
   | non=>exact .str_none _ _
   | bl _=>exact .str_bool _ _ _
   | int _ _=>exact .str_int _ _ _ _
   | str _ _=>exact .str_str _ _ _ _
   | tup p2 h2 q2 r2 t2=>exact .str_tuple _ _ t2 hu
   | lst p2 h2 q2 r2 t2=>exact .str_list _ _ t2 hu
  | tup p h q r t=>cases sy with
   | non=>exact .tuple_none t hu
   | bl _=>exact .tuple_bool _ t hu
   | int _ _=>exact .tuple_int _ _ t hu
   | str _ _=>exact .tuple_str _ _ t hu
   | tup p2 h2 q2 r2 t2=>exact back rfl rfl rfl rfl (by simp only [D.dep];exact Nat.succ_pos _)
   | lst p2 h2 q2 r2 t2=>exact .tuple_list t t2 hu
  | lst p h q r t=>cases sy with
   | non=>exact .list_none t hu
   | bl _=>exact .list_bool _ t hu
   | int _ _=>exact .list_int _ _ t hu
   | str _ _=>exact .list_str _ _ t hu
   | tup p2 h2 q2 r2 t2=>exact .list_tuple t t2 hu
   | lst p2 h2 q2 r2 t2=>exact back rfl rfl rfl rfl (by simp only [D.dep];exact Nat.succ_pos _)
 intro n
 induction n with
 | zero=>exact fun p q hn hu=>key 0 (by lia) (fun m z=>nomatch z) p q hn
 | succ n ih=>exact fun {A d e x y u v} p q hn hu=>key (n+1) (by lia) (fun m z=>by cases z;exact fun p q hn=>ih p q hn (by show A.units+1+n<cLine;lia)) p q hn
theorem zlh (I:Inv X pins U H s) {n:Nat} {A:Around} {d e:D} {x y:V} {u v:Value} (hpd:d.pl=true) (hpe:e.pl=true) (hn:d.dep<=n) (hu:A.units+1+n<cLine) (hx:RD X.K H d x) (hy:RD X.K H e y) (ru:RelV x u) (rv:RelV y v):SeqAt.RcAt A s u v (eqD d e)/\SeqAt.RcNeAt A s u v (!eqD d e):=
 y0i (n:=n) (by lia) (fun p q h=>zdm I n p q h (by show A.units+1+n<cLine;lia)) (by lia) (shp I hpd hx ru) (shp I hpe hy rv)
end
section
variable {X:Cx}
open Classical in
noncomputable def hitD (K:Frag) (H:Hp) (d:D) (u:Value):Bool:=match zzy u with
 | some v=>decide (∃e,e.pl=true/\RD K H e v/\eqD e d=true)
 | none=>false
open Classical in
theorem zgn {K:Frag} {H:Hp} {d e:D} {y:V} {u:Value} (pe:e.pl=true) (r:RelV y u) (h:RD K H e y):hitD K H d u=eqD e d:=by
 unfold hitD
 rw [r.abs]
 dsimp only
 rw [Bool.eq_iff_iff]
 rw [decide_eq_true_iff]
 exact ⟨fun ⟨e',p',h',q⟩=>by rw [RD.inj pe p' h h'];exact q,fun q=>⟨e,pe,h,q⟩⟩
theorem z99 {K:Frag} {H:Hp} {d:D}:∀{es:List D} {xs:List V} {us:List Value},pls es=true->RDs K H es xs->Vals xs us->us.any (hitD K H d)=es.any fun e=>eqD e d
 | [],_,_,_,h,r=>by
  simp only [RDs] at h;subst h;cases r;rfl
 | e::es,_,_,p,h,r=>by
  simp only [RDs] at h
  simp only [pls,Bool.and_eq_true] at p
  obtain ⟨x,xs,rfl,h1,h2⟩:=h
  cases r with
  | cons r1 r2=>rw [List.any_cons,List.any_cons,zgn p.1 r1 h1,z99 p.2 h2 r2]
theorem zc6 {A:Around} {pins:List (Addr×Obj)} {U:St} {H:Hp} {s:Shared} (I:Inv X pins U H s) (hu:A.units+1+20<cLine) {d:D} {x:V} {v:Value} (pd:d.pl=true) (hx:RD X.K H d x) (rx:RelV x v):∀{es:List D} {xs:List V} {us:List Value},
  pls es=true->RDs X.K H es xs->Vals xs us->z4e es<=20->∀u∈us,SeqAt.EqAt A.in1 s u v (hitD X.K H d u)
 | [],_,_,_,h,r,_=>by
  simp only [RDs] at h;subst h;cases r
  intro u hu;cases hu
 | e::es,_,_,p,h,r,hd=>by
  simp only [RDs] at h
  simp only [pls,Bool.and_eq_true] at p
  obtain ⟨y,xs,rfl,h1,h2⟩:=h
  simp only [z4e] at hd
  cases r with
  | cons r1 r2=>
   intro u hm
   rcases List.mem_cons.mp hm with z | hm
   . subst z
     rw [zgn p.1 r1 h1]
     exact zdm I 20 p.1 pd (by lia) (by show A.units+1+20<cLine;lia) h1 hx r1 rx
   . exact zc6 I hu pd hx rx p.2 h2 r2 (by lia) u hm
end
structure Ex where
 cls:String
 fs:List D
inductive R (α:Type) where
 | ok (a:α) | er (x:Ex) | st
noncomputable def R.bind {α β:Type} (r:R α) (f:α->R β):R β:=match r with
 | .ok a=>f a
 | .er x=>.er x
 | .st=>.st
def Rk {α:Type} (EX:Ex->Prop) (r:R α) (k:α->Prop):Prop:=match r with
 | .ok a=>k a
 | .er x=>EX x
 | .st=>False
section
variable {α β:Type} {EX:Ex->Prop}
noncomputable def R.of (o:Option α):R α:=match o with
 | some a=>.ok a
 | none=>.st
theorem R.of_some (a:α):R.of (some a)=R.ok a:=rfl
theorem Rk.of {o:Option α} {k:α->Prop} (h:Rk EX (R.of o) k):∃a,o=some a/\k a:=by
 cases o with
 | none=>exact h.elim
 | some a=>exact ⟨a,rfl,h⟩
theorem R.bind_ok (a:α) (f:α->R β):(R.ok a).bind f=f a:=rfl
theorem Rk.bind {r:R α} {f:α->R β} {k:β->Prop}:Rk EX (r.bind f) k=Rk EX r fun a=>Rk EX (f a) k:=by cases r<;>rfl
theorem Rk.mono {r:R α} {k k':α->Prop} (h:Rk EX r k) (hk:∀a,k a->k' a):Rk EX r k':=by
 cases r with
 | ok a=>exact hk a h
 | er x=>exact h
 | st=>exact h
end
def Ext (H0 H H0' H':Hp):Prop:=Same H0 H0'/\Same H0' H'/\∀a,H a≠none->H0 a=none->H0' a=none
theorem Ext.refl {H0 H:Hp} (h:Same H0 H):Ext H0 H H0 H:=⟨Same.refl _,h,fun _ _ e=>e⟩
theorem z4t {α:Type} {o:Option α} {x:α} (h:o=some x):o≠none:=by rw [h];exact fun z=>nomatch z
theorem Same.ne {H H':Hp} (h:Same H H') {a:Addr} (n:H a≠none):H' a≠none:=by
 cases e:H a with
 | none=>exact absurd e n
 | some o=>exact z4t (h a o e)
theorem Ext.trans {H0 H H0' H' H0'' H'':Hp} (s:Same H H') (a:Ext H0 H H0' H') (b:Ext H0' H' H0'' H''):Ext H0 H H0'' H'':=
 ⟨a.1.trans b.1,b.2.1,fun c h1 h2=>b.2.2 c (s.ne h1) (a.2.2 c h1 h2)⟩
theorem Ext.grow {H0 H H0' H' H'':Hp} (a:Ext H0 H H0' H') (s:Same H' H''):Ext H0 H H0' H'':=⟨a.1,a.2.1.trans s,a.2.2⟩
theorem Ext.new {H0 H:Hp} {p:Addr} {o:HO} (h:Same H0 H) (hp:H p=none):Ext H0 H (upd H0 p o) (upd H p o):=by
 have h0:H0 p=none:=by
  cases e:H0 p with
  | none=>rfl
  | some u=>rw [h p u e] at hp;cases hp
 refine ⟨Same.upd_new h0,fun b u e=>?_,fun a h1 h2=>?_⟩
 . by_cases hb:b=p
   . subst hb;rw [z0d] at e ⊢;exact e
   . rw [z08 hb] at e ⊢;exact h b u e
 . have ha:a≠p:=fun z=>h1 (by rw [z];exact hp)
   rw [z08 ha];exact h2
def OB (K:Frag) (H0 H:Hp) (a:Addr):D->Prop
 | .lst ds=>∃xs,H a=some (.lst xs)/\RDs K H0 ds xs
 | .dk ks ds=>∃xs,H a=some (.dK (ks.zip xs))/\ks.length=xs.length/\RDs K H0 ds xs
 | .dt ks ds=>∃xs,H a=some (.dT (ks.zip xs))/\ks.length=xs.length/\RDs K H0 ds xs
 | .dn ks ds=>∃qs xs o,H a=some (.ext (dnP a qs xs o))/\qs.map (·.1)=ks/\DN H0 a qs/\RDs K H0 ds xs
 | _=>False
section
variable {K:Frag} {H0 H H0' H':Hp} {a:Addr} {d:D}
theorem OB.some (h:OB K H0 H a d):∃o,H a=some o/\¬Imm o:=by
 cases d<;>simp only [OB] at h
 . obtain ⟨xs,h,_⟩:=h;exact ⟨_,h,fun z=>z⟩
 . obtain ⟨xs,h,_⟩:=h;exact ⟨_,h,fun z=>z⟩
 . obtain ⟨xs,h,_⟩:=h;exact ⟨_,h,fun z=>z⟩
 . obtain ⟨qs,xs,o,h,_⟩:=h;exact ⟨_,h,fun z=>z _ _ _ _ rfl⟩
theorem OB.mono (h:OB K H0 H a d) (s0:Same H0 H0') (s:Same H H'):OB K H0' H' a d:=by
 cases d<;>simp only [OB] at h ⊢
 . obtain ⟨xs,h,r⟩:=h;exact ⟨_,s _ _ h,r.mono s0⟩
 . obtain ⟨xs,h,l,r⟩:=h;exact ⟨_,s _ _ h,l,r.mono s0⟩
 . obtain ⟨xs,h,l,r⟩:=h;exact ⟨_,s _ _ h,l,r.mono s0⟩
 . obtain ⟨qs,xs,o,h,k,n,r⟩:=h;exact ⟨qs,xs,o,s _ _ h,k,n.tk fun b ys q=>s0 _ _ q,r.mono s0⟩
theorem OB.at (h:OB K H0 H a d) (e:H' a=H a):OB K H0 H' a d:=by
 cases d<;>simp only [OB] at h ⊢
 . obtain ⟨xs,h,r⟩:=h;exact ⟨_,e.trans h,r⟩
 . obtain ⟨xs,h,l,r⟩:=h;exact ⟨_,e.trans h,l,r⟩
 . obtain ⟨xs,h,l,r⟩:=h;exact ⟨_,e.trans h,l,r⟩
 . obtain ⟨qs,xs,o,h,k,n,r⟩:=h;exact ⟨qs,xs,o,e.trans h,k,n,r⟩
theorem OB.tk (h:OB K H0 H a d) (n:d.shal=true) (t:TK H0 H0'):OB K H0' H a d:=by
 cases d<;>simp only [OB,D.shal] at h n ⊢
 . obtain ⟨xs,h,r⟩:=h;exact ⟨_,h,r.tk t n⟩
 . obtain ⟨xs,h,l,r⟩:=h;exact ⟨_,h,l,r.tk t n⟩
 . obtain ⟨xs,h,l,r⟩:=h;exact ⟨_,h,l,r.tk t n⟩
 . obtain ⟨qs,xs,o,h,k,m,r⟩:=h;exact ⟨qs,xs,o,h,k,m.tk fun b ys q=>t _ _ trivial q,r.tk t n⟩
theorem OB.rd (h:OB K H0 H a d) (s0:Same H0 H0') (e:H0' a=H a):RD K H0' d (.ref a):=by
 cases d<;>simp only [OB,RD] at h ⊢
 . obtain ⟨xs,h,r⟩:=h;exact ⟨_,_,rfl,e.trans h,r.mono s0⟩
 . obtain ⟨xs,h,l,r⟩:=h;exact ⟨_,_,rfl,e.trans h,l,r.mono s0⟩
 . obtain ⟨xs,h,l,r⟩:=h;exact ⟨_,_,rfl,e.trans h,l,r.mono s0⟩
 . obtain ⟨qs,xs,o,h,k,n,r⟩:=h;exact ⟨_,qs,xs,o,rfl,e.trans h,k,n.tk fun b ys q=>s0 _ _ q,r.mono s0⟩
end
def Out (K:Frag) (fr:Bool) (H0 H:Hp) (d:D) (v:V) (H':Hp):Prop:=
 Same H H'/\∃H0',Ext H0 H H0' H'/\(if fr=true then ∃p,v=.ref p/\H p=none/\H0' p=none/\OB K H0' H' p d else RD K H0' d v)
section
variable {K:Frag} {fr:Bool} {H0 H H0' H':Hp} {d:D} {v:V}
theorem Out.val (s:Same H H') (e:Ext H0 H H0' H') (r:RD K H0' d v):Out K false H0 H d v H':=⟨s,H0',e,by rw [if_neg Bool.false_ne_true];exact r⟩
theorem Out.pure (s:Same H0 H) (r:RD K H0 d v):Out K false H0 H d v H:=.val (Same.refl _) (.refl s) r
theorem Out.fresh {p:Addr} (s:Same H H') (e:Ext H0 H H0' H') (hp:H p=none) (hp0:H0' p=none) (o:OB K H0' H' p d):Out K true H0 H d (.ref p) H':=⟨s,H0',e,by rw [if_pos rfl];exact ⟨p,rfl,hp,hp0,o⟩⟩
theorem Out.rd (o:Out K false H0 H d v H'):Same H H'/\∃H0',Ext H0 H H0' H'/\RD K H0' d v:=by
 obtain ⟨s,H0',e,r⟩:=o
 rw [if_neg Bool.false_ne_true] at r
 exact ⟨s,H0',e,r⟩
theorem Out.weak (o:Out K fr H0 H d v H'):Out K false H0 H d v H':=by
 cases fr with
 | false=>exact o
 | true=>
  obtain ⟨s,H0',e,r⟩:=o
  rw [if_pos rfl] at r
  obtain ⟨p,rfl,hp,hp0,ob⟩:=r
  obtain ⟨u,hu,_⟩:=ob.some
  have e2:Ext H0 H (upd H0' p u) H':=by
   refine ⟨e.1.trans (Same.upd_new hp0),fun b w q=>?_,fun a h1 h2=>?_⟩
   . by_cases hb:b=p
     . subst hb;rw [z0d] at q;cases q;exact hu
     . rw [z08 hb] at q;exact e.2.1 b w q
   . rw [z08 (fun z=>h1 (by rw [z];exact hp))];exact e.2.2 a h1 h2
  exact .val s e2 (ob.rd (Same.upd_new hp0) (by rw [z0d,hu]))
theorem Out.after {H1 H1':Hp} (s:Same H H1) (e:Ext H0 H H1' H1) (o:Out K fr H1' H1 d v H'):Out K fr H0 H d v H':=by
 obtain ⟨s',H0',e',r⟩:=o
 refine ⟨s.trans s',H0',e.trans s e',?_⟩
 cases fr with
 | false=>exact r
 | true=>
  rw [if_pos rfl] at r ⊢
  obtain ⟨p,rfl,hp,r⟩:=r
  refine ⟨p,rfl,?_,r⟩
  cases q:H p with
  | none=>rfl
  | some u=>rw [s p u q] at hp;cases hp
end
abbrev DE:=List (Option D)
def RE (K:Frag) (H:Hp) (ρ:DE) (U:St):Prop:=ρ.length=U.length/\∀(i:Nat) d,ρ[i]?=some (some d)->∃v,U[i]?=some (some v)/\RD K H d v
theorem RE.mono {K:Frag} {H H':Hp} {ρ:DE} {U:St} (h:RE K H ρ U) (s:Same H H'):RE K H' ρ U:=⟨h.1,fun i d e=>by
 obtain ⟨v,h1,h2⟩:=h.2 i d e
 exact ⟨v,h1,h2.mono s⟩⟩
structure XW where
 hb:Hp
 p:Ex->Hp->Prop
abbrev F0:XW:=⟨fun _=>none,fun _ _=>False⟩
theorem F0.same (H:Hp):Same F0.hb H:=fun _ _ z=>nomatch z
def XW.at (W:XW) (x:Ex):Prop:=∀H',Same W.hb H'->W.p x H'
noncomputable def TEd (K:Frag) (EX:XW) (fr:Bool) (f:DE->R D):TE:=fun U H Q=>Same EX.hb H/\∃ρ H0,Same H0 H/\RE K H0 ρ U/\Rk EX.at (f ρ) fun d=>∀v H',Out K fr H0 H d v H'->Q v H'
noncomputable def TAd (K:Frag) (EX:XW) (f:DE->R (List D)):TA:=fun U H Q=>Same EX.hb H/\∃ρ H0,Same H0 H/\RE K H0 ρ U/\Rk EX.at (f ρ) fun ds=>∀vs H' H0',Same H H'->Ext H0 H H0' H'->RDs K H0' ds vs->Q vs H'
noncomputable def TTd (K:Frag) (EX:XW) (f:DE->R Bool):TT:=fun U H Q=>Same EX.hb H/\∃ρ H0,Same H0 H/\RE K H0 ρ U/\Rk EX.at (f ρ) fun b=>∀H',Same H H'->Q b H'
noncomputable def z02 (i:Nat):DE->R D:=fun ρ=>match ρ[i]? with | some (some d)=>.ok d | _=>.st
noncomputable def eC (d:D):DE->R D:=fun _=>.ok d
noncomputable def eOp (o:D->D->Option D) (fa fb:DE->R D):DE->R D:=fun ρ=>(fa ρ).bind fun x=>(fb ρ).bind fun y=>R.of (o x y)
noncomputable def eUn (o:D->Option D) (fa:DE->R D):DE->R D:=fun ρ=>(fa ρ).bind fun x=>R.of (o x)
noncomputable def z0h:DE->R (List D):=fun _=>.ok []
noncomputable def z01 (f:DE->R D) (fs:DE->R (List D)):DE->R (List D):=fun ρ=>(f ρ).bind fun d=>(fs ρ).bind fun ds=>.ok (d::ds)
noncomputable def z0v (m:List D->R D) (fs:DE->R (List D)):DE->R D:=fun ρ=>(fs ρ).bind m
noncomputable def eCB (m:List D->Option D) (fs:DE->R (List D)):DE->R D:=fun ρ=>(fs ρ).bind fun ds=>R.of (m ds)
noncomputable def z88 (fs:DE->R (List D)):DE->R D:=fun ρ=>(fs ρ).bind fun ds=>if ds.length<=1000 then .ok (.tup ds) else .st
noncomputable def z76 (fs:DE->R (List D)):DE->R D:=fun ρ=>(fs ρ).bind fun ds=>if ds.length<=1000 then .ok (.lst ds) else .st
noncomputable def eIf (t:DE->R Bool) (fa fb:DE->R D):DE->R D:=fun ρ=>(t ρ).bind fun b=>if b=true then fa ρ else fb ρ
noncomputable def zqg (t u:DE->R Bool):DE->R Bool:=fun ρ=>(t ρ).bind fun b=>if b=true then u ρ else .ok false
noncomputable def bOr (t u:DE->R Bool):DE->R Bool:=fun ρ=>(t ρ).bind fun b=>if b=true then .ok true else u ρ
noncomputable def zbs (t:DE->R Bool):DE->R Bool:=fun ρ=>(t ρ).bind fun b=>.ok (!b)
noncomputable def asB:D->Option Bool
 | .bl b=>some b
 | _=>none
noncomputable def z2r (tr:D->Option Bool) (f:DE->R D):DE->R Bool:=fun ρ=>(f ρ).bind fun d=>R.of (tr d)
noncomputable def zgo (fa fb:DE->R D):DE->R D:=fun ρ=>(fa ρ).bind fun x=>(R.of (asB x)).bind fun b=>if b=true then fb ρ else .ok (.bl false)
noncomputable def eOr (fa fb:DE->R D):DE->R D:=fun ρ=>(fa ρ).bind fun x=>(R.of (asB x)).bind fun b=>if b=true then .ok (.bl true) else fb ρ
def OpD (K:Frag) (fr:Bool) (o:D->D->Option D) (r:R2):Prop:=∀(H0 H:Hp) (x y:V) (d e z:D) (Q:VK),Same H0 H->RD K H0 d x->RD K H0 e y->o d e=some z->(∀v H',Out K fr H0 H z v H'->Q v H')->r x y H Q
def UnD (K:Frag) (fr:Bool) (o:D->Option D) (r:V->Hp->VK->Prop):Prop:=∀(H0 H:Hp) (x:V) (d z:D) (Q:VK),Same H0 H->RD K H0 d x->o d=some z->(∀v H',Out K fr H0 H z v H'->Q v H')->r x H Q
def z55 (K:Frag) (fr:Bool) (m:List D->Option D) (r:List V->Hp->VK->Prop):Prop:=∀(H0 H:Hp) (xs:List V) (ds:List D) (z:D) (Q:VK),Same H0 H->RDs K H0 ds xs->m ds=some z->(∀v H',Out K fr H0 H z v H'->Q v H')->r xs H Q
def zxm (K:Frag) (tr:D->Option Bool) (r:V->Hp->(Bool->Hp->Prop)->Prop):Prop:=∀(H0 H:Hp) (x:V) (d:D) (b:Bool) (Q:Bool->Hp->Prop),Same H0 H->RD K H0 d x->tr d=some b->Q b H->r x H Q
section
variable {K:Frag} {EX:XW} {fr:Bool} {U:St} {H:Hp} {Q:VK}
theorem TEd.go {f:DE->R D} {ρ:DE} {H0:Hp} {k:D->Prop} (sx:Same EX.hb H) (s:Same H0 H) (e:RE K H0 ρ U) (h:Rk EX.at (f ρ) k) (hk:∀d,k d->∀v H' H0',Same H H'->Ext H0 H H0' H'->RD K H0' d v->Q v H'):TEd K EX false f U H Q:=
 ⟨sx,ρ,H0,s,e,h.mono fun d z v H' o=>by
  obtain ⟨s',H0',e',r⟩:=o.rd
  exact hk d z v H' H0' s' e' r⟩
theorem TAd.go {f:DE->R (List D)} {ρ:DE} {H0:Hp} {k:List D->Prop} {Q:List V->Hp->Prop} (sx:Same EX.hb H) (s:Same H0 H) (e:RE K H0 ρ U) (h:Rk EX.at (f ρ) k) (hk:∀d,k d->∀v H' H0',Same H H'->Ext H0 H H0' H'->RDs K H0' d v->Q v H'):TAd K EX f U H Q:=
 ⟨sx,ρ,H0,s,e,h.mono fun d z v H' H0' s' e' r=>hk d z v H' H0' s' e' r⟩
theorem TTd.go {f:DE->R Bool} {ρ:DE} {H0:Hp} {k:Bool->Prop} {Q:Bool->Hp->Prop} (sx:Same EX.hb H) (s:Same H0 H) (e:RE K H0 ρ U) (h:Rk EX.at (f ρ) k) (hk:∀b,k b->∀H',Same H H'->Q b H'):TTd K EX f U H Q:=
 ⟨sx,ρ,H0,s,e,h.mono fun b z H' s'=>hk b z H' s'⟩
theorem TEd.weak {f:DE->R D} (h:TEd K EX false f U H Q):TEd K EX fr f U H Q:=by
 obtain ⟨sx,ρ,H0,s,e,h⟩:=h
 exact ⟨sx,ρ,H0,s,e,h.mono fun d z v H' o=>z v H' o.weak⟩
theorem zxn {i:Nat} (h:TEd K EX false (z02 i) U H Q):∃v,U[i]?=some (some v)/\Q v H:=by
 obtain ⟨sx,ρ,H0,s,e,h⟩:=h
 unfold z02 at h
 split at h
 . rename_i d q
   obtain ⟨v,h1,h2⟩:=e.2 i d q
   exact ⟨v,h1,h v H (.pure s h2)⟩
 . exact h.elim
theorem z9a {d:D} {v:V} (hd:∀H0,RD K H0 d v) (h:TEd K EX false (eC d) U H Q):tC v U H Q:=by
 obtain ⟨sx,ρ,H0,s,e,h⟩:=h
 exact h v H (.pure s (hd _))
theorem zwn {o:D->D->Option D} {r:R2} {fa fb:DE->R D} (ho:OpD K fr o r) (h:TEd K EX fr (eOp o fa fb) U H Q):tOp r (TEd K EX false fa) (TEd K EX false fb) U H Q:=by
 obtain ⟨sx,ρ,H0,s,e,h⟩:=h
 unfold eOp at h
 rw [Rk.bind] at h
 refine TEd.go sx s e h fun d h v H1 H1' s1 e1 r1=>?_
 rw [Rk.bind] at h
 refine TEd.go (sx.trans s1) e1.2.1 (e.mono e1.1) h fun d2 h v2 H2 H2' s2 e2 r2=>?_
 obtain ⟨z,hz,h⟩:=h.of
 exact ho H2' H2 v v2 d d2 z Q e2.2.1 (r1.mono e2.1) r2 hz fun w H3 o=>h w H3 (o.after (s1.trans s2) (e1.trans s1 e2))
theorem y16 {o:D->Option D} {r:V->Hp->VK->Prop} {fa:DE->R D} (ho:UnD K fr o r) (h:TEd K EX fr (eUn o fa) U H Q):tUn r (TEd K EX false fa) U H Q:=by
 obtain ⟨sx,ρ,H0,s,e,h⟩:=h
 unfold eUn at h
 rw [Rk.bind] at h
 refine TEd.go sx s e h fun d h v H1 H1' s1 e1 r1=>?_
 obtain ⟨z,hz,h⟩:=h.of
 exact ho H1' H1 v d z Q e1.2.1 r1 hz fun w H3 o=>h w H3 (o.after s1 e1)
theorem zs7 {Q:List V->Hp->Prop} (h:TAd K EX z0h U H Q):zfx U H Q:=by
 obtain ⟨sx,ρ,H0,s,e,h⟩:=h
 exact h [] H H0 (Same.refl _) (.refl s) .nil
theorem zgp {Q:List V->Hp->Prop} {f:DE->R D} {fs:DE->R (List D)} (h:TAd K EX (z01 f fs) U H Q):z4p (TEd K EX false f) (TAd K EX fs) U H Q:=by
 obtain ⟨sx,ρ,H0,s,e,h⟩:=h
 unfold z01 at h
 rw [Rk.bind] at h
 refine TEd.go sx s e h fun d h v H1 H1' s1 e1 r1=>?_
 rw [Rk.bind] at h
 refine TAd.go (sx.trans s1) e1.2.1 (e.mono e1.1) h fun ds h vs H2 H2' s2 e2 r2=>?_
 exact h (v::vs) H2 H2' (s1.trans s2) (e1.trans s1 e2) (.cons (r1.mono e2.1) r2)
theorem zxo {m:List D->Option D} {r:List V->Hp->VK->Prop} {fs:DE->R (List D)} (hm:z55 K fr m r) (h:TEd K EX fr (eCB m fs) U H Q):tCB r (TAd K EX fs) U H Q:=by
 obtain ⟨sx,ρ,H0,s,e,h⟩:=h
 unfold eCB at h
 rw [Rk.bind] at h
 refine TAd.go sx s e h fun ds h vs H1 H1' s1 e1 r1=>?_
 obtain ⟨z,hz,h⟩:=h.of
 exact hm H1' H1 vs ds z Q e1.2.1 r1 hz fun w H3 o=>h w H3 (o.after s1 e1)
theorem z9b {n:Nat} (h:n<=1000):n<=sizeLine:=Nat.le_trans h (by decide)
theorem zxp {fs:DE->R (List D)} (h:TEd K EX false (z88 fs) U H Q):zx8 (TAd K EX fs) U H Q:=by
 obtain ⟨sx,ρ,H0,s,e,h⟩:=h
 unfold z88 at h
 rw [Rk.bind] at h
 refine TAd.go sx s e h fun ds h vs H1 H1' s1 e1 r1=>?_
 split at h
 . rename_i hl
   refine ⟨z9b (by rw [<-r1.length];exact hl),fun p hp=>h _ _ (.val (s1.trans (Same.upd_new hp)) (e1.trans s1 (.new e1.2.1 hp)) ?_)⟩
   have h1p:H1' p=none:=by
    cases q:H1' p with
    | none=>rfl
    | some u=>rw [e1.2.1 p u q] at hp;cases hp
   simp only [RD]
   exact ⟨p,vs,rfl,z0d,r1.mono (Same.upd_new h1p)⟩
 . exact h.elim
theorem Same.none {H H':Hp} (s:Same H H') {p:Addr} (h:H' p=none):H p=none:=by
 cases q:H p with
 | none=>rfl
 | some u=>rw [s p u q] at h;cases h
theorem Out.new {H0 H:Hp} {d:D} {p:Addr} {o:HO} (s:Same H0 H) (hp:H p=none) (hob:∀H',H' p=some o->OB K H0 H' p d):Out K true H0 H d (.ref p) (upd H p o):=
 .fresh (Same.upd_new hp) ((Ext.refl s).grow (Same.upd_new hp)) hp (s.none hp) (hob _ z0d)
theorem zxq {fs:DE->R (List D)} (h:TEd K EX true (z76 fs) U H Q):y04 (TAd K EX fs) U H Q:=by
 obtain ⟨sx,ρ,H0,s,e,h⟩:=h
 unfold z76 at h
 rw [Rk.bind] at h
 refine TAd.go sx s e h fun ds h vs H1 H1' s1 e1 r1=>?_
 split at h
 . rename_i hl
   refine ⟨z9b (by rw [<-r1.length];exact hl),fun p hp=>h _ _ (Out.after s1 e1 (.new e1.2.1 hp fun H' hH=>?_))⟩
   simp only [OB]
   exact ⟨vs,hH,r1⟩
 . exact h.elim
theorem zs8 {t u:DE->R Bool} {Q:Bool->Hp->Prop} (h:TTd K EX (zqg t u) U H Q):zzw (TTd K EX t) (TTd K EX u) U H Q:=by
 obtain ⟨sx,ρ,H0,s,e,h⟩:=h
 unfold zqg at h
 rw [Rk.bind] at h
 refine TTd.go sx s e h fun b h H1 s1=>?_
 cases b with
 | true=>exact TTd.go (sx.trans s1) (s.trans s1) e h fun b h H' s'=>h H' (s1.trans s')
 | false=>exact h H1 s1
theorem zxr {t u:DE->R Bool} {Q:Bool->Hp->Prop} (h:TTd K EX (bOr t u) U H Q):tOr (TTd K EX t) (TTd K EX u) U H Q:=by
 obtain ⟨sx,ρ,H0,s,e,h⟩:=h
 unfold bOr at h
 rw [Rk.bind] at h
 refine TTd.go sx s e h fun b h H1 s1=>?_
 cases b with
 | true=>exact h H1 s1
 | false=>exact TTd.go (sx.trans s1) (s.trans s1) e h fun b h H' s'=>h H' (s1.trans s')
theorem zs9 {t:DE->R Bool} {Q:Bool->Hp->Prop} (h:TTd K EX (zbs t) U H Q):zzx (TTd K EX t) U H Q:=by
 obtain ⟨sx,ρ,H0,s,e,h⟩:=h
 unfold zbs at h
 rw [Rk.bind] at h
 exact TTd.go sx s e h fun b h H1 s1=>h H1 s1
end
noncomputable def y17 (r:V->Hp->(Bool->Hp->Prop)->Prop) (t:TE):TT:=fun U H Q=>t U H fun x H'=>r x H' Q
noncomputable def zsa (K:Frag) (EX:XW) (g:D->DE->R D):V->TE:=fun x U H Q=>Same EX.hb H/\∃d ρ H0,Same H0 H/\RE K H0 ρ U/\RD K H0 d x/\Rk EX.at (g d ρ) fun z=>∀v H',Out K false H0 H z v H'->Q v H'
noncomputable def zgq (K:Frag) (EX:XW) (g:D->DE->R Bool):V->TT:=fun x U H Q=>Same EX.hb H/\∃d ρ H0,Same H0 H/\RE K H0 ρ U/\RD K H0 d x/\Rk EX.at (g d ρ) fun b=>∀H',Same H H'->Q b H'
noncomputable def zc7 (o:D->D->Option D) (fb:DE->R D):D->DE->R D:=fun d ρ=>(fb ρ).bind fun y=>R.of (o d y)
noncomputable def zav (o:D->D->Option D) (fb:DE->R D) (g:D->DE->R D):D->DE->R D:=fun d ρ=>(fb ρ).bind fun y=>(R.of (o d y)).bind fun z=>(R.of (asB z)).bind fun b=>if b=true then g y ρ else .ok (.bl false)
noncomputable def z8j (o:D->D->Option D) (fb:DE->R D):D->DE->R Bool:=fun d ρ=>(fb ρ).bind fun y=>(R.of (o d y)).bind fun z=>R.of (asB z)
noncomputable def z8k (o:D->D->Option D) (fb:DE->R D) (g:D->DE->R Bool):D->DE->R Bool:=fun d ρ=>(fb ρ).bind fun y=>(R.of (o d y)).bind fun z=>(R.of (asB z)).bind fun b=>if b=true then g y ρ else .ok false
noncomputable def znv (fa:DE->R D) (g:D->DE->R D):DE->R D:=fun ρ=>(fa ρ).bind fun x=>g x ρ
noncomputable def zqh (fa:DE->R D) (g:D->DE->R Bool):DE->R Bool:=fun ρ=>(fa ρ).bind fun x=>g x ρ
theorem z49 {d:D} {b:Bool} (h:asB d=some b):d=.bl b:=by
 cases d<;>simp [asB] at h
 subst h;rfl
theorem RD.bl {K:Frag} {H:Hp} {b:Bool} {v:V} (h:RD K H (.bl b) v):v=.bl b:=by simpa only [RD] using h
section
variable {K:Frag} {EX:XW} {U:St} {H:Hp} {Q:VK} {QB:Bool->Hp->Prop}
theorem zxs {fa fb:DE->R D} (h:TEd K EX false (zgo fa fb) U H Q):zrv (TEd K EX false fa) (TEd K EX false fb) U H Q:=by
 obtain ⟨sx,ρ,H0,s,e,h⟩:=h
 unfold zgo at h
 rw [Rk.bind] at h
 refine TEd.go sx s e h fun d h v H1 H1' s1 e1 r1=>?_
 rw [Rk.bind] at h
 obtain ⟨b,hb,h⟩:=h.of
 cases z49 hb
 cases r1.bl
 cases b with
 | true=>exact TEd.go (sx.trans s1) e1.2.1 (e.mono e1.1) h fun d h v H2 H2' s2 e2 r2=>h v H2 (.val (s1.trans s2) (e1.trans s1 e2) r2)
 | false=>exact h _ H1 (.val s1 e1 (by simp only [RD]))
theorem y18 {fa fb:DE->R D} (h:TEd K EX false (eOr fa fb) U H Q):y0c (TEd K EX false fa) (TEd K EX false fb) U H Q:=by
 obtain ⟨sx,ρ,H0,s,e,h⟩:=h
 unfold eOr at h
 rw [Rk.bind] at h
 refine TEd.go sx s e h fun d h v H1 H1' s1 e1 r1=>?_
 rw [Rk.bind] at h
 obtain ⟨b,hb,h⟩:=h.of
 cases z49 hb
 cases r1.bl
 cases b with
 | true=>exact h _ H1 (.val s1 e1 (by simp only [RD]))
 | false=>exact TEd.go (sx.trans s1) e1.2.1 (e.mono e1.1) h fun d h v H2 H2' s2 e2 r2=>h v H2 (.val (s1.trans s2) (e1.trans s1 e2) r2)
theorem zxt {tr:D->Option Bool} {r:V->Hp->(Bool->Hp->Prop)->Prop} {fa:DE->R D} (ht:zxm K tr r) (h:TTd K EX (z2r tr fa) U H QB):y17 r (TEd K EX false fa) U H QB:=by
 obtain ⟨sx,ρ,H0,s,e,h⟩:=h
 unfold z2r at h
 rw [Rk.bind] at h
 refine TEd.go sx s e h fun d h v H1 H1' s1 e1 r1=>?_
 obtain ⟨b,hb,h⟩:=h.of
 exact ht H1' H1 v d b QB e1.2.1 r1 hb (h H1 s1)
theorem zsb {tr:D->Option Bool} {r:V->Hp->(Bool->Hp->Prop)->Prop} {fa:DE->R D} (ht:zxm K tr r) (h:TEd K EX false (eUn (fun d=>(tr d).map fun b=>.bl (!b)) fa) U H Q) :
  (fun U H Q=>(TEd K EX false fa) U H fun x H1=>r x H1 fun k H2=>Q (.bl (!k)) H2) U H Q:=by
 obtain ⟨sx,ρ,H0,s,e,h⟩:=h
 unfold eUn at h
 rw [Rk.bind] at h
 refine TEd.go sx s e h fun d h v H1 H1' s1 e1 r1=>?_
 obtain ⟨z,hz,h⟩:=h.of
 have hz:(tr d).map (fun b=>D.bl (!b))=some z:=hz
 cases hb:tr d with
 | none=>rw [hb] at hz;cases hz
 | some b=>
  rw [hb] at hz;cases hz
  exact ht H1' H1 v d b _ e1.2.1 r1 hb (h _ H1 (.val s1 e1 (by simp only [RD])))
theorem zxu {o:D->D->Option D} {r:R2} {fa fb:DE->R D} (ho:OpD K false o r) (h:TTd K EX (z2r asB (eOp o fa fb)) U H QB):zng (tOp r (TEd K EX false fa) (TEd K EX false fb)) U H QB:=by
 obtain ⟨sx,ρ,H0,s,e,h⟩:=h
 unfold z2r at h
 rw [Rk.bind] at h
 unfold zng
 refine zwn (EX:=EX) ho ⟨sx,ρ,H0,s,e,h.mono fun d h v H' o=>?_⟩
 obtain ⟨b,hb,h⟩:=h.of
 obtain ⟨s',H0',e',r'⟩:=o.rd
 cases z49 hb
 cases r'.bl
 exact h H' s'
theorem zsc {o:D->D->Option D} {r:R2} {fb:DE->R D} (ho:OpD K false o r) {x:V} (h:zsa K EX (zc7 o fb) x U H Q):zrq r (TEd K EX false fb) x U H Q:=by
 obtain ⟨sx,d,ρ,H0,s,e,rx,h⟩:=h
 unfold zc7 at h
 rw [Rk.bind] at h
 refine TEd.go sx s e h fun d2 h v2 H2 H2' s2 e2 r2=>?_
 obtain ⟨z,hz,h⟩:=h.of
 exact ho H2' H2 x v2 d d2 z Q e2.2.1 (rx.mono e2.1) r2 hz fun w H3 o=>h w H3 (o.after s2 e2)
theorem zsd {o:D->D->Option D} {r:R2} {fb:DE->R D} {g:D->DE->R D} (ho:OpD K false o r) {x:V} (h:zsa K EX (zav o fb g) x U H Q):zrr r (TEd K EX false fb) (zsa K EX g) x U H Q:=by
 obtain ⟨sx,d,ρ,H0,s,e,rx,h⟩:=h
 unfold zav at h
 rw [Rk.bind] at h
 refine TEd.go sx s e h fun d2 h v2 H2 H2' s2 e2 r2=>?_
 rw [Rk.bind] at h
 obtain ⟨z,hz,h⟩:=h.of
 rw [Rk.bind] at h
 obtain ⟨b,hb,h9⟩:=h.of
 cases z49 hb
 refine ho H2' H2 x v2 d d2 _ _ e2.2.1 (rx.mono e2.1) r2 hz fun w H3 o=>?_
 obtain ⟨s3,H3',e3,r3⟩:=o.rd
 cases r3.bl
 clear h
 have h:=h9
 cases b with
 | true=>exact ⟨(sx.trans s2).trans s3,d2,ρ,H3',e3.2.1,e.mono (e2.1.trans e3.1),r2.mono e3.1,h.mono fun z h v H' o=>h v H' (o.after (s2.trans s3) (e2.trans s2 e3))⟩
 | false=>exact h _ H3 (.val (s2.trans s3) (e2.trans s2 e3) (by simp only [RD]))
theorem znw {o:D->D->Option D} {r:R2} {fb:DE->R D} (ho:OpD K false o r) {x:V} (h:zgq K EX (z8j o fb) x U H QB):zld r (TEd K EX false fb) x U H QB:=by
 obtain ⟨sx,d,ρ,H0,s,e,rx,h⟩:=h
 unfold z8j at h
 rw [Rk.bind] at h
 refine TEd.go sx s e h fun d2 h v2 H2 H2' s2 e2 r2=>?_
 rw [Rk.bind] at h
 obtain ⟨z,hz,h⟩:=h.of
 obtain ⟨b,hb,h⟩:=h.of
 cases z49 hb
 refine ho H2' H2 x v2 d d2 _ _ e2.2.1 (rx.mono e2.1) r2 hz fun w H3 o=>?_
 obtain ⟨s3,H3',e3,r3⟩:=o.rd
 cases r3.bl
 exact h H3 (s2.trans s3)
theorem znx {o:D->D->Option D} {r:R2} {fb:DE->R D} {g:D->DE->R Bool} (ho:OpD K false o r) {x:V} (h:zgq K EX (z8k o fb g) x U H QB):zle r (TEd K EX false fb) (zgq K EX g) x U H QB:=by
 obtain ⟨sx,d,ρ,H0,s,e,rx,h⟩:=h
 unfold z8k at h
 rw [Rk.bind] at h
 refine TEd.go sx s e h fun d2 h v2 H2 H2' s2 e2 r2=>?_
 rw [Rk.bind] at h
 obtain ⟨z,hz,h⟩:=h.of
 rw [Rk.bind] at h
 obtain ⟨b,hb,h9⟩:=h.of
 cases z49 hb
 refine ho H2' H2 x v2 d d2 _ _ e2.2.1 (rx.mono e2.1) r2 hz fun w H3 o=>?_
 obtain ⟨s3,H3',e3,r3⟩:=o.rd
 cases r3.bl
 clear h
 have h:=h9
 cases b with
 | true=>exact ⟨(sx.trans s2).trans s3,d2,ρ,H3',e3.2.1,e.mono (e2.1.trans e3.1),r2.mono e3.1,h.mono fun z h H' s'=>h H' (s2.trans (s3.trans s'))⟩
 | false=>exact h H3 (s2.trans s3)
theorem zxv {fa:DE->R D} {g:D->DE->R D} (h:TEd K EX false (znv fa g) U H Q):y0b (TEd K EX false fa) (zsa K EX g) U H Q:=by
 obtain ⟨sx,ρ,H0,s,e,h⟩:=h
 unfold znv at h
 rw [Rk.bind] at h
 exact TEd.go sx s e h fun d h v H1 H1' s1 e1 r1=>⟨sx.trans s1,d,ρ,H1',e1.2.1,e.mono e1.1,r1,h.mono fun z h v H' o=>h v H' (o.after s1 e1)⟩
theorem zse {fa:DE->R D} {g:D->DE->R Bool} (h:TTd K EX (zqh fa g) U H QB):zrs (TEd K EX false fa) (zgq K EX g) U H QB:=by
 obtain ⟨sx,ρ,H0,s,e,h⟩:=h
 unfold zqh at h
 rw [Rk.bind] at h
 exact TEd.go sx s e h fun d h v H1 H1' s1 e1 r1=>⟨sx.trans s1,d,ρ,H1',e1.2.1,e.mono e1.1,r1,h.mono fun z h H' s'=>h H' (s1.trans s')⟩
end
inductive Sl where
 | em | im (d:D) | ow (d:D)
abbrev DS:=List Sl
noncomputable def Sl.see (b:Bool):Sl->Option D
 | .em=>none
 | .im d=>some d
 | .ow d=>if b=true then some d else none
noncomputable def Sl.frz (b:Bool):Sl->Sl
 | .ow d=>if b=true then .im d else .ow d
 | s=>s
noncomputable def vis:List Bool->DS->DE
 | _,[]=>[]
 | [],s::r=>s.see false::vis [] r
 | b::m,s::r=>s.see b::vis m r
noncomputable def frz:List Bool->DS->DS
 | _,[]=>[]
 | [],s::r=>s::r
 | b::m,s::r=>s.frz b::frz m r
theorem z9c:∀(m:List Bool) (ρ:DS) (i:Nat),(vis m ρ)[i]?=(ρ[i]?).map (Sl.see (m.getD i false))
 | [],[],i=>by simp [vis]
 | _::_,[],i=>by simp [vis]
 | [],s::r,0=>by simp [vis]
 | b::m,s::r,0=>by simp [vis]
 | [],s::r,i+1=>by simpa [vis] using z9c [] r i
 | b::m,s::r,i+1=>by simpa [vis] using z9c m r i
theorem z5i:∀(m:List Bool) (ρ:DS),(vis m ρ).length=ρ.length
 | [],[]=>rfl
 | _::_,[]=>rfl
 | [],s::r=>by simp [vis,z5i [] r]
 | b::m,s::r=>by simp [vis,z5i m r]
theorem Sl.frz_false (s:Sl):s.frz false=s:=by cases s<;>simp [Sl.frz]
theorem zc8:∀(m:List Bool) (ρ:DS) (i:Nat),(L2.frz m ρ)[i]?=(ρ[i]?).map (Sl.frz (m.getD i false))
 | [],[],i=>by simp [frz]
 | _::_,[],i=>by simp [frz]
 | [],s::r,i=>by
  simp only [frz,List.getD_nil]
  cases h:(s::r)[i]? with
  | none=>rfl
  | some x=>simp [Sl.frz_false]
 | b::m,s::r,0=>by simp [frz]
 | b::m,s::r,i+1=>by simpa [frz] using zc8 m r i
theorem z8l:∀(m:List Bool) (ρ:DS),(L2.frz m ρ).length=ρ.length
 | [],[]=>rfl
 | _::_,[]=>rfl
 | [],s::r=>rfl
 | b::m,s::r=>by simp [frz,z8l m r]
structure RS (K:Frag) (Hc Hb H0:Hp) (ρ:DS) (U:St) (H:Hp):Prop where
 sb:Same Hb H
 ext:Ext Hc Hb H0 H
 len:ρ.length=U.length
 im:∀(i:Nat) d,ρ[i]?=some (.im d)->∃v,U[i]?=some (some v)/\RD K H0 d v
 ow:∀(i:Nat) d,ρ[i]?=some (.ow d)->∃a,U[i]?=some (some (.ref a))/\H0 a=none/\Hb a=none/\OB K H0 H a d
 ap:∀(i j:Nat) d e a,ρ[i]?=some (.ow d)->ρ[j]?=some (.ow e)->U[i]?=some (some (.ref a))->U[j]?=some (some (.ref a))->i=j
theorem RS.grow {K:Frag} {Hc Hb H0 H H':Hp} {ρ:DS} {U:St} (R:RS K Hc Hb H0 ρ U H) (s:Same H H'):RS K Hc Hb H0 ρ U H':=
 ⟨R.sb.trans s,R.ext.grow s,R.len,R.im,fun i d e=>by
  obtain ⟨a,h1,h2,h3,h4⟩:=R.ow i d e
  exact ⟨a,h1,h2,h3,h4.mono (Same.refl _) s⟩,R.ap⟩
def Msk (m:List Bool) (ρ:DS) (U:St) (a:Addr):Prop:=∃i d,m.getD i false=true/\ρ[i]?=some (.ow d)/\U[i]?=some (some (.ref a))
open Classical in
noncomputable def HeOf (m:List Bool) (ρ:DS) (U:St) (H0 H:Hp):Hp:=fun a=>if Msk m ρ U a then H a else H0 a
open Classical in
noncomputable def HdOf (m:List Bool) (ρ:DS) (U:St) (H0:Hp):Hp:=fun a=>if Msk m ρ U a then none else H0 a
section
variable {K:Frag} {Hc Hb H0 H H':Hp} {ρ:DS} {U:St} {m:List Bool}
theorem RS.msk (R:RS K Hc Hb H0 ρ U H) {a:Addr} (h:Msk m ρ U a):H0 a=none/\Hb a=none/\∃o,H a=some o/\¬Imm o:=by
 obtain ⟨i,d,_,h1,h2⟩:=h
 obtain ⟨a',q1,q2,q3,q4⟩:=R.ow i d h1
 rw [h2] at q1;cases q1
 exact ⟨q2,q3,q4.some⟩
theorem z9d {a:Addr} (h:Msk m ρ U a):HeOf m ρ U H0 H a=H a:=by unfold HeOf;exact if_pos h
theorem z4a {a:Addr} (h:¬Msk m ρ U a):HeOf m ρ U H0 H a=H0 a:=by unfold HeOf;exact if_neg h
theorem z9e {a:Addr} (h:Msk m ρ U a):HdOf m ρ U H0 a=none:=by unfold HdOf;exact if_pos h
theorem z4b {a:Addr} (h:¬Msk m ρ U a):HdOf m ρ U H0 a=H0 a:=by unfold HdOf;exact if_neg h
theorem RS.he0 (R:RS K Hc Hb H0 ρ U H) (m:List Bool):Same H0 (HeOf m ρ U H0 H):=fun b o e=>by
 by_cases h:Msk m ρ U b
 . rw [(R.msk h).1] at e;cases e
 . rw [z4a h];exact e
theorem RS.heH (R:RS K Hc Hb H0 ρ U H) (m:List Bool):Same (HeOf m ρ U H0 H) H:=fun b o e=>by
 by_cases h:Msk m ρ U b
 . rw [z9d h] at e;exact e
 . rw [z4a h] at e;exact R.ext.2.1 b o e
theorem RS.re (R:RS K Hc Hb H0 ρ U H) (m:List Bool):RE K (HeOf m ρ U H0 H) (vis m ρ) U:=by
 refine ⟨by rw [z5i];exact R.len,fun i d e=>?_⟩
 rw [z9c] at e
 cases q:ρ[i]? with
 | none=>rw [q] at e;cases e
 | some s=>
  rw [q] at e
  simp only [Option.map_some,Option.some.injEq] at e
  cases s with
  | em=>cases e
  | im d'=>
   cases e
   obtain ⟨v,h1,h2⟩:=R.im i d q
   exact ⟨v,h1,h2.mono (R.he0 m)⟩
  | ow d'=>
   simp only [Sl.see] at e
   split at e
   . rename_i hm
     cases e
     obtain ⟨a,h1,h2,h3,h4⟩:=R.ow i d q
     exact ⟨_,h1,h4.rd (R.he0 m) (z9d ⟨i,d,hm,q,h1⟩)⟩
   . cases e
noncomputable def z6e (keep:Bool) (m:List Bool) (ρ:DS):DS:=if keep=true then ρ else frz m ρ
noncomputable def keeps (fr:Bool) (d:D):Bool:=if fr=true then d.shal else d.noL
def Apt (K:Frag) (fr:Bool) (Hb H0:Hp) (ρ:DS) (U:St) (H:Hp) (d:D) (v:V):Prop:=
 if fr=true then ∃p,v=.ref p/\H0 p=none/\Hb p=none/\OB K H0 H p d/\∀(i:Nat) e,ρ[i]?=some (.ow e)->U[i]?≠some (some (.ref p)) else RD K H0 d v
theorem z9f {keep:Bool} {i:Nat} {d:D} (h:(z6e keep m ρ)[i]?=some (.ow d)):ρ[i]?=some (.ow d)/\(keep=false->m.getD i false=false):=by
 unfold z6e at h
 cases keep with
 | true=>exact ⟨h,fun z=>nomatch z⟩
 | false=>
  rw [if_neg Bool.false_ne_true,zc8] at h
  cases q:ρ[i]? with
  | none=>rw [q] at h;cases h
  | some s=>
   rw [q] at h
   simp only [Option.map_some,Option.some.injEq] at h
   cases s with
   | em=>cases h
   | im d'=>cases h
   | ow d'=>
    simp only [Sl.frz] at h
    split at h
    . cases h
    . rename_i hm
      cases h
      exact ⟨rfl,fun _=>by simpa using hm⟩
theorem RS.frame (R:RS K Hc Hb H0 ρ U H) {H0':Hp} (s:Same H H') (e:Ext (HeOf m ρ U H0 H) H H0' H') (keep:Bool) :
  ∃H0n,RS K Hc Hb H0n (z6e keep m ρ) U H'/\TK H0' H0n/\(keep=false->H0n=H0')/\(∀p,H0' p=none->H0n p=none)/\Same H0 H0n:=by
 have hunm:∀(i:Nat) d' a,ρ[i]?=some (.ow d')->U[i]?=some (some (.ref a))->¬Msk m ρ U a->H0' a=none:=fun i d' a h1 h2 h3=>by
  obtain ⟨a',q1,q2,q3,q4⟩:=R.ow i d' h1
  rw [h2] at q1;cases q1
  obtain ⟨u,hu,_⟩:=q4.some
  exact e.2.2 a (z4t hu) (by rw [z4a h3];exact q2)
 have nmsk:∀{i:Nat} {d':D} {a:Addr},ρ[i]?=some (.ow d')->U[i]?=some (some (.ref a))->m.getD i false=false->¬Msk m ρ U a:=fun {i d' a} h1 h2 h3 ⟨j,e',q1,q2,q3⟩=>by
  have:=R.ap i j d' e' a h1 q2 h2 q3
  subst this
  rw [h3] at q1;cases q1
 cases keep with
 | true=>
  have hth:z6e true m ρ=ρ:=rfl
  have s0:Same H0 (HdOf m ρ U H0'):=fun b u q=>by
   have hb:¬Msk m ρ U b:=fun z=>by rw [(R.msk z).1] at q;cases q
   rw [z4b hb]
   exact e.1 b u (R.he0 m b u q)
  have tk:TK H0' (HdOf m ρ U H0'):=fun b u hi q=>by
   have hb:¬Msk m ρ U b:=fun z=>by
    obtain ⟨_,_,w,hw,hn⟩:=R.msk z
    have:=e.1 b w (by rw [z9d z];exact hw)
    rw [q] at this;cases this
    exact hn hi
   rw [z4b hb];exact q
  refine ⟨HdOf m ρ U H0',⟨R.sb.trans s,⟨R.ext.1.trans s0,fun b u q=>?_,fun a h1 h2=>?_⟩,R.len,fun i d' q=>?_,fun i d' q=>?_,R.ap⟩,tk,(fun z=>nomatch z),fun p hp=>?_,s0⟩
  . by_cases hb:Msk m ρ U b
    . rw [z9e hb] at q;cases q
    . rw [z4b hb] at q;exact e.2.1 b u q
  . by_cases hb:Msk m ρ U a
    . exact z9e hb
    . rw [z4b hb]
      exact e.2.2 a (R.sb.ne h1) (by rw [z4a hb];exact R.ext.2.2 a h1 h2)
  . obtain ⟨w,h1,h2⟩:=R.im i d' q
    exact ⟨w,h1,h2.mono s0⟩
  . obtain ⟨a,h1,h2,h3,h4⟩:=R.ow i d' q
    refine ⟨a,h1,?_,h3,h4.mono s0 s⟩
    by_cases hb:Msk m ρ U a
    . exact z9e hb
    . rw [z4b hb];exact hunm i d' a q h1 hb
  . by_cases hb:Msk m ρ U p
    . exact z9e hb
    . rw [z4b hb];exact hp
 | false=>
  refine ⟨H0',⟨R.sb.trans s,?_,?_,fun i d' q=>?_,fun i d' q=>?_,fun i j d1 d2 a q1 q2=>?_⟩,fun _ _ _ z=>z,fun _=>rfl,fun _ z=>z,(R.he0 m).trans e.1⟩
  . refine ⟨R.ext.1.trans ((R.he0 m).trans e.1),e.2.1,fun a h1 h2=>e.2.2 a (R.sb.ne h1) ?_⟩
    have hb:¬Msk m ρ U a:=fun z=>h1 (R.msk z).2.1
    rw [z4a hb];exact R.ext.2.2 a h1 h2
  . show (L2.frz m ρ).length=_
    rw [z8l];exact R.len
  . have q':(L2.frz m ρ)[i]?=some (.im d'):=q
    rw [zc8] at q'
    cases hs:ρ[i]? with
    | none=>rw [hs] at q';cases q'
    | some sl=>
     rw [hs] at q'
     simp only [Option.map_some,Option.some.injEq] at q'
     cases sl with
     | em=>cases q'
     | im d2=>
      cases q'
      obtain ⟨w,h1,h2⟩:=R.im i d' hs
      exact ⟨w,h1,h2.mono ((R.he0 m).trans e.1)⟩
     | ow d2=>
      simp only [Sl.frz] at q'
      split at q'
      . rename_i hm
        cases q'
        obtain ⟨a,h1,h2,h3,h4⟩:=R.ow i d' hs
        obtain ⟨u,hu,_⟩:=h4.some
        refine ⟨_,h1,h4.rd ((R.he0 m).trans e.1) ?_⟩
        rw [hu]
        exact e.1 a u (by rw [z9d ⟨i,d',hm,hs,h1⟩];exact hu)
      . cases q'
  . obtain ⟨q1,q2⟩:=z9f q
    obtain ⟨a,h1,h2,h3,h4⟩:=R.ow i d' q1
    exact ⟨a,h1,hunm i d' a q1 h1 (nmsk q1 h1 (q2 rfl)),h3,h4.mono ((R.he0 m).trans e.1) s⟩
  . exact R.ap i j d1 d2 a (z9f q1).1 (z9f q2).1
theorem RS.out (R:RS K Hc Hb H0 ρ U H) {fr:Bool} {d:D} {v:V} (o:Out K fr (HeOf m ρ U H0 H) H d v H') :
  ∃H0n,RS K Hc Hb H0n (z6e (keeps fr d) m ρ) U H'/\Apt K fr Hb H0n (z6e (keeps fr d) m ρ) U H' d v:=by
 obtain ⟨s,H0',e,r⟩:=o
 obtain ⟨H0n,R',tk,eq,hn,_⟩:=R.frame s e (keeps fr d)
 refine ⟨H0n,R',?_⟩
 unfold Apt
 cases fr with
 | false=>
  rw [if_neg Bool.false_ne_true] at r ⊢
  cases hk:keeps false d with
  | true=>exact r.tk tk (by simpa [keeps] using hk)
  | false=>rw [eq hk];exact r
 | true=>
  rw [if_pos rfl] at r ⊢
  obtain ⟨p,rfl,hp,hp0,ob⟩:=r
  refine ⟨p,rfl,hn p hp0,R.sb.none hp,?_,fun i e' q z=>?_⟩
  . cases hk:keeps true d with
    | true=>exact ob.tk (by simpa [keeps] using hk) tk
    | false=>rw [eq hk];exact ob
  . obtain ⟨a,h1,_,_,h4⟩:=R.ow i e' (z9f q).1
    rw [z] at h1;cases h1
    obtain ⟨u,hu,_⟩:=h4.some
    rw [hp] at hu;cases hu
theorem RS.outs (R:RS K Hc Hb H0 ρ U H) {ds:List D} {vs:List V} {H0':Hp} (s:Same H H') (e:Ext (HeOf m ρ U H0 H) H H0' H') (r:RDs K H0' ds vs) :
  ∃H0n,RS K Hc Hb H0n (z6e (z3q ds) m ρ) U H'/\RDs K H0n ds vs:=by
 obtain ⟨H0n,R',tk,eq,hn,_⟩:=R.frame s e (z3q ds)
 refine ⟨H0n,R',?_⟩
 cases hk:z3q ds with
 | true=>exact r.tk tk hk
 | false=>rw [eq hk];exact r
noncomputable def zjr (fr:Bool) (i:Nat) (d:D) (ρ:DS):DS:=ρ.set i (if fr=true then .ow d else .im d)
theorem RS.put (R:RS K Hc Hb H0 ρ U H) {fr:Bool} {d:D} {v:V} (a:Apt K fr Hb H0 ρ U H d v) (i:Nat):RS K Hc Hb H0 (zjr fr i d ρ) (U.set i (some v)) H:=by
 unfold zjr
 have other:∀{j:Nat} {s:Sl},j≠i->(ρ.set i s)[j]?=ρ[j]?:=fun {j s} h=>by rw [List.getElem?_set_ne (Ne.symm h)]
 have otherσ:∀{j:Nat},j≠i->(U.set i (some v))[j]?=U[j]?:=fun {j} h=>by rw [List.getElem?_set_ne (Ne.symm h)]
 have here:∀{s s':Sl},(ρ.set i s)[i]?=some s'->s'=s/\(U.set i (some v))[i]?=some (some v):=fun {s s'} h=>by
  have hi:i<ρ.length:=by
   have:=(List.getElem?_eq_some_iff.mp h).1
   simpa using this
  rw [List.getElem?_set_self hi] at h
  cases h
  exact ⟨rfl,by rw [List.getElem?_set_self (by rw [<-R.len];exact hi)]⟩
 refine ⟨R.sb,R.ext,by rw [List.length_set,List.length_set];exact R.len,fun j d' q=>?_,fun j d' q=>?_,fun j k d1 d2 b q1 q2 z1 z2=>?_⟩
 . by_cases hj:j=i
   . subst hj
     obtain ⟨h1,h2⟩:=here q
     refine ⟨v,h2,?_⟩
     cases fr with
     | false=>
      rw [if_neg Bool.false_ne_true] at h1;cases h1
      unfold Apt at a
      rw [if_neg Bool.false_ne_true] at a;exact a
     | true=>rw [if_pos rfl] at h1;cases h1
   . rw [other hj] at q
     rw [otherσ hj];exact R.im j d' q
 . by_cases hj:j=i
   . subst hj
     obtain ⟨h1,h2⟩:=here q
     cases fr with
     | false=>rw [if_neg Bool.false_ne_true] at h1;cases h1
     | true=>
      rw [if_pos rfl] at h1;cases h1
      unfold Apt at a
      rw [if_pos rfl] at a
      obtain ⟨p,rfl,a1,a2,a3,_⟩:=a
      exact ⟨p,h2,a1,a2,a3⟩
   . rw [other hj] at q
     rw [otherσ hj];exact R.ow j d' q
 . by_cases hj:j=i
   . by_cases hk:k=i
     . rw [hj,hk]
     . subst hj
       obtain ⟨h1,h2⟩:=here q1
       rw [other hk] at q2
       rw [otherσ hk] at z2
       rw [h2] at z1
       cases fr with
       | false=>rw [if_neg Bool.false_ne_true] at h1;cases h1
       | true=>
        unfold Apt at a
        rw [if_pos rfl] at a
        obtain ⟨p,rfl,_,_,_,a4⟩:=a
        cases z1
        exact absurd z2 (a4 k d2 q2)
   . by_cases hk:k=i
     . subst hk
       obtain ⟨h1,h2⟩:=here q2
       rw [other hj] at q1
       rw [otherσ hj] at z1
       rw [h2] at z2
       cases fr with
       | false=>rw [if_neg Bool.false_ne_true] at h1;cases h1
       | true=>
        unfold Apt at a
        rw [if_pos rfl] at a
        obtain ⟨p,rfl,_,_,_,a4⟩:=a
        cases z2
        exact absurd z1 (a4 j d1 q1)
     . rw [other hj] at q1
       rw [other hk] at q2
       rw [otherσ hj] at z1
       rw [otherσ hk] at z2
       exact R.ap j k d1 d2 b q1 q2 z1 z2
end
inductive SR where
 | nx (ρ:DS) | bk (ρ:DS) | ct (ρ:DS) | rt (d:D) | er (x:Ex) | st
def SK (K:Frag) (EX:XW) (fr:Bool) (Hc Hb:Hp) (De:Ends):SR->Prop
 | .nx ρ=>∀U H H0,RS K Hc Hb H0 ρ U H->De.nx U H
 | .bk ρ=>∀U H H0,RS K Hc Hb H0 ρ U H->De.bk U H
 | .ct ρ=>∀U H H0,RS K Hc Hb H0 ρ U H->De.ct U H
 | .rt d=>∀v H,Out K fr Hc Hb d v H->De.rt v H
 | .er x=>EX.at x
 | .st=>False
noncomputable def TSd (K:Frag) (EX:XW) (fr:Bool) (g:DS->SR):TS:=fun De U H=>∃Hc Hb H0 ρ,Same EX.hb Hb/\RS K Hc Hb H0 ρ U H/\SK K EX fr Hc Hb De (g ρ)
noncomputable def R.toS {α:Type} (r:R α) (k:α->SR):SR:=match r with
 | .ok a=>k a
 | .er x=>.er x
 | .st=>.st
noncomputable def sNx:DS->SR:=fun ρ=>.nx ρ
noncomputable def z0z (g1 g2:DS->SR):DS->SR:=fun ρ=>match g1 ρ with
 | .nx ρ'=>g2 ρ'
 | r=>r
noncomputable def see (ρ:DS):DE:=ρ.map (Sl.see true)
noncomputable def sIf (t:DE->R Bool) (g1 g2:DS->SR):DS->SR:=fun ρ=>(t (see ρ)).toS fun b=>if b=true then g1 ρ else g2 ρ
noncomputable def z2i (fr:Bool) (i:Nat) (m:List Bool) (f:DE->R D):DS->SR:=fun ρ=>(f (vis m ρ)).toS fun d=>.nx (zjr fr i d (z6e (keeps fr d) m ρ))
noncomputable def z3o (m:List Bool) (f:DE->R D):DS->SR:=fun ρ=>(f (vis m ρ)).toS fun d=>.rt d
noncomputable def zxw:DS->SR:=fun _=>.rt .non
noncomputable def zc9 (i:Nat):DS->SR:=fun ρ=>match ρ[i]? with
 | some (.ow d)=>.rt d
 | _=>.st
noncomputable def z9g (f:DE->R D):DS->SR:=fun ρ=>(f (see ρ)).toS fun _=>.nx ρ
section
variable {K:Frag} {EX:XW} {fr:Bool} {Hc Hb H0 H H':Hp} {ρ:DS} {U:St} {De:Ends} {m:List Bool}
theorem SK.toS {α:Type} {r:R α} {k:α->SR}:SK K EX fr Hc Hb De (r.toS k)=Rk EX.at r fun a=>SK K EX fr Hc Hb De (k a):=by cases r<;>rfl
theorem z77:∀(ρ:DS),vis (List.replicate ρ.length true) ρ=see ρ
 | []=>rfl
 | s::r=>by
  show s.see true::vis (List.replicate r.length true) r=_
  rw [z77 r];rfl
theorem RS.extE (R:RS K Hc Hb H0 ρ U H) (m:List Bool):Ext Hc Hb (HeOf m ρ U H0 H) H:=
 ⟨R.ext.1.trans (R.he0 m),R.heH m,fun a h1 h2=>by
  have hb:¬Msk m ρ U a:=fun z=>h1 (R.msk z).2.1
  rw [z4a hb];exact R.ext.2.2 a h1 h2⟩
theorem RS.te (I:RS K Hc Hb H0 ρ U H) (sb:Same EX.hb Hb) {f:DE->R D} {fr':Bool} {k:D->Prop} {Q:VK} (h:Rk EX.at (f (vis m ρ)) k)
  (hk:∀d,k d->∀v H' H0n,RS K Hc Hb H0n (z6e (keeps fr' d) m ρ) U H'->Apt K fr' Hb H0n (z6e (keeps fr' d) m ρ) U H' d v->Q v H'):TEd K EX fr' f U H Q:=
 ⟨sb.trans I.sb,vis m ρ,HeOf m ρ U H0 H,I.heH m,I.re m,h.mono fun d z v H' o=>by
  obtain ⟨H0n,R',a⟩:=I.out o
  exact hk d z v H' H0n R' a⟩
theorem RS.tt (I:RS K Hc Hb H0 ρ U H) (sb:Same EX.hb Hb) {f:DE->R Bool} {k:Bool->Prop} {Q:Bool->Hp->Prop} (h:Rk EX.at (f (see ρ)) k) (hk:∀b,k b->∀H',RS K Hc Hb H0 ρ U H'->Q b H'):TTd K EX f U H Q:=by
 refine ⟨sb.trans I.sb,see ρ,HeOf (List.replicate ρ.length true) ρ U H0 H,I.heH _,?_,h.mono fun b z H' s=>hk b z H' (I.grow s)⟩
 rw [<-z77];exact I.re _
theorem y19 (h:TSd K EX fr sNx De U H):zqz De U H:=by
 obtain ⟨Hc,Hb,H0,ρ,sb,R,h⟩:=h
 exact h U H H0 R
theorem zsf {g1 g2:DS->SR} (h:TSd K EX fr (z0z g1 g2) De U H):zzz (TSd K EX fr g1) (TSd K EX fr g2) De U H:=by
 obtain ⟨Hc,Hb,H0,ρ,sb,R,h⟩:=h
 refine ⟨Hc,Hb,H0,ρ,sb,R,?_⟩
 unfold z0z at h
 cases q:g1 ρ with
 | nx ρ'=>rw [q] at h;exact fun σ' H' H0' R'=>⟨Hc,Hb,H0',ρ',sb,R',h⟩
 | bk ρ'=>rw [q] at h;exact h
 | ct ρ'=>rw [q] at h;exact h
 | rt d=>rw [q] at h;exact h
 | er x=>rw [q] at h;exact h
 | st=>rw [q] at h;exact h
theorem zxx {t:DE->R Bool} {g1 g2:DS->SR} (h:TSd K EX fr (sIf t g1 g2) De U H):y00 (TTd K EX t) (TSd K EX fr g1) (TSd K EX fr g2) De U H:=by
 obtain ⟨Hc,Hb,H0,ρ,sb,R,h⟩:=h
 unfold sIf at h
 rw [SK.toS] at h
 refine R.tt sb h fun b h H' R'=>?_
 cases b with
 | true=>exact ⟨Hc,Hb,H0,ρ,sb,R',h⟩
 | false=>exact ⟨Hc,Hb,H0,ρ,sb,R',h⟩
theorem zny {i:Nat} {f:DE->R D} {fr':Bool} (h:TSd K EX fr (z2i fr' i m f) De U H):zft (TEd K EX fr' f) (z2v i) De U H:=by
 obtain ⟨Hc,Hb,H0,ρ,sb,R,h⟩:=h
 unfold z2i at h
 rw [SK.toS] at h
 exact R.te sb h fun d h v H' H0n R' a=>h _ H' H0n (R'.put a i)
theorem zxy {f:DE->R D} (h:TSd K EX fr (z3o m f) De U H):zx3 (TEd K EX fr f) De U H:=by
 obtain ⟨Hc,Hb,H0,ρ,sb,R,h⟩:=h
 unfold z3o at h
 rw [SK.toS] at h
 exact ⟨sb.trans R.sb,vis m ρ,HeOf m ρ U H0 H,R.heH m,R.re m,h.mono fun d z v H' o=>z v H' (o.after R.sb (R.extE m))⟩
theorem zsg {i:Nat} (h:TSd K EX true (zc9 i) De U H):zx3 (z6l i) De U H:=by
 obtain ⟨Hc,Hb,H0,ρ,sb,R,h⟩:=h
 unfold zc9 at h
 split at h
 . rename_i d q
   obtain ⟨a,h1,h2,h3,h4⟩:=R.ow i d q
   show z6l i U H De.rt
   unfold z6l
   rw [h1]
   exact h _ H (.fresh R.sb R.ext h3 h2 h4)
 . exact h.elim
theorem zsh {f:DE->R D} (h:TSd K EX fr (z9g f) De U H):zaf (TEd K EX false f) De U H:=by
 obtain ⟨Hc,Hb,H0,ρ,sb,R,h⟩:=h
 unfold z9g at h
 rw [SK.toS] at h
 refine ⟨sb.trans R.sb,see ρ,HeOf (List.replicate ρ.length true) ρ U H0 H,R.heH _,by rw [<-z77];exact R.re _,h.mono fun d z v H' o=>?_⟩
 exact z U H' H0 (R.grow o.1)
theorem RS.mutate (R:RS K Hc Hb H0 ρ U H) {i:Nat} {d d':D} {a:Addr} {o:HO} (h:ρ[i]?=some (.ow d)) (ha:U[i]?=some (some (.ref a))) (ob:OB K H0 (upd H a o) a d'):RS K Hc Hb H0 (ρ.set i (.ow d')) U (upd H a o):=by
 obtain ⟨a',q1,q2,q3,q4⟩:=R.ow i d h
 rw [ha] at q1;cases q1
 have hi:i<ρ.length:=(List.getElem?_eq_some_iff.mp h).1
 have other:∀{j:Nat} {s:Sl},j≠i->(ρ.set i s)[j]?=ρ[j]?:=fun {j s} h=>by rw [List.getElem?_set_ne (Ne.symm h)]
 have here:(ρ.set i (.ow d'))[i]?=some (.ow d'):=by rw [List.getElem?_set_self hi]
 have sm:∀{H1:Hp},Same H1 H->H1 a=none->Same H1 (upd H a o):=fun s n=>s.upd_at n
 refine ⟨sm R.sb q3,⟨R.ext.1,sm R.ext.2.1 q2,R.ext.2.2⟩,by rw [List.length_set];exact R.len,fun j d2 q=>?_,fun j d2 q=>?_,fun j k d1 d2 b z1 z2=>?_⟩
 . have hj:j≠i:=fun z=>by subst z;rw [here] at q;cases q
   rw [other hj] at q
   exact R.im j d2 q
 . by_cases hj:j=i
   . subst hj
     rw [here] at q;cases q
     exact ⟨a,ha,q2,q3,ob⟩
   . rw [other hj] at q
     obtain ⟨b,h1,h2,h3,h4⟩:=R.ow j d2 q
     have hb:b≠a:=fun z=>hj (R.ap j i d2 d b q h h1 (by rw [z];exact ha))
     exact ⟨b,h1,h2,h3,h4.at (z08 hb)⟩
 . have back:∀{j:Nat} {d1:D},(ρ.set i (.ow d'))[j]?=some (.ow d1)->∃d0,ρ[j]?=some (.ow d0):=fun {j d1} z=>by
    by_cases hj:j=i
    . subst hj;exact ⟨d,h⟩
    . rw [other hj] at z;exact ⟨_,z⟩
   obtain ⟨e1,z1⟩:=back z1
   obtain ⟨e2,z2⟩:=back z2
   exact R.ap j k e1 e2 b z1 z2
def zxz (K:Frag) (mt:D->List D->Option D) (r:V->List V->Hp->VK->Prop):Prop:=∀(H0 H:Hp) (a:Addr) (d d':D) (ds:List D) (vs:List V) (Q:VK),Same H0 H->H0 a=none->OB K H0 H a d->RDs K H0 ds vs->mt d ds=some d' ->
 (∀v o,OB K H0 (upd H a o) a d'->Q v (upd H a o))->r (.ref a) vs H Q
noncomputable def isT (T:String):D->Bool
 | .lst _=>T=="list"
 | .dk _ _=>T=="dict"
 | .dt _ _=>T=="dict"
 | _=>false
def TyD (K:Frag) (T:String):Prop:=∀(H0 H:Hp) (a:Addr) (d:D),OB K H0 H a d->isT T d=true->tyV K T (.ref a) H
noncomputable def zfh (T:String) (mt:D->List D->Option D) (i:Nat) (m:List Bool) (fs:DE->R (List D)):DS->SR:=fun ρ=>match ρ[i]? with
 | some (.ow d0)=>if isT T d0=true then (fs (vis m ρ)).toS fun ds=>match (z6e (z3q ds) m ρ)[i]? with
  | some (.ow d)=>(R.of (mt d ds)).toS fun d'=>.nx ((z6e (z3q ds) m ρ).set i (.ow d'))
  | _=>.st
  else .st
 | _=>.st
theorem zy0 {T:String} {mt:D->List D->Option D} {r:V->List V->Hp->VK->Prop} {i:Nat} {fs:DE->R (List D)} (hm:zxz K mt r) (hT:TyD K T) (h:TSd K EX fr (zfh T mt i m fs) De U H) :
  zaf (tBM K T r (z6l i) (TAd K EX fs)) De U H:=by
 obtain ⟨Hc,Hb,H0,ρ,sb,R,h⟩:=h
 unfold zfh at h
 split at h
 . rename_i d0 q0
   split at h
   . rename_i hty
     rw [SK.toS] at h
     obtain ⟨a,h1,h2,h3,h4⟩:=R.ow i d0 q0
     unfold zaf tBM z6l
     rw [h1]
     refine ⟨hT H0 H a d0 h4 hty,sb.trans R.sb,vis m ρ,HeOf m ρ U H0 H,R.heH m,R.re m,h.mono fun ds h vs H' H0' s e rds=>?_⟩
     obtain ⟨H0n,R',rd'⟩:=R.outs s e rds
     split at h
     . rename_i d q
       rw [SK.toS] at h
       obtain ⟨d',hd',h⟩:=h.of
       obtain ⟨a',z1,z2,z3,z4⟩:=R'.ow i d q
       rw [h1] at z1;cases z1
       exact hm H0n H' a d d' ds vs _ R'.ext.2.1 z2 z4 rd' hd' fun v o ob=>h U _ H0n (R'.mutate q h1 ob)
     . exact h.elim
   . exact h.elim
 . exact h.elim
noncomputable def zy1 (T:String) (mt:D->List D->Option D) (i:Nat):DS->SR:=fun ρ=>match ρ[i]? with
 | some (.ow d)=>if isT T d=true then (R.of (mt d [])).toS fun d'=>.nx (ρ.set i (.ow d')) else .st
 | _=>.st
noncomputable def y1a (st:D->D->D->Option D) (i:Nat) (m:List Bool) (fk fv:DE->R D):DS->SR:=fun ρ=>(fv (vis m ρ)).toS fun dv=>match (z6e (keeps false dv) m ρ)[i]? with
 | some (.ow _)=>(fk (vis m (z6e (keeps false dv) m ρ))).toS fun dk=>(match (z6e (keeps false dk) m (z6e (keeps false dv) m ρ))[i]? with
  | some (.ow d)=>(R.of (st d dk dv)).toS fun d'=>.nx ((z6e (keeps false dk) m (z6e (keeps false dv) m ρ)).set i (.ow d'))
  | _=>.st)
 | _=>.st
theorem Apt.rd {ρ:DS} {d:D} {v:V} (a:Apt K false Hb H0 ρ U H d v):RD K H0 d v:=by
 unfold Apt at a
 rw [if_neg Bool.false_ne_true] at a;exact a
end
section
variable {K:Frag} {EX:XW} {fr:Bool} {Hc Hb H0 H H':Hp} {ρ:DS} {U:St} {De:Ends} {m:List Bool}
inductive Tg where
 | n (i:Nat) | t (is:List Nat)
noncomputable def zdn:List Nat->List D->DS->DS
 | i::is,d::ds,ρ=>zdn is ds (zjr false i d ρ)
 | _,_,ρ=>ρ
noncomputable def items:D->Option (List D)
 | .tup ds=>some ds
 | .lst ds=>some ds
 | _=>none
noncomputable def zjs:Tg->D->DS->Option DS
 | .n i,d,ρ=>some (zjr false i d ρ)
 | .t is,d,ρ=>(items d).bind fun ds=>if ds.length=is.length then some (zdn is ds ρ) else none
noncomputable def TGd (K:Frag) (tg:Tg):TG:=fun v U H Q=>∃Hc Hb H0 ρ d ρ',RS K Hc Hb H0 ρ U H/\RD K H0 d v/\zjs tg d ρ=some ρ'/\∀σ',RS K Hc Hb H0 ρ' σ' H->Q σ' H
theorem RS.putI (I:RS K Hc Hb H0 ρ U H) {d:D} {v:V} (r:RD K H0 d v) (i:Nat):RS K Hc Hb H0 (zjr false i d ρ) (U.set i (some v)) H:=
 I.put (fr:=false) (by unfold Apt;rw [if_neg Bool.false_ne_true];exact r) i
theorem y1b {i:Nat} {v:V} {Q:St->Hp->Prop} (h:TGd K (.n i) v U H Q):z2v i v U H Q:=by
 obtain ⟨Hc,Hb,H0,ρ,d,ρ',I,r,e,q⟩:=h
 simp only [zjs,Option.some.injEq] at e
 subst e
 exact q _ (I.putI r i)
noncomputable def z8m:List Nat->TGs
 | []=>zs0
 | i::is=>zlf (z2v i) (z8m is)
theorem z78:∀(is:List Nat) {ds:List D} {xs:List V} {ρ:DS} {U:St} {Q:St->Hp->Prop},RS K Hc Hb H0 ρ U H->RDs K H0 ds xs->ds.length=is.length->(∀σ',RS K Hc Hb H0 (zdn is ds ρ) σ' H->Q σ' H)->z8m is xs U H Q
 | [],[],_,ρ,U,Q,I,r,_,q=>by
  simp only [RDs] at r;subst r
  exact q U I
 | [],_::_,_,_,_,_,_,_,hl,_=>by simp at hl
 | _::_,[],_,_,_,_,_,_,hl,_=>by simp at hl
 | i::is,d::ds,_,ρ,U,Q,I,r,hl,q=>by
  simp only [RDs] at r
  obtain ⟨x,xs,rfl,r1,r2⟩:=r
  exact z78 is (I.putI r1 i) r2 (by simpa using hl) q
theorem y1c {is:List Nat} {v:V} {Q:St->Hp->Prop} (h:TGd K (.t is) v U H Q):zau is.length (z8m is) v U H Q:=by
 obtain ⟨Hc,Hb,H0,ρ,d,ρ',I,r,e,q⟩:=h
 simp only [zjs] at e
 cases d<;>simp only [items,Option.bind_none,Option.bind_some] at e<;>first | cases e | skip
 . rename_i ds
   split at e
   . rename_i hl
     cases e
     simp only [RD] at r
     obtain ⟨a,xs,rfl,ha,rs⟩:=r
     unfold zau
     simp only [I.ext.2.1 a _ ha]
     exact ⟨by rw [<-rs.length];exact hl,z78 is I rs hl q⟩
   . cases e
 . rename_i ds
   split at e
   . rename_i hl
     cases e
     simp only [RD] at r
     obtain ⟨a,xs,rfl,ha,rs⟩:=r
     unfold zau
     simp only [I.ext.2.1 a _ ha]
     exact ⟨by rw [<-rs.length];exact hl,z78 is I rs hl q⟩
   . cases e
noncomputable def y1d (tg:Tg) (m:List Bool) (f:DE->R D):DS->SR:=fun ρ=>(f (vis m ρ)).toS fun d=>match zjs tg d (z6e (keeps false d) m ρ) with
 | some ρ'=>.nx ρ'
 | none=>.st
noncomputable def Hno:Hp:=fun _=>none
def zli (K:Frag) (J:It) (H0:Hp) (ds:List D):Prop:=
 (∀(i:Nat) d,ds[i]?=some d->∀H H1,Same H0 H1->Same H1 H->J.go i H/\∀x H',J.yld i H x H'->Same H H'/\∃H1',Ext H1 H H1' H'/\RD K H1' d x)/\∀H,Same H0 H->J.stop ds.length H
noncomputable def TId (K:Frag) (EX:XW) (kp:Bool) (f:DE->R (List D)):TI:=fun U H Q=>Same EX.hb H/\∃ρ H0,Same H0 H/\RE K H0 ρ U/\Rk EX.at (f ρ) fun ds=>∀J H' H0',Same H H'->Ext H0 H H0' H'->zli K J (if kp=true then Hno else H0') ds->Q J H'
noncomputable def zdo (tg:Tg) (g:DS->SR):List D->DS->SR
 | [],ρ=>.nx ρ
 | d::ds,ρ=>match zjs tg d ρ with
  | none=>.st
  | some ρ1=>match g ρ1 with
   | .nx ρ2=>zdo tg g ds ρ2
   | .ct ρ2=>zdo tg g ds ρ2
   | .bk ρ2=>.nx ρ2
   | .rt d=>.rt d
   | .er x=>.er x
   | .st=>.st
noncomputable def zlj (kp:Bool) (m:List Bool) (f:DE->R (List D)) (tg:Tg) (g:DS->SR):DS->SR:=fun ρ=>(f (vis m ρ)).toS fun ds=>zdo tg g ds (z6e kp m ρ)
theorem Ext.base {Hc':Hp} (a:Ext Hc Hb Hc' H) (b:Ext Hc' Hb H0 H'):Ext Hc Hb H0 H':=⟨a.1.trans b.1,b.2.1,fun c h1 h2=>b.2.2 c h1 (a.2.2 c h1 h2)⟩
theorem RS.base {Hc' H1:Hp} (a:Ext Hc Hb Hc' H1) (I:RS K Hc' Hb H0 ρ U H):RS K Hc Hb H0 ρ U H:=⟨I.sb,a.base I.ext,I.len,I.im,I.ow,I.ap⟩
theorem RS.self (I:RS K Hc Hb H0 ρ U H):RS K H0 Hb H0 ρ U H:=⟨I.sb,⟨Same.refl _,I.ext.2.1,fun _ _ z=>z⟩,I.len,I.im,I.ow,I.ap⟩
theorem Out.base {Hc':Hp} {d:D} {v:V} (a:Ext Hc Hb Hc' H) (o:Out K fr Hc' Hb d v H'):Out K fr Hc Hb d v H':=by
 obtain ⟨s,H0',e,r⟩:=o
 exact ⟨s,H0',a.base e,r⟩
theorem RS.sees {H1':Hp} (I:RS K Hc Hb H0 ρ U H) (s:Same H H') (e:Ext H0 H H1' H'):RS K Hc Hb H1' ρ U H':=
 ⟨I.sb.trans s,⟨I.ext.1.trans e.1,e.2.1,fun a h1 h2=>e.2.2 a (I.sb.ne h1) (I.ext.2.2 a h1 h2)⟩,I.len,fun i d q=>by
  obtain ⟨v,h1,h2⟩:=I.im i d q
  exact ⟨v,h1,h2.mono e.1⟩,fun i d q=>by
  obtain ⟨a,h1,h2,h3,h4⟩:=I.ow i d q
  obtain ⟨u,hu,_⟩:=h4.some
  exact ⟨a,h1,e.2.2 a (z4t hu) h2,h3,h4.mono e.1 s⟩,I.ap⟩
theorem y1e {J:It} {Hn H1:Hp} {ρ:DS} {ds:List D} {tg:Tg} {g:DS->SR} (sb:Same EX.hb Hb) (I1:RS K Hc Hb Hn ρ U H1) (it':zli K J Hn ds) (h:SK K EX fr Hc Hb De (zdo tg g ds ρ)):y0d J (TGd K tg) (TSd K EX fr g) De U H1:=by
 have ex1:Ext Hc Hb Hn H1:=I1.ext
 refine ⟨fun i mm U H=>mm=ds.length - i/\i<=ds.length/\∃ρ H0,RS K Hn Hb H0 ρ U H/\SK K EX fr Hc Hb De (zdo tg g (ds.drop i) ρ),⟨ds.length,by simp,Nat.zero_le _,_,Hn,I1.self,h⟩,?_⟩
 rintro i mm U H ⟨rfl,hi,ρ,H0,I2,h⟩
 have sn:Same Hn H0:=I2.ext.1
 by_cases hlt:i<ds.length
 . have hd:ds[i]?=some ds[i]:=by simp [hlt]
   obtain ⟨hgo,hy⟩:=it'.1 i _ hd H H0 sn I2.ext.2.1
   have hdr:ds.drop i=ds[i]::ds.drop (i+1):=List.drop_eq_getElem_cons hlt
   rw [hdr] at h
   refine .inr ⟨hgo,fun σ' H'=>∃ρ' H0',RS K Hn Hb H0' ρ' σ' H'/\SK K EX fr Hc Hb De (zdo tg g (ds.drop (i+1)) ρ'),fun σ' H' ⟨ρ',H0',q⟩=>⟨ds.length - (i+1),by omega,rfl,hlt,ρ',H0',q⟩,fun x H' y=>?_⟩
   obtain ⟨s3,H3,e3,r3⟩:=hy x H' y
   have I3:=I2.sees s3 e3
   unfold zdo at h
   split at h
   . exact h.elim
   . rename_i ρ1 q1
     refine ⟨Hn,Hb,H3,ρ,ds[i],ρ1,I3,r3,q1,fun σ' I4=>⟨Hn,Hb,H3,ρ1,sb,I4,?_⟩⟩
     cases qg:g ρ1 with
     | nx ρ2=>rw [qg] at h;exact fun σ5 H5 H05 I5=>⟨ρ2,H05,I5,h⟩
     | ct ρ2=>rw [qg] at h;exact fun σ5 H5 H05 I5=>⟨ρ2,H05,I5,h⟩
     | bk ρ2=>rw [qg] at h;exact fun σ5 H5 H05 I5=>h σ5 H5 H05 (I5.base ex1)
     | rt d=>rw [qg] at h;exact fun v H5 o=>h v H5 (o.base ex1)
     | er x=>rw [qg] at h;exact h
     | st=>rw [qg] at h;exact h
 . have e:i=ds.length:=by omega
   subst e
   rw [List.drop_length] at h
   refine .inl ⟨it'.2 H (sn.trans I2.ext.2.1),?_⟩
   exact h U H H0 (I2.base ex1)
theorem zy2 {kp:Bool} {f:DE->R (List D)} {tg:Tg} {g:DS->SR} (h:TSd K EX fr (zlj kp m f tg g) De U H):zjk (TId K EX kp f) (TGd K tg) (TSd K EX fr g) De U H:=by
 obtain ⟨Hc,Hb,H0,ρ,sb,I,h⟩:=h
 unfold zlj at h
 rw [SK.toS] at h
 refine ⟨sb.trans I.sb,vis m ρ,HeOf m ρ U H0 H,I.heH m,I.re m,h.mono fun ds h J H1 H1' s1 e1 it=>?_⟩
 obtain ⟨Hn,I1,tk,eq,hn,sub⟩:=I.frame s1 e1 kp
 have it':zli K J Hn ds:=by
  cases kp with
  | true=>
   rw [if_pos rfl] at it
   exact ⟨fun i d q H H1 a b=>it.1 i d q H H1 (fun _ _ z=>nomatch z) b,fun H a=>it.2 H fun _ _ z=>nomatch z⟩
  | false=>rw [if_neg Bool.false_ne_true,<-eq rfl] at it;exact it
 exact y1e sb I1 it' h
noncomputable def z2j (t:DE->R Bool) (g:DS->SR):Nat->DS->SR
 | 0,_=>.st
 | n+1,ρ=>(t (see ρ)).toS fun b=>if b=true then (match g ρ with
  | .nx ρ2=>z2j t g n ρ2
  | .ct ρ2=>z2j t g n ρ2
  | .bk ρ2=>.nx ρ2
  | .rt d=>.rt d
  | .er x=>.er x
  | .st=>.st) else .nx ρ
noncomputable def z3j (n:Nat) (t:DE->R Bool) (g:DS->SR):DS->SR:=z2j t g n
theorem znz {n:Nat} {t:DE->R Bool} {g:DS->SR} (h:TSd K EX fr (z3j n t g) De U H):zl8 (TTd K EX t) (TSd K EX fr g) De U H:=by
 obtain ⟨Hc,Hb,H0,ρ,sb,I,h⟩:=h
 refine ⟨fun mm U H=>∃ρ H0,RS K Hc Hb H0 ρ U H/\SK K EX fr Hc Hb De (z2j t g mm ρ),⟨n,ρ,H0,I,h⟩,?_⟩
 rintro mm U H ⟨ρ,H0,I,h⟩
 cases mm with
 | zero=>exact h.elim
 | succ mm=>
  unfold z2j at h
  rw [SK.toS] at h
  refine I.tt sb h fun b h H' I'=>?_
  cases b with
  | false=>exact h U H' H0 I'
  | true=>
   rw [if_pos rfl] at h ⊢
   refine ⟨fun σ' H'=>∃ρ' H0',RS K Hc Hb H0' ρ' σ' H'/\SK K EX fr Hc Hb De (z2j t g mm ρ'),fun σ' H' q=>⟨mm,Nat.lt_succ_self _,q⟩,Hc,Hb,H0,ρ,sb,I',?_⟩
   cases qg:g ρ with
   | nx ρ2=>rw [qg] at h;exact fun σ5 H5 H05 I5=>⟨ρ2,H05,I5,h⟩
   | ct ρ2=>rw [qg] at h;exact fun σ5 H5 H05 I5=>⟨ρ2,H05,I5,h⟩
   | bk ρ2=>rw [qg] at h;exact fun σ5 H5 H05 I5=>h σ5 H5 H05 I5
   | rt d=>rw [qg] at h;exact fun v H5 o=>h v H5 o
   | er x=>rw [qg] at h;exact h
   | st=>rw [qg] at h;exact h
noncomputable def R.noE {α:Type} (r:R α):R α:=match r with
 | .er _=>.st
 | r=>r
theorem Rk.noE {α:Type} {EX EX':Ex->Prop} {r:R α} {k:α->Prop} (h:Rk EX r.noE k):Rk EX' r k:=by
 cases r with
 | ok a=>exact h
 | er x=>exact h.elim
 | st=>exact h
def BD (K:Frag) (bn:D->Option (List D)) (B:V->Hp->(List V->Hp->Prop)->Prop):Prop:=∀(H0 H:Hp) (x:V) (d:D) (ds:List D) (Q:List V->Hp->Prop),Same H0 H->RD K H0 d x->bn d=some ds->(∀vs,RDs K H0 ds vs->Q vs H)->B x H Q
noncomputable def b1:D->Option (List D):=fun d=>some [d]
noncomputable def bT (n:Nat):D->Option (List D)
 | .tup ds=>if ds.length=n then some ds else none
 | _=>none
theorem zy3:BD K b1 cB1:=fun H0 H x d ds Q s r e q=>by
 simp only [b1,Option.some.injEq] at e
 subst e
 exact q [x] (.one r)
theorem zy4 {n:Nat}:BD K (bT n) (cBT n):=fun H0 H x d ds Q s r e q=>by
 cases d<;>simp only [bT] at e<;>first | cases e | skip
 rename_i es
 split at e
 . rename_i hl
   cases e
   simp only [RD] at r
   obtain ⟨a,xs,rfl,ha,rs⟩:=r
   unfold cBT
   simp only [s a _ ha]
   exact ⟨by rw [<-rs.length];exact hl,q xs rs⟩
 . cases e
noncomputable def sel (ix:List Nat) (ρ:DE):DE:=ix.map fun j=>(ρ[j]?).getD none
noncomputable def z1s (bn:D->Option (List D)) (t:DE->R Bool) (f:DE->R D) (cs:DE):List D->R (List D)
 | []=>.ok []
 | d::ds=>(R.of (bn d)).bind fun bs=>(t (bs.map some++cs)).noE.bind fun b=>if b=true then (f (bs.map some++cs)).noE.bind fun y=>(z1s bn t f cs ds).bind fun ys=>.ok (y::ys) else z1s bn t f cs ds
noncomputable def z3b (fi:DE->R (List D)) (bn:D->Option (List D)) (ix:List Nat) (t:DE->R Bool) (f:DE->R D):DE->R D:=fun ρ=>(fi ρ).bind fun ds=>if ds.length<=100000 then (z1s bn t f (sel ix ρ) ds).bind fun ys=>.ok (.lst ys) else .st
theorem RE.sel {ρ:DE} {vs:List V} {ds:List D} (h:RE K H0 ρ U) (r:RDs K H0 ds vs) (ix:List Nat):RE K H0 (ds.map some++sel ix ρ) (vs.map some++zj1 ix U):=by
 have hl:=r.length
 refine ⟨by simp [L2.sel,zj1,hl],fun i d e=>?_⟩
 by_cases hi:i<ds.length
 . rw [List.getElem?_append_left (by simpa using hi),List.getElem?_map] at e
   rw [List.getElem?_append_left (by simpa [<-hl] using hi),List.getElem?_map]
   cases q:ds[i]? with
   | none=>rw [q] at e;cases e
   | some d'=>
    rw [q] at e;cases e
    obtain ⟨x,h1,h2⟩:=r.get' q
    exact ⟨x,by rw [h1];rfl,h2⟩
 . rw [List.getElem?_append_right (by simpa using hi)] at e
   rw [List.getElem?_append_right (by simpa [<-hl] using hi)]
   simp only [List.length_map] at e ⊢
   rw [<-hl]
   unfold L2.sel at e
   unfold zj1
   rw [List.getElem?_map] at e ⊢
   cases q:ix[i - ds.length]? with
   | none=>rw [q] at e;cases e
   | some j=>
    rw [q] at e
    simp only [Option.map_some,Option.some.injEq] at e ⊢
    cases qj:ρ[j]? with
    | none=>rw [qj] at e;cases e
    | some o=>
     rw [qj] at e
     simp only [Option.getD_some] at e
     subst e
     obtain ⟨v,h1,h2⟩:=h.2 j d qj
     exact ⟨v,by rw [h1];rfl,h2⟩
theorem z56 {n:Nat} (h:n<100000):n<sizeLine:=Nat.lt_of_lt_of_le h (by decide)
theorem zo0 {W:XW} {kp:Bool} {fi:DE->R (List D)} {bn:D->Option (List D)} {B:V->Hp->(List V->Hp->Prop)->Prop} {ix:List Nat} {t:DE->R Bool} {f:DE->R D} {Q:VK} {tt:TT} (hW:Same W.hb EX.hb) (hB:BD K bn B) (htt:∀U H Q,TTd K F0 t U H Q->tt U H Q)
  (h:TEd K EX true (z3b fi bn ix t f) U H Q):z6c (TId K EX kp fi) B ix tt (TEd K W false f) U H Q:=by
 obtain ⟨sx,ρ,H0,s,e,h⟩:=h
 unfold z3b at h
 rw [Rk.bind] at h
 refine ⟨sx,ρ,H0,s,e,h.mono fun ds h J H1 H1' s1 e1 it D hD=>?_⟩
 split at h
 . rename_i hsz
   rw [Rk.bind] at h
   have it':zli K J H1' ds:=by
    cases kp with
    | true=>rw [if_pos rfl] at it;exact ⟨fun i d q H H1 a b=>it.1 i d q H H1 (fun _ _ z=>nomatch z) b,fun H a=>it.2 H fun _ _ z=>nomatch z⟩
    | false=>rw [if_neg Bool.false_ne_true] at it;exact it
   have e':=e.mono e1.1
   have hDn:H1' D=none:=e1.2.1.none hD
   refine ⟨fun i mm ys H2=>mm=ds.length - i/\i<=ds.length/\ys.length<=i/\∃acc H2',Same H1 H2/\H2 D=some (.lst ys)/\Ext H1' H1 H2' H2/\H2' D=none/\RDs K H2' acc ys /\
    Rk EX.at (z1s bn t f (L2.sel ix ρ) (ds.drop i)) fun rest=>∀v H',Out K true H0 H (.lst (acc++rest)) v H'->Q v H',⟨ds.length,by simp,Nat.zero_le _,Nat.le_refl _,[],H1',Same.upd_new hD,z0d,(Ext.refl e1.2.1).grow (Same.upd_new hD),hDn,.nil,h⟩,?_⟩
   rintro i mm ys H2 ⟨rfl,hi,hys,acc,H2',s2,hd2,e2,hdn2,r2,h⟩
   refine ⟨hd2,?_⟩
   by_cases hlt:i<ds.length
   . have hd:ds[i]?=some ds[i]:=by simp [hlt]
     obtain ⟨hgo,hy⟩:=it'.1 i _ hd H2 H2' e2.1 e2.2.1
     have hdr:ds.drop i=ds[i]::ds.drop (i+1):=List.drop_eq_getElem_cons hlt
     rw [hdr] at h
     unfold z1s at h
     rw [Rk.bind] at h
     obtain ⟨bs,hbs,h⟩:=h.of
     rw [Rk.bind] at h
     refine .inr ⟨hgo,fun x H3 y=>?_⟩
     obtain ⟨s3,H3',e3,r3⟩:=hy x H3 y
     refine hB H3' H3 x _ bs _ e3.2.1 r3 hbs fun vs rvs=>?_
     have en:=(e'.mono (e2.1.trans e3.1)).sel rvs ix
     have e23:=e2.trans s2 e3
     refine htt _ _ _ ⟨F0.same _,_,H3',e3.2.1,en,(Rk.noE h).mono fun b h H4 s4=>?_⟩
     have s14:=s2.trans (s3.trans s4)
     have hd4:H4 D=some (.lst ys):=s4 _ _ (s3 _ _ hd2)
     have hdn3:H3' D=none:=e3.2.2 D (z4t hd2) hdn2
     have e14:Ext H1' H1 H3' H4:=e23.grow s4
     cases b with
     | false=>
      rw [if_neg Bool.false_ne_true] at h
      dsimp only
      rw [if_neg Bool.false_ne_true]
      exact ⟨ds.length - (i+1),by lia,rfl,hlt,by lia,acc,H3',s14,hd4,e14,hdn3,r2.mono e3.1,h⟩
     | true=>
      rw [if_pos rfl] at h
      dsimp only
      rw [if_pos rfl]
      rw [Rk.bind] at h
      refine ⟨hW.trans (sx.trans (s1.trans s14)),_,H3',e14.2.1,en,(Rk.noE h).mono fun y h w H5 o5=>?_⟩
      obtain ⟨s5,H5',e5,r5⟩:=o5.rd
      have hd5:H5 D=some (.lst ys):=s5 _ _ hd4
      have hdn5:H5' D=none:=e5.2.2 D (z4t hd4) hdn3
      have e15:=e14.trans s14 e5
      rw [Rk.bind] at h
      refine ⟨hd5,z56 (by lia),ds.length - (i+1),by lia,rfl,hlt,by rw [List.length_append];show ys.length+1<=i+1;lia,acc++[y],H5',(s14.trans s5).upd_at hD,z0d,⟨e15.1,e15.2.1.upd_at hdn5,e15.2.2⟩,hdn5,((r2.mono (e3.1.trans e5.1))).append (.one r5),?_⟩
      exact h.mono fun rest h v H' o=>h v H' (by simpa using o)
   . have ei:i=ds.length:=by lia
     subst ei
     rw [List.drop_length] at h
     refine .inl ⟨it'.2 H2 (e2.1.trans e2.2.1),h _ H2 ?_⟩
     rw [List.append_nil]
     refine Out.after s1 e1 (.fresh s2 e2 hD hdn2 ?_)
     simp only [OB]
     exact ⟨ys,hd2,r2⟩
 . exact h.elim
theorem zaw {kp:Bool} {fi:DE->R (List D)} {bn:D->Option (List D)} {B:V->Hp->(List V->Hp->Prop)->Prop} {ix:List Nat} {t:DE->R Bool} {f:DE->R D} {Q:VK} {tt:TT} (hB:BD K bn B) (htt:∀U H Q,TTd K F0 t U H Q->tt U H Q)
 (h:TEd K EX true (z3b fi bn ix t f) U H Q):z6c (TId K EX kp fi) B ix tt (TEd K F0 false f) U H Q:=zo0 (F0.same _) hB htt h
noncomputable def mOf (fr:Bool) (n k:Nat) (g:DS->SR):List D->R D:=fun ds=>if ds.length=n then (match g (ds.map .im++List.replicate k .em) with
 | .rt d=>.ok d
 | .nx _=>if fr=true then .st else .ok .non
 | .er x=>.er x
 | _=>.st) else .st
def XFs (K:Frag) (x:Ex) (od:Option Addr) (H:Hp):Prop:=x.fs=[]\/∃(dx:Addr) (ns:List Int) (ob:Obj),od=some dx/\H dx=some (.frz ob (.xd ((zxk x.cls).zip (ns.map V.int))))/\x.fs=ns.map D.int
def xNm (K:Frag) (mg:Str->Option Value) (E:XK) (x:Ex) (H:Hp):Prop:=∃C,mg (x.cls:Str)=some (.ref C)/\∀od,XFs K x od H->E (.ref C) od H
noncomputable def spD (K:Frag) (mg:Str->Option Value) (fr:Bool) (m:List D->R D) (n:Nat):Sp:=fun vs H Q E=>∃ds H0,Same H0 H/\RDs K H0 ds vs/\ds.length=n/\Rk (XW.at ⟨H,xNm K mg E⟩) (m ds) fun d=>∀v H',Out K fr H0 H d v H'->Q v H'
noncomputable def zgr (sp:Sp) (E:XK) (t:TA):TE:=fun U H Q=>t U H fun vs H1=>sp vs H1 Q E
theorem zlk {mg:Str->Option Value} {E:XK} {m:List D->R D} {n:Nat} {fs:DE->R (List D)} {Q:VK} (hl:∀ds,ds.length≠n->m ds=.st) (hE:∀x H,EX.p x H->xNm K mg E x H) (h:TEd K EX fr (z0v m fs) U H Q):zgr (spD K mg fr m n) E (TAd K EX fs) U H Q:=by
 obtain ⟨sx,ρ,H0,s,e,h⟩:=h
 unfold z0v at h
 rw [Rk.bind] at h
 refine TAd.go sx s e h fun ds h vs H1 H1' s1 e1 r1=>?_
 refine ⟨ds,H1',e1.2.1,r1,?_,?_⟩
 . apply Classical.byContradiction
   intro hn
   rw [hl ds hn] at h
   exact h
 . cases q:m ds with
   | ok d=>rw [q] at h;exact fun v H' o=>h v H' (o.after s1 e1)
   | er x=>rw [q] at h;exact fun H' s'=>hE x H' (h H' ((sx.trans s1).trans s'))
   | st=>rw [q] at h;exact h
theorem zca {n k:Nat} {g:DS->SR} (ds:List D) (h:ds.length≠n):mOf fr n k g ds=.st:=by unfold mOf;rw [if_neg h]
theorem zjt {vs:List V} {ds:List D} (s:Same H0 H) (r:RDs K H0 ds vs) (k:Nat):RS K H0 H H0 (ds.map .im++List.replicate k .em) (vs.map some++List.replicate k none) H:=by
 have hl:=r.length
 have noow:∀(i:Nat) d,(ds.map Sl.im++List.replicate k Sl.em)[i]?≠some (.ow d):=fun i d q=>by
  rcases List.mem_append.mp (List.mem_of_getElem? q) with z | z
  . obtain ⟨_,_,z⟩:=List.mem_map.mp z;cases z
  . have:=(List.mem_replicate.mp z).2;cases this
 refine ⟨Same.refl _,.refl s,by simp [hl],fun i d q=>?_,fun i d q=>absurd q (noow i d),fun i j d e a q=>absurd q (noow i d)⟩
 by_cases hi:i<ds.length
 . rw [List.getElem?_append_left (by simpa using hi),List.getElem?_map] at q
   rw [List.getElem?_append_left (by simpa [<-hl] using hi),List.getElem?_map]
   cases qd:ds[i]? with
   | none=>rw [qd] at q;cases q
   | some d'=>
    rw [qd] at q
    simp only [Option.map_some,Option.some.injEq,Sl.im.injEq] at q
    subst q
    obtain ⟨x,h1,h2⟩:=r.get' qd
    exact ⟨x,by rw [h1];rfl,h2⟩
 . rw [List.getElem?_append_right (by simpa using hi)] at q
   have:=(List.mem_replicate.mp (List.mem_of_getElem? q)).2
   cases this
theorem zsi {n k:Nat} {g:DS->SR} {vs:List V} {Q:VK} {E:XK} {mg:Str->Option Value} (h:spD K mg fr (mOf fr n k g) n vs H Q E) :
  TSd K ⟨H,xNm K mg E⟩ fr g { nx:=fun _ H'=>Q .non H',rt:=Q } (vs.map some++List.replicate k none) H:=by
 obtain ⟨ds,H0,s,r,hn,h⟩:=h
 refine ⟨H0,H,H0,_,Same.refl _,zjt s r k,?_⟩
 unfold mOf at h
 rw [if_pos hn] at h
 cases q:g (ds.map .im++List.replicate k .em) with
 | nx ρ=>
  rw [q] at h
  cases fr with
  | true=>exact h.elim
  | false=>exact fun U H' H0' I=>h _ H' (.val I.sb I.ext (by simp only [RD]))
 | rt d=>rw [q] at h;exact h
 | er x=>rw [q] at h;exact h
 | bk ρ=>rw [q] at h;exact h.elim
 | ct ρ=>rw [q] at h;exact h.elim
 | st=>rw [q] at h;exact h.elim
end
structure Flt {α:Type} (t:Sem α):Prop where
 go:∀{M:Model} {Γ:PySem.Ctx} {Q Q':α->Pos->Shared->Prop} {E E':Value->Pos->Shared->Prop} {p:Pos} {s:Shared},
 t.wp M Γ Q E p s->t.wp M Γ Q' E' p s->t.wp M Γ (fun a p s=>Q a p s/\Q' a p s) (fun a p s=>E a p s/\E' a p s) p s
theorem Flt.bind {α β:Type} {t:Sem α} {f:α->Sem β} (h:Flt t) (k:∀a,Flt (f a)):Flt (t >>= f):=by
 refine ⟨fun x y=>?_⟩
 rw [Sem.wp_bind'] at x y ⊢
 exact Sem.wp_mono _ _ _ (fun a _ _ z=>(k a).go z.1 z.2) (fun _ _ _ z=>z) _ _ (h.go x y)
theorem Flt.pure {α:Type} (a:α):Flt (Pure.pure a:Sem α):=⟨fun x y=>⟨x,y⟩⟩
theorem Flt.uns {α:Type} (w:String):Flt (unsupported w:Sem α):=⟨fun x _=>x.elim⟩
theorem Flt.stack:Flt PySem.stack:=⟨fun x y=>⟨x,y⟩⟩
theorem Flt.alloc (o:Obj):Flt (PySem.alloc o):=⟨fun x y=>⟨x,y⟩⟩
theorem Flt.update (a:Addr) (f:Obj->Obj):Flt (PySem.update a f):=⟨fun x y=>⟨x.1,x.2,y.2⟩⟩
theorem Flt.load (a:Addr):Flt (PySem.load a):=⟨fun ⟨o,e,x⟩ ⟨o',e',y⟩=>by rw [e] at e';cases e';exact ⟨o,e,x,y⟩⟩
theorem Flt.cells (v:Value):Flt (fieldsOf v):=by
 cases v<;>first | exact .uns _ | exact .bind (.load _) fun o=>by split<;>first | exact .pure _ | exact .uns _
theorem Flt.field (v:Value) (i:Nat):Flt (PySem.field v i):=.bind (.cells v) fun vs=>by split<;>first | exact .pure _ | exact .uns _
theorem Flt.put (v:Value) (i:Nat) (x:Value):Flt (setField v i x):=by
 cases v<;>first | exact .uns _ | exact .bind (.load _) fun o=>by split<;>first | exact .uns _ | (split<;>first | exact .update _ _ | exact .uns _)
theorem Flt.flight (e:Value) (f:Option Addr):Flt (setFlight e f):=.bind (.field e 1) fun tb=>by split<;>first | exact .put _ _ _ | exact .pure _
theorem Flt.ready:∀l:List Env,Flt (readyFrames l)
 | []=>.pure _
 | env::outer=>by
  unfold readyFrames
  split<;>first | exact .uns _ | skip
  refine .bind (.load _) fun o=>?_
  split<;>first | exact .pure _ | skip
  refine .bind ?_ fun b=>.bind ?_ fun v=>.bind (.update _ _) fun _=>Flt.ready outer
  . unfold behindIsImport
    split<;>first | exact .pure _ | skip
    split<;>first | exact .pure _ | exact .bind (.field _ _) fun _=>.pure _
  . unfold keptBack
    split<;>first | exact .pure _ | skip
    split<;>first | exact .pure _ | exact .bind (.bind .stack fun _=>.pure _) fun _=>.pure _
theorem Flt.frame (env:Env):Flt (frameOf env):=.bind (.bind .stack fun _=>.pure _) fun es=>.bind (by
 unfold frameObject
 split
 . exact .pure _
 . exact .bind (.ready _) fun _=>.pure _) fun f=>by split<;>first | exact .pure _ | exact .uns _
theorem Flt.fields (vs:List Value):Flt (newFields "traceback" vs):=by
 have h:Flt (newObjAsIs (.type "traceback") (.fields vs.toArray)):=.bind (.alloc _) fun a=>.pure _
 unfold newFields newObj
 dsimp only
 split
 . exact .bind (.uns _) fun _=>h
 . exact h
theorem Flt.entry (env:Env) (e head:Value) (L:Addr) (b:Bool):Flt (do let a <-frameOf env;let pl <-entryPlaceOf L b;let b <-EntryCells.newEntry head a .none (rawInt L) .none pl;setField e 1 b):=
 .bind (.frame env) fun _=>.bind (.bind .stack fun acts=>by split<;>exact .pure _) fun _=>.bind (.fields _) fun _=>.put _ _ _
theorem Flt.note (e:Value) (env:Env):Flt (noteFrame e env):=by
 unfold noteFrame
 split<;>first | exact .uns _ | skip
 refine .bind (.field _ _) fun head=>?_
 split
 . refine .bind (.field _ _) fun x=>?_
   split
   . exact .pure _
   . exact .bind (.put _ _ _) fun _=>.entry _ _ _ _ _
 . exact .entry _ _ _ _ _
theorem z4c {M:Model} {A:Around} {α:Type} {t:Sem α} {Q Q':α->Shared->Prop} {E E':Value->Shared->Prop} {s:Shared} (f:Flt t) (h:wpAny M A t Q E s) (k:wpAny M A t Q' E' s):wpAny M A t (fun a s=>Q a s/\Q' a s) (fun a s=>E a s/\E' a s) s:=
 fun Γ p hΓ=>f.go (h Γ p hΓ) (k Γ p hΓ)
section
variable {M:Model} {A:Around} {E:Value->Shared->Prop} {s:Shared} {base:Heap} {env:Env} {outer:List Env} {L e:Addr} {cls a0 fl:Value} {od:Option Addr}
def z3c (e:Addr) (od:Option Addr) (h:Heap):Prop:=∀o,h.get? e=some o->o.dict=od
theorem zju (o:Obj) (f:Array Value->Array Value):(Obj.mapFields f o).dict=o.dict:=by
 unfold Obj.mapFields
 split<;>rfl
theorem z9h {h:Heap} {b:Addr} {f:Array Value->Array Value} (d:z3c e od h) (hb:∃o,h.get? b=some o/\∃vs,o.data=.fields vs):z3c e od (h.update b (Obj.mapFields f)):=by
 intro o ho
 by_cases q:b=e
 . subst q
   obtain ⟨ob,h1,vs,h2⟩:=hb
   rw [Heap.get?_update_self _ h1 (Obj.isFreed_of_fields (Obj.data_mapFields h2 f))] at ho
   cases ho
   rw [zju]
   exact d _ h1
 . rw [Heap.get?_update_other _ _ q] at ho
   exact d o ho
theorem zgs (T:Addr):(Value.ref T != Value.none)=true:=by simp
theorem zsj (L:Addr):(Value.none==rawInt L)=false:=by simp [rawInt]
theorem z79 (ht:s.heap.TracedAtW base e cls a0 fl) (d:z3c e od s.heap):wpAny M A (setFlight (.ref e) none) (fun _ s'=>z3c e od s'.heap) E s:=by
 obtain ⟨oe,vs,T,oT,ts,he,-,hd,h1,-,-,hT,hdT,h3⟩:=ht
 have in3:=(Array.getElem?_eq_some_iff.mp h3).1
 unfold setFlight
 exact wpAny_bind (wpAny_field he hd h1 (by rw [if_pos (zgs T)];exact wpAny_setField hT hdT in3 (z9h d ⟨_,hT,_,hdT⟩)))
theorem z8n {oe:Obj} {vs:Array Value} {head:Value} {hadNext:Bool} (hfr:A.frames=some (env::outer)) (hl:s.heap.FunFrames base (env::outer)) (hf:env.frame=some L) (he:s.heap.get? e=some oe) (hd:oe.data=.fields vs) (hsz:1<vs.size) (d:z3c e od s.heap) :
  wpAny M A (do let a <-frameOf env;let pl <-entryPlaceOf L hadNext;let b <-EntryCells.newEntry head a .none (rawInt L) .none pl;setField (.ref e) 1 b) (fun _ s'=>z3c e od s'.heap) E s:=by
 have nf:e∉(env::outer).filterMap (·.frame):=fun hm=>by
  obtain ⟨_,o,ho,hnf⟩:=hl.mem hm
  rw [he] at ho;cases ho;exact hnf vs hd
 refine wpAny_bind (wpAny_frameOf_fun hfr hl hf fun h1 hs=>wpAny_bind (wpAny_entryPlaceOf fun pl hpl=>?_))
 unfold EntryCells.newEntry newFields
 refine wpAny_bind (wpAny_newObj_type ?_ (hpl.sizeOk5 _ _ _ _ _))
 have he1:h1.get? e=some oe:=(hs.2.1 e nf).trans he
 have he2:=Heap.get?_push_of_some (h:=h1) { cls:=.type "traceback",dict:=none,data:=.fields ([head,.ref L,.none,rawInt L,.none]++(if pl.isEmpty then List.replicate 6 Value.none else pl)).toArray } he1
 refine wpAny_setField he2 hd hsz (z9h (fun o ho=>?_) ⟨_,he2,_,hd⟩)
 rw [he2] at ho;cases ho
 exact d _ he
theorem zgt (hfr:A.frames=some (env::outer)) (hl:s.heap.FunFrames base (env::outer)) (hf:env.frame=some L) (ht:s.heap.TracedW base e cls a0) (d:z3c e od s.heap) :
  wpAny M A (noteFrame (.ref e) env) (fun _ s'=>z3c e od s'.heap) E s:=by
 obtain ⟨oe,vs,T,oT,ts,he,-,hd,h1,-,hTe,hT,hdT,h3⟩:=ht
 have in1:=(Array.getElem?_eq_some_iff.mp h1).1
 have in3:=(Array.getElem?_eq_some_iff.mp h3).1
 have off:∀b,T≠b->(s.heap.update T (Obj.mapFields (·.setIfInBounds 3 Value.none))).get? b=s.heap.get? b:=fun b hb=>Heap.get?_update_other _ _ hb
 have fr:(s.heap.update T (Obj.mapFields (·.setIfInBounds 3 Value.none))).FunFrames base (env::outer):=hl.of_keeps fun b o hb nf=>⟨o,(off b fun z=>by rw [<-z,hT] at hb;cases hb;exact nf ts hdT).trans hb,rfl⟩
 unfold noteFrame
 simp only [hf]
 exact wpAny_bind (wpAny_field he hd h1 (by
  rw [if_pos (zgs T)]
  exact wpAny_bind (wpAny_field hT hdT h3 (by
   rw [if_neg (by rw [zsj];exact Bool.false_ne_true)]
   exact wpAny_bind (wpAny_setField hT hdT in3 (z8n hfr fr hf ((off e hTe).trans he) hd in1 (z9h d ⟨_,hT,_,hdT⟩)))))))
end
section
variable {M:Model} {A:Around} {E:Value->Shared->Prop} {s:Shared} {base:Heap} {env:Env} {outer:List Env} {L e:Addr} {cls a0:Value} {od:Option Addr} {Q:Unit->Shared->Prop}
theorem zcb (hh:Heap.HeldW base (env::outer) e cls a0 L s.heap) (d:z3c e od s.heap) (hQ:∀h',Heap.FlyingW base (env::outer) e cls a0 h'->s.heap.UpToSlots h'->z3c e od h'->Q () { s with heap:=h' }):wpAny M A (setFlight (.ref e) none) Q E s:=
 wpAny_mono (z4c (E:=E) (E':=E) (.flight _ _) (wpAny_landsW hh (Q:=fun _ s'=>∃h',s'={ s with heap:=h' }/\Heap.FlyingW base (env::outer) e cls a0 h'/\s.heap.UpToSlots h') fun h' f u=>⟨h',rfl,f,u⟩) (z79 hh.2.2.2 d))
  (fun _ s' ⟨⟨h',e1,f,u⟩,d'⟩=>by subst e1;exact hQ h' f u d') fun _ _ z=>z.1
theorem zgu (hfr:A.frames=some (env::outer)) (hf:env.frame=some L) (hfl:Heap.FlyingW base (env::outer) e cls a0 s.heap) (d:z3c e od s.heap)
  (hQ:∀h',Heap.HeldW base (env::outer) e cls a0 L h'->s.heap.UpToSlots h'->z3c e od h'->Q () { s with heap:=h' }):wpAny M A (noteFrame (.ref e) env) Q E s:=
 wpAny_mono (z4c (E:=E) (E':=E) (.note _ _) (wpAny_looks_onW hfr hf hfl (Q:=fun _ s'=>∃h',s'={ s with heap:=h' }/\Heap.HeldW base (env::outer) e cls a0 L h'/\s.heap.UpToSlots h') fun h' f u=>⟨h',rfl,f,u⟩) (zgt hfr hfl.2.2.1 hf hfl.2.2.2 d))
  (fun _ s' ⟨⟨h',e1,f,u⟩,d'⟩=>by subst e1;exact hQ h' f u d') fun _ _ z=>z.1
theorem zjv (hfr:A.frames=some (env::outer)) (hf:env.frame=some L) (hfl:Heap.FlyingW base (env::outer) e cls a0 s.heap) (d:z3c e od s.heap)
  (hQ:∀h',Heap.FlyingW base outer e cls a0 h'->s.heap.UpToSlots h'->z3c e od h'->Q () { s with heap:=h' }):wpAny M A (leaving env (.ref e)) Q E s:=by
 unfold leaving
 refine wpAny_bind (zgu hfr hf hfl d fun h1 hh u1 d1=>zcb (s:={ s with heap:=h1 }) hh d1 fun h2 f u2 d2=>hQ h2 ?_ (u1.trans u2) d2)
 obtain ⟨k1,k2,⟨_,_,k3⟩,k4⟩:=f
 exact ⟨k1,k2,k3,k4⟩
theorem zo1 {oe:Obj} {vs:Array Value} (hfr:A.frames=some (env::outer)) (hl:s.heap.FunFrames base (env::outer)) (hf:env.frame=some L) (he:s.heap.get? e=some oe) (hkb:base.StaysIn s.heap) (hen:base.get? e=none) (hd:oe.data=.fields vs) (h1:vs[1]?=some .none) (h0:vs[0]?=some a0) (d:z3c e od s.heap)
  (hQ:∀h',Heap.FlyingW base outer e oe.cls a0 h'->s.heap.UpToSlots h'->z3c e od h'->Q () { s with heap:=h' }):wpAny M A (leaving env (.ref e)) Q E s:=by
 have hsz:=(Array.getElem?_eq_some_iff.mp h1).1
 unfold leaving noteFrame
 simp only [hf]
 refine wpAny_bind (wpAny_bind (wpAny_field he hd h1 ?_))
 rw [if_neg (by decide)]
 refine wpAny_mono (z4c (E:=E) (E':=E) (.entry _ _ _ _ _) (wpAny_entryW hfr hl hf he hkb hen hd hsz h0 (Q:=fun _ s'=>∃h',s'={ s with heap:=h' }/\Heap.NotedW base (env::outer) e oe.cls a0 (rawInt L) s.heap h') fun h' n=>⟨h',rfl,n⟩) (z8n hfr hl hf he hd hsz d)) (fun _ s' z=>?_) fun _ _ z=>z.1
 obtain ⟨⟨h',e1,n1,n2,n3,n4⟩,d1⟩:=z
 subst e1
 refine zcb (s:={ s with heap:=h' }) ⟨n1,hen,n2,n3⟩ d1 fun h2 f u2 d2=>hQ h2 ?_ (Heap.UpToSlots.trans n4 u2) d2
 obtain ⟨k1,k2,⟨_,_,k3⟩,k4⟩:=f
 exact ⟨k1,k2,k3,k4⟩
end
theorem ObjOk.there {P:Program} {w:World} {H:Hp} {h:Heap} {a:Addr} {o:HO} (x:ObjOk P w H h a o):∃ob,h.get? a=some ob:=by
 induction o with
 | lst xs=>obtain ⟨_,_,_,_,e⟩:=x;exact ⟨_,e⟩
 | tup xs=>obtain ⟨_,_,_,ob,e,_⟩:=x;exact ⟨_,e⟩
 | dK kvs=>obtain ⟨_,_,_,_,o,_,_,e,_⟩:=x;exact ⟨_,e⟩
 | dT kvs=>obtain ⟨_,_,_,_,o,_,_,e,_⟩:=x;exact ⟨_,e⟩
 | set S n=>obtain ⟨o,_,_,_,e,_⟩:=x;exact ⟨_,e⟩
 | ins C dx fs=>obtain ⟨_,_,_,e,_⟩:=x;exact ⟨_,e⟩
 | own y=>exact x
 | xd fs=>obtain ⟨_,⟨_,_,_,e,_⟩,_⟩:=x;exact ⟨_,e⟩
 | rng lo hi=>obtain ⟨_,_,_,e⟩:=x;exact ⟨_,e⟩
 | frz ob u ih=>exact ⟨_,x.1⟩
 | tbl ps=>exact ⟨_,x⟩
 | ctb q=>obtain ⟨_,e,_⟩:=x;exact ⟨_,e⟩
 | met f y=>exact ⟨_,x⟩
 | ext φ=>exact x.2.1
theorem HOk.none {P:Program} {w:World} {H:Hp} {h:Heap} {a:Addr} (x:HOk P w H h) (e:h.get? a=Option.none):H a=Option.none:=by
 cases q:H a with
 | none=>rfl
 | some o=>
  obtain ⟨ob,z⟩:=(x a o q).there
  rw [e] at z;cases z
def Fly (h0:Heap) (H':Hp) (C a:Addr) (od:Option Addr) (h:Heap):Prop:=∃oe vs T oT ts a0,h.get? a=some oe/\oe.cls=.ref C/\vs[0]?=some a0/\oe.data=.fields vs/\vs[1]?=some (.ref T)/\T≠a/\h.get? T=some oT/\oT.data=.fields ts/\ts[3]?=some Value.none /\
 h0.get? a=none/\h0.get? T=none/\H' a=none/\H' T=none/\oe.dict=od/\∀dx,od=some dx->h0.get? dx=none
structure XOut (P:Program) (w:World) (outer:List Env) (H:Hp) (s:Shared) (C a:Addr) (od:Option Addr) (H':Hp) (s':Shared):Prop where
 os:s'.os=s.os
 bare:AllBare s'.gens
 un:Un (frs outer) [] H H' s.heap s'.heap
 hok:HOk P w H' s'.heap
 fly:Fly s.heap H' C a od s'.heap
noncomputable def CX1 (P:Program) (w:World):CXT:=fun outer H s E e s'=>∃C a od H',e=.ref a/\XOut P w outer H s C a od H' s'/\E (.ref C) od H'
theorem zax {l:List Addr} {h:Heap} {b:Addr} (e:(hideAll h l).get? b=none):b∈l\/h.get? b=none:=by
 by_cases hb:b∈l
 . exact .inl hb
 . cases q:h.get? b with
   | none=>exact .inr rfl
   | some o=>rw [hideAll_get l q hb] at e;cases e
section
variable {X:Cx} {pins:List (Addr×Obj)} {U:List (Option V)} {H1 H2:Hp} {s1 s2:Shared} {h' B:Heap} {Z:List Addr} {C a:Addr} {a0:Value} {od:Option Addr}
theorem Inv.stack2 (I:Inv X pins U H1 s1) (un:Un (frs X.stack) [] H1 H2 s1.heap s2.heap):s2.heap.FunFrames X.base X.stack:=by
 have all:∀(l:List Env),(∀b∈frs l,b∈frs X.stack)->s1.heap.FunFrames X.base l->s2.heap.FunFrames X.base l:=by
  intro l
  induction l with
  | nil=>intro _ _;trivial
  | cons env r ih=>
   intro hs hl
   obtain ⟨hk,⟨L,o,hf,hn,ho,hd⟩,hr⟩:=hl
   have hL:L∈frs X.stack:=hs L (by unfold frs;rw [List.filterMap_cons,hf];exact List.mem_cons_self)
   obtain ⟨sl,e⟩:=un.slot L o ho (I.stkFree L hL) hL (by simp)
   exact ⟨hk,⟨L,_,hf,hn,e,hd⟩,ih (fun b hb=>hs b (by unfold frs;rw [List.filterMap_cons,hf];exact List.mem_cons_of_mem _ hb)) hr⟩
 exact all X.stack (fun _ hb=>hb) I.stack
theorem z8o (I:Inv X pins U H1 s1) (hst:X.stack=X.env::X.outer) (hex:X.ex=[]) (hos:s2.os=s1.os) (hbare:AllBare s2.gens) (un:Un (frs X.stack) [] H1 H2 s1.heap s2.heap) (hok:HOk X.prog X.w H2 s2.heap)
  (hZ:∀b∈Z,s1.heap.get? b=none/\H2 b=none) (ha:s1.heap.get? a=none) (hHa:H2 a=none) (keep:∀b o,s2.heap.get? b=some o->b∉Z->b∉frs X.stack->h'.get? b=some o)
  (up:s2.heap.UpToSlots h') (hB:∀b,B.get? b=none->b∈frs X.stack\/(s1.heap.get? b=none/\H2 b=none)) (hfl:Heap.FlyingW B X.outer a (.ref C) a0 h') (hdc:z3c a od h') (hnd:∀dx,od=some dx->s1.heap.get? dx=none) :
  XOut X.prog X.w X.outer X.H₀ X.s₀ C a od H2 { s2 with heap:=h' }:=by
 have base:Un X.fs [] X.H₀ H1 X.s₀.heap s1.heap:=hex ▸ I.base
 have F2:=I.stack2 un
 have sub:∀b∈frs X.outer,b∈frs X.stack:=fun b hb=>by
  rw [hst];unfold frs
  cases q:X.env.frame with
  | none=>rw [List.filterMap_cons,q];exact hb
  | some L=>rw [List.filterMap_cons,q];exact List.mem_cons_of_mem _ hb
 have neL:∀b o,X.s₀.heap.get? b=some o->b≠X.env.locals:=fun b o e=>Nat.ne_of_lt (Nat.lt_of_lt_of_le (Heap.lt_size e) I.ok.above)
 have nost:∀b o,X.s₀.heap.get? b=some o->b∉frs X.outer->b∉frs X.stack:=fun b o e hb z=>(List.mem_cons.mp (I.stkSub b z)).elim (neL b o e) hb
 have fresh0:∀b,s1.heap.get? b=none->X.s₀.heap.get? b=none:=fun b e=>by
  cases q:X.s₀.heap.get? b with
  | none=>rfl
  | some o=>
   obtain ⟨o',z⟩:=base.there b o q (by simp)
   rw [e] at z;cases z
 have noZ:∀b o,X.s₀.heap.get? b=some o->b∉Z:=fun b o e hb=>by
  rw [fresh0 b (hZ b hb).1] at e;cases e
 have frFree:∀b∈frs X.stack,H2 b=none:=fun b hb=>by
  obtain ⟨_,o,ho,_⟩:=I.stack.mem hb
  exact un.free b o ho (I.stkFree b hb) (by simp)
 have slotF:∀b∈frs X.stack,∀o,s2.heap.get? b=some o->∃sl,h'.get? b=some { o with slots:=sl }:=fun b hb o e=>by
  obtain ⟨_,o',ho',hd⟩:=F2.mem hb
  rw [e] at ho';cases ho'
  exact up b o e hd
 refine ⟨by show s2.os=_;rw [hos,I.os],hbare,⟨fun b o e n hb _=>?_,fun b o e n hb _=>?_,fun b o e n _=>?_,fun b o e _=>?_,fun b xs e=>un.tups b xs (base.tups b xs e),fun b o u e=>un.frzs b o u (base.frzs b o u e),fun b ps e=>?_⟩,fun b o e=>?_,?_⟩
 . exact keep b o (un.keep b o (base.keep b o e n hb (by simp)) (base.free b o e n (by simp)) (nost b o e hb) (by simp)) (noZ b o e) (nost b o e hb)
 . obtain ⟨sl,e1⟩:=base.slot b o e n hb (by simp)
   obtain ⟨sl2,e2⟩:=un.slot b _ e1 (base.free b o e n (by simp)) (sub b hb) (by simp)
   obtain ⟨sl3,e3⟩:=slotF b (sub b hb) _ e2
   exact ⟨sl3,e3⟩
 . obtain ⟨o1,e1⟩:=base.there b o e (by simp)
   exact un.free b o1 e1 (base.free b o e n (by simp)) (by simp)
 . obtain ⟨o1,e1⟩:=base.there b o e (by simp)
   obtain ⟨o2,e2⟩:=un.there b o1 e1 (by simp)
   by_cases hb:b∈frs X.stack
   . obtain ⟨sl,e3⟩:=slotF b hb _ e2
     exact ⟨_,e3⟩
   . exact ⟨o2,keep b o2 e2 (noZ b o e) hb⟩
 . obtain ⟨m1,e1⟩:=base.tbls b ps e
   obtain ⟨m2,e2⟩:=un.tbls b _ e1
   exact ⟨m1++m2,by rw [e2,Array.append_assoc]⟩
 . refine (hok b o e).stay (fun c v hc q=>keep c v q (fun hz=>?_) fun hf=>?_) (fun _ q=>q) fun _ _ q=>q
   . have:=(hZ c hz).2
     rcases hc with rfl | hc
     . rw [e] at this;cases this
     . rw [hc] at this;cases this
   . have:=frFree c hf
     rcases hc with rfl | hc
     . rw [e] at this;cases this
     . rw [hc] at this;cases this
 . obtain ⟨_,_,_,oe,vs,T,oT,ts,he,⟨hc,h0⟩,hd,h1,hnT,hTe,hT,hdT,h3⟩:=hfl
   have hTn:s1.heap.get? T=none/\H2 T=none:=by
    rcases hB T hnT with z | z
    . obtain ⟨_,o',ho',hd'⟩:=F2.mem z
      obtain ⟨sl,e3⟩:=slotF T z o' ho'
      rw [hT] at e3;cases e3
      exact absurd hdT (hd' ts)
    . exact z
   exact ⟨oe,vs,T,oT,ts,a0,he,hc,h0,hd,h1,hTe,hT,hdT,h3,fresh0 a ha,fresh0 T hTn.1,hHa,hTn.2,hdc _ he,fun dx e=>fresh0 dx (hnd dx e)⟩
theorem zjw (I:Inv X pins U H1 s1) (hst:X.stack=X.env::X.outer) (hex:X.ex=[]) (hf:X.env.frame=some X.env.locals) (x:XOut X.prog X.w X.stack H1 s1 C a od H2 s2) {E:Value->Shared->Prop} {Q:Unit->Shared->Prop}
  (h:∀s',XOut X.prog X.w X.outer X.H₀ X.s₀ C a od H2 s'->Q () s'):wpAny (model X.prog X.w) X.A (leaving X.env (.ref a)) Q E s2:=by
 obtain ⟨oe,vs,T,oT,ts,a0,he,hc,h0,hd,h1,hTe,hT,hdT,h3,na,nT,ha,hHT,hod,hnd⟩:=id x.fly
 have F2:=I.stack2 x.un
 have hin:∀env∈X.stack,∀b,env.frame=some b->b∈a::T::frs X.stack:=fun env he b hb=>List.mem_cons_of_mem _ (List.mem_cons_of_mem _ (List.mem_filterMap.mpr ⟨env,he,hb⟩))
 have hfr:X.A.frames=some (X.env::X.outer):=by rw [<-hst];exact I.ok.frames
 refine zjv (od:=od) (base:=hideAll s2.heap (a::T::frs X.stack)) (cls:=.ref C) (a0:=a0) hfr hf ⟨fun b o q=>of_hideAll _ q,hideAll_none _ (.head _),hst ▸ PySem.W.funFrames_hide F2 hin,?_⟩ (fun o ho=>by rw [he] at ho;cases ho;exact hod) fun h' hfl up hdc=>h _ (z8o (Z:=[a,T]) I hst hex x.os x.bare x.un x.hok (fun b hb=>?_) na ha (fun b o q hz hfs=>hfl.1 b o (hideAll_get _ q ?_)) up (fun b q=>?_) hfl hdc hnd)
 . exact ⟨oe,vs,T,oT,ts,he,⟨hc,h0⟩,hd,h1,hideAll_none _ (.tail _ (.head _)),hTe,hT,hdT,h3⟩
 . rcases List.mem_cons.mp hb with rfl | hb
   . exact ⟨na,ha⟩
   . have:b=T:=by simpa using hb
     subst this;exact ⟨nT,hHT⟩
 . intro z
   rcases List.mem_cons.mp z with rfl | z
   . exact hz (.head _)
   . rcases List.mem_cons.mp z with rfl | z
     . exact hz (.tail _ (.head _))
     . exact hfs z
 . rcases zax q with z | z
   . rcases List.mem_cons.mp z with rfl | z
     . exact .inr ⟨na,ha⟩
     . rcases List.mem_cons.mp z with rfl | z
       . exact .inr ⟨nT,hHT⟩
       . exact .inl z
   . refine .inr ⟨?_,x.hok.none z⟩
     cases q1:s1.heap.get? b with
     | none=>rfl
     | some o=>
      obtain ⟨o',e'⟩:=x.un.there b o q1 (by simp)
      rw [z] at e';cases e'
structure MadeX (h h':Heap) (e C:Addr) (od:Option Addr):Prop where
 new:h.get? e=none
 newd:∀dx,od=some dx->h.get? dx=none
 there:∃oe vs a0,h'.get? e=some oe/\oe.cls=.ref C/\oe.dict=od/\oe.data=.fields vs/\vs[0]?=some a0/\vs[1]?=some .none
theorem MadeX.of {h h':Heap} {e C:Addr} {args:List Value} (x:Heap.MadeExcOf h h' e (.ref C) args):MadeX h h' e C none:=by
 obtain ⟨t,he,_,_⟩:=x.there
 exact ⟨x.new,(fun _ z=>nomatch z),_,_,_,he,rfl,rfl,rfl,rfl,rfl⟩
theorem zev (I:Inv X pins U H1 s1) (hst:X.stack=X.env::X.outer) (hex:X.ex=[]) (hf:X.env.frame=some X.env.locals) (hx:MadeX s1.heap s2.heap a C od) (hok:HOk X.prog X.w H2 s2.heap) (un:Un (frs X.stack) [] H1 H2 s1.heap s2.heap) (hHa:H2 a=none) (hos:s2.os=s1.os) (hbare:AllBare s2.gens) {E:Value->Shared->Prop} {Q:Unit->Shared->Prop}
  (h:∀s',XOut X.prog X.w X.outer X.H₀ X.s₀ C a od H2 s'->Q () s'):wpAny (model X.prog X.w) X.A (leaving X.env (.ref a)) Q E s2:=by
 have hin:∀env∈X.stack,∀b,env.frame=some b->b∈a::frs X.stack:=fun env he b hb=>List.mem_cons_of_mem _ (List.mem_filterMap.mpr ⟨env,he,hb⟩)
 have hfr:X.A.frames=some (X.env::X.outer):=by rw [<-hst];exact I.ok.frames
 have F2:=I.stack2 un
 obtain ⟨oe,vs,a0,he,hc,hod,hd,h0,h1⟩:=hx.there
 refine zo1 (od:=od) (base:=hideAll s2.heap (a::frs X.stack)) hfr (hst ▸ PySem.W.funFrames_hide F2 hin) hf he (fun b o q=>of_hideAll _ q) (hideAll_none _ (.head _)) hd h1 h0 (fun o ho=>by rw [he] at ho;cases ho;exact hod) fun h' hfl up hdc=>h _ ?_
 rw [hc] at hfl
 refine z8o (B:=hideAll s2.heap (a::frs X.stack)) (Z:=[a]) I hst hex hos hbare un hok (fun b hb=>?_) hx.new hHa (fun b o q hz hfs=>hfl.1 b o (hideAll_get _ q ?_)) up (fun b q=>?_) hfl hdc hx.newd
 . obtain rfl:b=a:=by simpa using hb
   exact ⟨hx.new,hHa⟩
 . intro z
   rcases List.mem_cons.mp z with rfl | z
   . exact hz (.head _)
   . exact hfs z
 . rcases zax q with z | z
   . rcases List.mem_cons.mp z with rfl | z
     . exact .inr ⟨hx.new,hHa⟩
     . exact .inl z
   . refine .inr ⟨?_,hok.none z⟩
     cases q1:s1.heap.get? b with
     | none=>rfl
     | some o=>
      obtain ⟨o',e'⟩:=un.there b o q1 (by simp)
      rw [z] at e';cases e'
end
noncomputable def eOf (K:Frag) (EX:XW) (mg:Str->Option Value):XK:=fun cv od H=>∃x:Ex,EX.p x H/\mg (x.cls:Str)=some cv/\XFs K x od H
structure Lnd (X:Cx) (EX:XW):Prop where
 nm:∀x H,EX.p x H->∃C,X.mg (x.cls:Str)=some (.ref C)
 on:zdc (CX1 X.prog X.w) X (eOf X.K EX X.mg)
 md:∀(pins:List (Addr×Obj)) (U:St) (H H2:Hp) (s:Shared) (a C:Addr) (od:Option Addr) (s':Shared) (x:Ex),Inv X pins U H s->MadeX s.heap s'.heap a C od->HOk X.prog X.w H2 s'.heap->Un (frs X.stack) [] H H2 s.heap s'.heap->H2 a=none->s'.os=s.os->AllBare s'.gens->X.mg (x.cls:Str)=some (.ref C)->EX.p x H2->XFs X.K x od H2->X.xe (.ref a) s'
theorem zy5 {X:Cx}:Lnd X F0:=⟨fun _ _ z=>z.elim,fun _ _ _ _ _ _ _ ⟨_,_,_,_,_,_,_,z,_⟩=>z.elim,fun _ _ _ _ _ _ _ _ _ _ _ _ _ _ _ _ _ _ z _=>z.elim⟩
theorem z3s {P:Program} {w:World} {K:Frag} {mg:Str->Option Value} {base:Heap} {N:List Str} {qual:Str} {sc:Scope} {f:Addr} {cdv:Value} {A:Around} {outer:List Env} {s:Shared} {H:Hp} {E:XK} :
  Lnd (zj7 (CX1 P w) P w K mg base N qual sc f cdv A outer s H E) ⟨H,xNm K mg E⟩:=by
 refine ⟨fun x H ⟨C,hC,_⟩=>⟨C,hC⟩,?_,?_⟩
 . rintro pins U H1 s1 e s' I ⟨C,a,od,H',rfl,xo,x,⟨C',hC',hE⟩,hmg,hx⟩
   have hmg:mg (x.cls:Str)=some (.ref C):=hmg
   rw [hC'] at hmg
   cases hmg
   exact zjw I rfl rfl rfl xo fun s'' y=>⟨_,a,od,H',rfl,y,hE od hx⟩
 . rintro pins U H1 H2 s1 a C od s' x I hx hok un hHa ho hb hmg ⟨C',hC',hE⟩ hf
   have hmg:mg (x.cls:Str)=some (.ref C):=hmg
   rw [hC'] at hmg
   cases hmg
   exact zev I rfl rfl rfl hx hok un hHa ho hb fun s'' y=>⟨_,a,od,H2,rfl,y,hE od hf⟩
def z4f (P:Program) (w:World) (K:Frag) (mg:Str->Option Value) (base:Heap) (x:Str) (ps:List Str) (k:Nat) (sp:Sp):Prop:=
 ∃f fd,FnOk P w K mg base (CX1 P w) k f fd ps sp/\Binds K fd ps []/\mg x=some (.ref f)/\keepIn K (.ref f)=true
section
variable {X:Cx} {x:Str} {p pos:Pos} {e:Expr} {es:List Expr} {t:TA} {ps:List Str} {k j:Nat} {sp:Sp} {E:XK}
theorem zgv (G:z4f X.prog X.w X.K X.mg X.base x ps k sp) (hx:zdc (CX1 X.prog X.w) X E) (hr:Room j X.A) (hg:Gl X x) (ha:PA X (e::es) t) (hkj:k<=j:=by omega) (hdb:(x==("__debug__":Str))=false:=by decide)
  (he:starEach (e::es) X.env=(false,eval e X.env)::starEach es X.env:=by rfl) (hpl:(backTo pos (starEach es X.env)).any (·.1)=false:=by rfl):PE X (.Call (.Name x p) (e::es) [] pos) (zgr sp E t):=by
 obtain ⟨f,fd,F,b,m,kp⟩:=G
 refine (zn9 F (hr.mono hkj) hg m kp b .nil hx ha hdb he hpl).imp fun U H Q q=>?_
 unfold zr9
 unfold zgr at q
 simpa only [List.append_nil] using q
end
theorem Fun.okX {P:Program} {w:World} {K:Frag} {mg:Str->Option Value} {base:Heap} {x qual:Str} {st:Stmt} {f:Addr} {fd:FuncData} {N ps:List Str} {k:Nat} {sp:Sp} {CX:CXT} (F:Fun K x qual st f fd) (S:FnScope N ps (z03 st)) (len:∀vs H Q E,sp vs H Q E->vs.length=ps.length)
  (hbody:∀(cdv:Value) (A:Around) (outer:List Env) (s:Shared) (H:Hp) (vs:List V) (Q:VK) (E:XK),Room k (A.deeper (envOfC qual (z03 st) s.heap.objs.size f cdv))->sp vs H Q E ->
   ∃t,PSs (zj7 CX P w K mg base N qual (z03 st) f cdv A outer s H E) (z24 st) t/\t { nx:=fun _ H'=>Q .non H',rt:=Q } (z6z N vs) H):FnOk P w K mg base CX (k+1) f fd ps sp:=by
 obtain ⟨oc,od,kV,doc,pm,an,cdv,ct,osl,rfl,lk,hcd⟩:=F.ex
 refine zrb lk hcd S len fun A outer s H vs Q E hr hsp=>?_
 exact hbody cdv A outer s H vs Q E hr hsp
section
variable {K:Frag} {H:Hp} {v:V}
theorem RD.int {i:Int} (h:RD K H (.int i) v):v=.int i:=by simpa only [RD] using h
theorem RD.str {i:Str} (h:RD K H (.str i) v):v=.str i:=by simpa only [RD] using h
theorem RD.non (h:RD K H .non v):v=.non:=by simpa only [RD] using h
theorem RD.tup {ds:List D} (h:RD K H (.tup ds) v):∃a xs,v=.ref a/\H a=some (.tup xs)/\RDs K H ds xs:=by simpa only [RD] using h
theorem RD.lst {ds:List D} (h:RD K H (.lst ds) v):∃a xs,v=.ref a/\H a=some (.lst xs)/\RDs K H ds xs:=by simpa only [RD] using h
theorem RD.dk {ks:List Key} {ds:List D} (h:RD K H (.dk ks ds) v):∃a xs,v=.ref a/\H a=some (.dK (ks.zip xs))/\ks.length=xs.length/\RDs K H ds xs:=by simpa only [RD] using h
theorem RD.dt {ks:List (List Key)} {ds:List D} (h:RD K H (.dt ks ds) v):∃a xs,v=.ref a/\H a=some (.dT (ks.zip xs))/\ks.length=xs.length/\RDs K H ds xs:=by simpa only [RD] using h
theorem RD.scr {ns:List Int} (h:RD K H (.scr ns) v):∃a,v=.ref a/\SqL K H a (ns.map V.int):=by
 simp only [RD] at h
 obtain ⟨a,e,h | h⟩:=h
 . exact ⟨a,e,.inl (.inr h)⟩
 . exact ⟨a,e,.inr h⟩
theorem RD.mkInt (i:Int):RD K H (.int i) (.int i):=by simp only [RD]
theorem RD.mkBl (i:Bool):RD K H (.bl i) (.bl i):=by simp only [RD]
theorem RD.mkNon:RD K H .non .non:=by simp only [RD]
theorem RD.mkStr (i:Str):RD K H (.str i) (.str i):=by simp only [RD]
theorem RD.mkTup {a:Addr} {xs:List V} {ds:List D} (h:H a=some (.tup xs)) (r:RDs K H ds xs):RD K H (.tup ds) (.ref a):=by simp only [RD];exact ⟨a,xs,rfl,h,r⟩
end
noncomputable def dI (g:Int->Int->D):D->D->Option D
 | .int i,.int j=>some (g i j)
 | _,_=>none
noncomputable def dIC (C:Int->Int->Prop) [∀i j,Decidable (C i j)] (g:Int->Int->D):D->D->Option D
 | .int i,.int j=>if C i j then some (g i j) else none
 | _,_=>none
noncomputable def dOr (o p:D->D->Option D):D->D->Option D:=fun d e=>match o d e with
 | some z=>some z
 | none=>p d e
section
variable {K:Frag}
theorem OpD.weak {fr:Bool} {o:D->D->Option D} {r:R2} (h:OpD K fr o r):OpD K false o r:=fun H0 H x y d e z Q s rx ry ho k=>h H0 H x y d e z Q s rx ry ho fun v H' q=>k v H' q.weak
theorem OpD.or {f1 f2:Bool} {o p:D->D->Option D} {r q:R2} (h1:OpD K f1 o r) (h2:OpD K f2 p q):OpD K false (dOr o p) (fun x y H Q=>r x y H Q\/q x y H Q):=by
 intro H0 H x y d e z Q s rx ry ho k
 unfold dOr at ho
 split at ho
 . rename_i z' hz
   cases ho
   exact .inl (h1.weak H0 H x y d e z Q s rx ry hz k)
 . exact .inr (h2.weak H0 H x y d e z Q s rx ry ho k)
theorem zqi {gv:Int->Int->V} {gd:Int->Int->D} (h:∀i j H,RD K H (gd i j) (gv i j)):OpD K false (dI gd) (cI gv):=by
 intro H0 H x y d e z Q s rx ry ho k
 cases d<;>simp only [dI] at ho<;>first | cases ho | skip
 cases e<;>simp only [dI] at ho<;>first | cases ho | skip
 cases rx.int;cases ry.int
 exact k _ H (.pure s (h _ _ _))
theorem zew {C:Int->Int->Prop} [∀i j,Decidable (C i j)] {gv:Int->Int->V} {gd:Int->Int->D} (h:∀i j H,RD K H (gd i j) (gv i j)):OpD K false (dIC C gd) (cIC C gv):=by
 intro H0 H x y d e z Q s rx ry ho k
 cases d<;>simp only [dIC] at ho<;>first | cases ho | skip
 cases e<;>simp only [dIC] at ho<;>first | cases ho | skip
 cases rx.int;cases ry.int
 split at ho
 . rename_i hcc
   cases ho
   exact ⟨hcc,k _ H (.pure s (h _ _ _))⟩
 . cases ho
instance (i j:Int):Decidable (CMul i j):=by unfold CMul;infer_instance
instance (i j:Int):Decidable (zn4 i j):=by unfold zn4;infer_instance
instance (i j:Int):Decidable (zn5 i j):=by unfold zn5;infer_instance
noncomputable def z2y:D->D->Option D:=dI fun i j=>.int (i+j)
noncomputable def z5j:D->D->Option D:=dI fun i j=>.int (i - j)
noncomputable def zo2:D->D->Option D:=dIC CMul fun i j=>.int (i * j)
noncomputable def zsk:D->D->Option D:=dIC zn4 fun i j=>.int (i / j)
noncomputable def zgw:D->D->Option D:=dIC (fun _ j=>0<j) fun i j=>.int (i % j)
noncomputable def zsl:D->D->Option D:=dIC zn5 fun i j=>.int (i ^ j.toNat)
noncomputable def zfi:D->D->Option D:=dI fun i j=>.bl (decide (i<j))
noncomputable def dLe:D->D->Option D:=dI fun i j=>.bl (decide (i<=j))
noncomputable def zqj:D->D->Option D:=dI fun i j=>.bl (decide (j<i))
noncomputable def dGe:D->D->Option D:=dI fun i j=>.bl (decide (j<=i))
theorem z0y:OpD K false z2y (cI fun i j=>.int (i+j)):=zqi fun _ _ _=>.mkInt _
theorem z10:OpD K false z5j (cI fun i j=>.int (i - j)):=zqi fun _ _ _=>.mkInt _
theorem zll:OpD K false zo2 (cIC CMul fun i j=>.int (i * j)):=zew fun _ _ _=>.mkInt _
theorem zsm:OpD K false zsk (cIC zn4 fun i j=>.int (i / j)):=zew fun _ _ _=>.mkInt _
theorem z8p:OpD K false zgw (cIC (fun _ j=>0<j) fun i j=>.int (i % j)):=zew fun _ _ _=>.mkInt _
theorem zsn:OpD K false zsl (cIC zn5 fun i j=>.int (i ^ j.toNat)):=zew fun _ _ _=>.mkInt _
theorem z4j:OpD K false zfi (cI fun i j=>.bl (decide (i<j))):=zqi fun _ _ _=>.mkBl _
theorem zay:OpD K false dLe (cI fun i j=>.bl (decide (i<=j))):=zqi fun _ _ _=>.mkBl _
theorem zdp:OpD K false zqj (cI fun i j=>.bl (decide (j<i))):=zqi fun _ _ _=>.mkBl _
theorem zso:OpD K false dGe (cI fun i j=>.bl (decide (j<=i))):=zqi fun _ _ _=>.mkBl _
noncomputable def zlm:D->Option D
 | .int i=>some (.int (-i))
 | _=>none
theorem zdq:UnD K false zlm (cU fun i=>.int (-i)):=by
 intro H0 H x d z Q s rx ho k
 cases d<;>simp only [zlm] at ho<;>first | cases ho | skip
 cases rx.int
 exact k _ H (.pure s (.mkInt _))
noncomputable def zaz:D->D->Option D
 | .lst ds,.lst es=>if ds.length+es.length<=100000 then some (.lst (ds++es)) else none
 | _,_=>none
theorem zwo {n:Nat} (h:n<=100000):n<=sizeLine:=Nat.le_trans h (by decide)
theorem z8q:OpD K true zaz y09:=by
 intro H0 H x y d e z Q s rx ry ho k
 cases d<;>simp only [zaz] at ho<;>first | cases ho | skip
 cases e<;>simp only [zaz] at ho<;>first | cases ho | skip
 split at ho<;>cases ho
 rename_i hl
 obtain ⟨a,xs,rfl,ha,ra⟩:=rx.lst
 obtain ⟨b,ys,rfl,hb,rb⟩:=ry.lst
 refine ⟨a,b,xs,ys,rfl,rfl,s _ _ ha,s _ _ hb,by rw [<-ra.length,<-rb.length];exact zwo hl,fun p hp=>k _ _ (.new s hp fun H' hH=>?_)⟩
 simp only [OB]
 exact ⟨_,hH,ra.append rb⟩
end
noncomputable def dEq:D->D->Option D:=fun d e=>if d.pl=true/\e.pl=true/\d.dep<=20 then some (.bl (eqD d e)) else none
noncomputable def dNe:D->D->Option D:=fun d e=>if d.pl=true/\e.pl=true/\d.dep<=20 then some (.bl (!eqD d e)) else none
noncomputable def y0j (K:Frag):R2:=fun x y H Q=>∃d e,RD K H d x/\RD K H e y/\d.pl=true/\e.pl=true/\d.dep<=20/\Q (.bl (eqD d e)) H
noncomputable def y0k (K:Frag):R2:=fun x y H Q=>∃d e,RD K H d x/\RD K H e y/\d.pl=true/\e.pl=true/\d.dep<=20/\Q (.bl (!eqD d e)) H
noncomputable def zwp (neg:Bool):D->D->Option D:=fun d c=>match c with
 | .lst es=>if d.pl=true/\pls es=true/\z4e es<=20 then some (.bl (if neg then !(es.any fun e=>eqD e d) else es.any fun e=>eqD e d)) else none
 | .tup es=>if d.pl=true/\pls es=true/\z4e es<=20 then some (.bl (if neg then !(es.any fun e=>eqD e d) else es.any fun e=>eqD e d)) else none
 | _=>none
noncomputable def zy6 (K:Frag) (neg:Bool):R2:=fun x y H Q=>∃p xs d es,y=.ref p/\(H p=some (.lst xs)\/H p=some (.tup xs))/\RD K H d x/\RDs K H es xs/\d.pl=true/\pls es=true/\z4e es<=20/\Q (.bl (if neg then !(es.any fun e=>eqD e d) else es.any fun e=>eqD e d)) H
section
variable {X:Cx} {K:Frag}
theorem z9i (hu:X.A.units+64<cLine):OpR X (compareOp .Eq) (y0j X.K):=by
 intro pins s U H x y v u Q I rx ry h
 obtain ⟨d,e,h1,h2,p1,p2,h3,q⟩:=h
 exact (zlh (n:=20) I p1 p2 h3 (by lia) h1 h2 rx ry).1 X.prog X.w X.xe _ ⟨.bl _,H,I,rfl,q⟩
theorem zsp (hu:X.A.units+64<cLine):OpR X (compareOp .NotEq) (y0k X.K):=by
 intro pins s U H x y v u Q I rx ry h
 obtain ⟨d,e,h1,h2,p1,p2,h3,q⟩:=h
 exact (zlh (n:=20) I p1 p2 h3 (by lia) h1 h2 rx ry).2 X.prog X.w X.xe _ ⟨.bl _,H,I,rfl,q⟩
theorem z9j:OpD K false dEq (y0j K):=by
 intro H0 H x y d e z Q s rx ry ho k
 unfold dEq at ho
 split at ho<;>cases ho
 rename_i h
 exact ⟨d,e,rx.mono s,ry.mono s,h.1,h.2.1,h.2.2,k _ H (.pure s (.mkBl _))⟩
theorem zsq:OpD K false dNe (y0k K):=by
 intro H0 H x y d e z Q s rx ry ho k
 unfold dNe at ho
 split at ho<;>cases ho
 rename_i h
 exact ⟨d,e,rx.mono s,ry.mono s,h.1,h.2.1,h.2.2,k _ H (.pure s (.mkBl _))⟩
theorem zjx (hu:X.A.units+64<cLine):OpR X (compareOp .NotIn) (zy6 X.K true):=by
 intro pins s U H x y v u Q I rx ry h
 obtain ⟨p,xs,d,es,rfl,hp,hx,hes,pd,pe,hd,q⟩:=h
 cases ry
 rcases hp with hq | hq
 . obtain ⟨its,rv,pl,_⟩:=I.list (.of hq)
   refine SeqAt.notIn_listAt (hitD X.K H d) pl.isList (fun y hy=>zc6 (A:=X.A) I (by lia) pd hx rx pe hes rv hd y (by simpa using hy)) ⟨.bl _,H,I,rfl,?_⟩
   rw [show its.toArray.any (hitD X.K H d)=its.any (hitD X.K H d) by simp,z99 pe hes rv]
   simpa using q
 . obtain ⟨its,rv,pl,_⟩:=I.tuple (.of hq)
   refine SeqAt.notIn_tupleAt (hitD X.K H d) pl (fun y hy=>zc6 (A:=X.A) I (by lia) pd hx rx pe hes rv hd y (by simpa using hy)) ⟨.bl _,H,I,rfl,?_⟩
   rw [show its.toArray.any (hitD X.K H d)=its.any (hitD X.K H d) by simp,z99 pe hes rv]
   simpa using q
theorem od_inS {neg:Bool}:OpD K false (zwp neg) (zy6 K neg):=by
 intro H0 H x y d e z Q s rx ry ho k
 unfold zwp at ho
 cases e<;>dsimp only at ho<;>first | cases ho | skip
 . split at ho<;>cases ho
   rename_i es h
   obtain ⟨a,xs,rfl,ha,ra⟩:=ry.tup
   exact ⟨a,xs,d,es,rfl,.inr (s _ _ ha),rx.mono s,ra.mono s,h.1,h.2.1,h.2.2,k _ H (.pure s (.mkBl _))⟩
 . split at ho<;>cases ho
   rename_i es h
   obtain ⟨a,xs,rfl,ha,ra⟩:=ry.lst
   exact ⟨a,xs,d,es,rfl,.inl (s _ _ ha),rx.mono s,ra.mono s,h.1,h.2.1,h.2.2,k _ H (.pure s (.mkBl _))⟩
end
noncomputable def zsr:D->Option Key
 | .int i=>some (.inl i)
 | .str x=>some (.inr x)
 | _=>none
noncomputable def zex:List D->Option (List Key)
 | []=>some []
 | d::ds=>match zsr d,zex ds with
  | some k,some ks=>some (k::ks)
  | _,_=>none
theorem zgx {K:Frag} {H:Hp} {d:D} {k:Key} {v:V} (h:zsr d=some k) (r:RD K H d v):v=kV k:=by
 cases d<;>simp only [zsr] at h<;>first | cases h | skip
 . cases r.int;rfl
 . cases r.str;rfl
theorem zdr {K:Frag} {H:Hp}:∀{ds:List D} {ks:List Key} {xs:List V},zex ds=some ks->RDs K H ds xs->xs=ks.map kV
 | [],ks,xs,h,r=>by
  simp only [zex] at h;cases h
  simp only [RDs] at r;subst r;rfl
 | d::ds,ks,xs,h,r=>by
  simp only [RDs] at r
  obtain ⟨x,xs,rfl,r1,r2⟩:=r
  simp only [zex] at h
  split at h<;>cases h
  rename_i k ks h1 h2
  rw [zgx h1 r1,zdr h2 r2];rfl
def ROp (K:Frag) (H:Hp):Option D->Option V->Prop
 | some z,w=>∃v,w=some v/\RD K H z v
 | none,w=>w=none
section
variable {κ:Type} [DecidableEq κ]
noncomputable def zcc (ks:List κ) (ds:List D) (k:κ):Option D:=((ks.zip ds).find? fun kv=>decide (kv.1=k)).map (·.2)
theorem zcd {K:Frag} {H:Hp} (k:κ):∀{ks:List κ} {ds:List D} {xs:List V},ks.length=xs.length->RDs K H ds xs->ROp K H (zcc ks ds k) (zde (ks.zip xs) k)
 | [],ds,xs,_,_=>by simp [zcc,zde,ROp]
 | k'::ks,[],xs,h,r=>by
  simp only [RDs] at r;subst r;simp at h
 | k'::ks,d::ds,xs,h,r=>by
  simp only [RDs] at r
  obtain ⟨x,xs,rfl,r1,r2⟩:=r
  have ih:=zcd k (by simpa using h) r2 (ks:=ks)
  simp only [zcc,zde,List.zip_cons_cons,List.find?_cons] at ih ⊢
  by_cases e:k'=k
  . simp only [e,decide_true]
    exact ⟨x,rfl,r1⟩
  . simp only [e,decide_false]
    exact ih
end
noncomputable def zce:D->D->Option (Option D)
 | .dk ks ds,k=>(zsr k).map fun k=>zcc ks ds k
 | .dt ks ds,.tup es=>(zex es).map fun k=>zcc ks ds k
 | _,_=>none
theorem zgy {K:Frag} {H:Hp} {d k:D} {x y:V} {o:Option D} (h:zce d k=some o) (rx:RD K H d x) (ry:RD K H k y) :
  ∃a w,x=.ref a/\DGet H a y w/\ROp K H o w:=by
 cases d<;>simp only [zce] at h<;>first | cases h | skip
 . rename_i ks ds
   obtain ⟨a,xs,rfl,ha,hl,rs⟩:=rx.dk
   cases hk:zsr k with
   | none=>rw [hk] at h;cases h
   | some k'=>
    rw [hk] at h
    have h:zcc ks ds k'=o:=by simpa using h
    subst h
    cases zgx hk ry
    exact ⟨a,_,rfl,DGet.k ha,zcd k' hl rs⟩
 . rename_i ks ds
   cases k<;>simp only [zce] at h<;>first | cases h | skip
   rename_i es
   obtain ⟨a,xs,rfl,ha,hl,rs⟩:=rx.dt
   obtain ⟨b,ys,rfl,hb,rb⟩:=ry.tup
   cases hk:zex es with
   | none=>rw [hk] at h;cases h
   | some k'=>
    rw [hk] at h
    have h:zcc ks ds k'=o:=by simpa using h
    subst h
    have e:=zdr hk rb
    subst e
    exact ⟨a,_,rfl,DGet.t ha hb,zcd k' hl rs⟩
noncomputable def zy7 (neg:Bool):D->D->Option D:=fun k d=>(zce d k).map fun o=>.bl (if neg then !o.isSome else o.isSome)
noncomputable def zy8 (neg:Bool):R2:=fun y x H Q=>∃a w,x=.ref a/\DGet H a y w/\Q (.bl (if neg then !w.isSome else w.isSome)) H
noncomputable def zy9:D->D->Option D:=fun d k=>(zce d k).bind id
noncomputable def zya:R2:=fun x y H Q=>∃a w,x=.ref a/\DGet H a y (some w)/\Q w H
noncomputable def zcf:D->D->Option D
 | .lst ds,.int i=>atI ds i
 | .tup ds,.int i=>atI ds i
 | .scr ns,.int i=>(atI ns i).map D.int
 | .str z,.int i=>if z.length<=100000 then (atI z.cps.toList i).map fun c=>D.str ⟨#[c]⟩ else none
 | _,_=>none
theorem RDs.atI {K:Frag} {H:Hp} {ds:List D} {xs:List V} {i:Int} {d:D} (r:RDs K H ds xs) (h:L2.atI ds i=some d):∃v,L2.atI xs i=some v/\RD K H d v:=by
 unfold L2.atI at h ⊢
 rw [<-r.length]
 cases q:ixN ds.length i with
 | none=>rw [q] at h;cases h
 | some j=>
  rw [q] at h
  exact r.get' h
theorem zo3 {α β:Type} (f:α->β) (xs:List α) (i:Int):atI (xs.map f) i=(atI xs i).map f:=by
 unfold atI
 rw [List.length_map]
 cases ixN xs.length i with
 | none=>rfl
 | some j=>simp
section
variable {X:Cx} {K:Frag}
theorem zjy (hu:X.A.units+64<cLine):OpR X (compareOp .NotIn) (zy8 true):=by
 intro pins s U H x y v u Q I rx ry h
 obtain ⟨a,w,rfl,g,q⟩:=h
 cases ry
 exact znf (by omega) I g rx fun s' I'=>⟨.bl (!w.isSome),H,I',rfl,by simpa using q⟩
theorem zss {neg:Bool}:OpD K false (zy7 neg) (zy8 neg):=by
 intro H0 H x y d e z Q s rx ry ho k
 unfold zy7 at ho
 cases ho':zce e d with
 | none=>rw [ho'] at ho;cases ho
 | some o=>
  rw [ho'] at ho;cases ho
  obtain ⟨a,w,rfl,g,m⟩:=zgy ho' (ry.mono s) (rx.mono s)
  refine ⟨a,w,rfl,g,k _ H ?_⟩
  have e:w.isSome=o.isSome:=by
   cases o with
   | none=>rw [show w=none from m];rfl
   | some z=>obtain ⟨v,e,_⟩:=m;rw [e];rfl
  rw [e]
  exact .pure s (.mkBl _)
noncomputable def dIn (neg:Bool):D->D->Option D:=dOr (zwp neg) (zy7 neg)
noncomputable def y0l (K:Frag) (neg:Bool):R2:=fun x y H Q=>zy6 K neg x y H Q\/zy8 neg x y H Q
theorem zjz (hu:X.A.units+64<cLine):OpR X (compareOp .NotIn) (y0l X.K true):=(zjx hu).or (zjy hu)
theorem zyb {neg:Bool}:OpD K false (dIn neg) (y0l K neg):=od_inS.or zss
theorem zo4 (hu:X.A.units+64<cLine):IxR X zya:=by
 intro value slice pins s U H x y v u Q I rx ry h hs
 obtain ⟨a,w,rfl,g,q⟩:=h
 cases rx
 exact tail_any (ops:=[.ref a,u]) (zc2 I g) PySem.F.slot_dict_getitem.lookup (zg2 (by lia) I g ry fun w' s3 I3 rw'=>⟨w,H,I3,rw',q⟩) hs
theorem zst:OpD K false zy9 zya:=by
 intro H0 H x y d e z Q s rx ry ho k
 unfold zy9 at ho
 cases ho':zce d e with
 | none=>rw [ho'] at ho;cases ho
 | some o=>
  rw [ho'] at ho
  have ho:o=some z:=ho
  subst ho
  obtain ⟨a,w,e0,g,m⟩:=zgy ho' rx ry
  obtain ⟨v,rfl,rv⟩:=m
  subst e0
  refine ⟨a,v,rfl,?_,k _ H (.pure s rv)⟩
  rcases g with ⟨kvs,kk,e1,e2,e3⟩ | ⟨kvs,kk,b,e1,e2,e3,e4⟩
  . refine .inl ⟨kvs,kk,?_,e2,e3⟩
    rcases e1 with e1 | ⟨o,e1⟩
    . exact .inl (s _ _ e1)
    . exact .inr ⟨o,s _ _ e1⟩
  . refine .inr ⟨kvs,kk,b,?_,e2,s _ _ e3,e4⟩
    rcases e1 with e1 | ⟨o,e1⟩
    . exact .inl (s _ _ e1)
    . exact .inr ⟨o,s _ _ e1⟩
theorem od_ixS:OpD K false zcf (rIx K):=by
 intro H0 H x y d e z Q s rx ry ho k
 cases d<;>simp only [zcf] at ho<;>first | cases ho | skip
 . -- a text
   cases e<;>simp only [zcf] at ho<;>first | cases ho | skip
   cases rx.str;cases ry.int
   split at ho
   . rename_i z' i hl
     cases hc:atI z'.cps.toList i with
     | none=>rw [hc] at ho;cases ho
     | some c=>
      rw [hc] at ho;cases ho
      exact .inr (.inr ⟨z',i,c,rfl,rfl,zwo hl,hc,k _ H (.pure s (.mkStr _))⟩)
   . cases ho
 . cases e<;>simp only [zcf] at ho<;>first | cases ho | skip
   obtain ⟨a,xs,rfl,ha,ra⟩:=rx.tup
   cases ry.int
   obtain ⟨v,hv,rv⟩:=ra.atI ho
   exact .inr (.inl ⟨a,xs,_,v,rfl,rfl,.of (s _ _ ha),hv,k _ H (.pure s rv)⟩)
 . cases e<;>simp only [zcf] at ho<;>first | cases ho | skip
   obtain ⟨a,xs,rfl,ha,ra⟩:=rx.lst
   cases ry.int
   obtain ⟨v,hv,rv⟩:=ra.atI ho
   exact .inl ⟨a,xs,_,v,rfl,rfl,.of (s _ _ ha),hv,k _ H (.pure s rv)⟩
 . cases e<;>simp only [zcf] at ho<;>first | cases ho | skip
   rename_i ns i
   cases ry.int
   obtain ⟨a,rfl,ha⟩:=(rx.mono s).scr
   cases hc:atI ns i with
   | none=>rw [hc] at ho;cases ho
   | some c=>
    rw [hc] at ho;cases ho
    exact .inl ⟨a,_,i,.int c,rfl,rfl,ha,by rw [zo3,hc];rfl,k _ H (.pure s (.mkInt _))⟩
noncomputable def dIx:D->D->Option D:=dOr zcf zy9
noncomputable def y0m (K:Frag):R2:=fun x y H Q=>rIx K x y H Q\/zya x y H Q
theorem y1f (hu:X.A.units+64<cLine):IxR X (y0m X.K):=ix_seq.or (zo4 hu)
theorem zyc:OpD K false dIx (y0m K):=od_ixS.or zst
end
structure QE (X:Cx) (EX:XW) (fr:Bool) (e:Expr) (f:DE->R D):Prop where
 h:PE X e (TEd X.K EX fr f)
structure QT (X:Cx) (EX:XW) (e:Expr) (t:DE->R Bool):Prop where
 h:PT X e (TTd X.K EX t)
structure QW (X:Cx) (EX:XW) (e:Expr) (t:DE->R Bool):Prop where
 h:PW X e (TTd X.K EX t)
structure QA (X:Cx) (EX:XW) (es:List Expr) (f:DE->R (List D)):Prop where
 h:PA X es (TAd X.K EX f)
structure QI (X:Cx) (EX:XW) (kp:Bool) (tg e:Expr) (f:DE->R (List D)):Prop where
 h:PI X tg e (TId X.K EX kp f)
structure QG (X:Cx) (tg:Expr) (t:Tg):Prop where
 h:PG X tg (TGd X.K t)
structure QGs (X:Cx) (ts:List Expr) (is:List Nat):Prop where
 h:PGs X ts (z8m is)
structure QS (X:Cx) (EX:XW) (fr:Bool) (st:Stmt) (g:DS->SR):Prop where
 h:PS X st (TSd X.K EX fr g)
structure QB (X:Cx) (EX:XW) (fr:Bool) (sts:List Stmt) (g:DS->SR):Prop where
 h:PSs X sts (TSd X.K EX fr g)
structure QC (X:Cx) (EX:XW) (ops:List CmpOp) (rs:List Expr) (g:D->DE->R D):Prop where
 h:PCh X ops rs (zsa X.K EX g)
structure QCT (X:Cx) (EX:XW) (ops:List CmpOp) (rs:List Expr) (g:D->DE->R Bool):Prop where
 h:PChT X ops rs (zgq X.K EX g)
section
variable {X:Cx} {EX:XW} {fr:Bool} {a b e:Expr} {es rest:List Expr} {fa fb:DE->R D} {fs:DE->R (List D)} {t u:DE->R Bool} {pos p:Pos} {x:Str}
theorem PA.imp {es:List Expr} {t t':TA} (h:PA X es t) (hi:∀U H Q,t' U H Q->t U H Q):PA X es t':=fun pos pins s U H Q I q=>h pos pins s U H Q I (hi U H Q q)
theorem PW.imp {e:Expr} {t t':TT} (h:PW X e t) (hi:∀U H Q,t' U H Q->t U H Q):PW X e t':=fun wh pins s U H Q I q=>h wh pins s U H Q I (hi U H Q q)
theorem PI.imp {tg e:Expr} {t t':TI} (h:PI X tg e t) (hi:∀U H Q,t' U H Q->t U H Q):PI X tg e t':=fun pins s U H Q I q=>h pins s U H Q I (hi U H Q q)
theorem PS.imp {st:Stmt} {t t':TS} (h:PS X st t) (hi:∀D U H,t' D U H->t D U H):PS X st t':=fun pins s U H D I q=>h pins s U H D I (hi D U H q)
theorem PSs.imp {st:List Stmt} {t t':TS} (h:PSs X st t) (hi:∀D U H,t' D U H->t D U H):PSs X st t':=fun pins s U H D I q=>h pins s U H D I (hi D U H q)
theorem QE.wk {f:DE->R D} (h:QE X EX true e f):QE X EX false e f:=⟨h.h.imp fun _ _ _ q=>q.weak⟩
theorem qv (i:Nat) {x:Str} {pos:Pos} (hN:X.N[i]?=some x:=by rfl) (hv:Vis X.env.scope x:=by first | exact .inl rfl | exact .inr (.inl rfl) | exact .inr (.inr rfl)) (hd:(x==("__debug__":Str))=false:=by decide)
 (hcd:(x==("__classdict__":Str))=false:=by decide):QE X EX false (.Name x pos) (z02 i):=⟨(zfq hN hv hd hcd).imp fun U H Q q=>zxn q⟩
theorem z05 {i j pos}:QE X EX false (.Constant (.int i) j pos) (eC (.int i)):=⟨pe_int.imp fun U H Q q=>z9a (fun _=>.mkInt i) q⟩
theorem zds {i j pos}:QE X EX false (.Constant (.bool i) j pos) (eC (.bl i)):=⟨pe_bl.imp fun U H Q q=>z9a (fun _=>.mkBl i) q⟩
theorem zyd {j pos}:QE X EX false (.Constant .none j pos) (eC .non):=⟨pe_non.imp fun U H Q q=>z9a (fun _=>.mkNon) q⟩
theorem zo5 {i j pos}:QE X EX false (.Constant (.str i) j pos) (eC (.str i)):=⟨pe_str.imp fun U H Q q=>z9a (fun _=>.mkStr i) q⟩
theorem z0e {op:Operator} {r:R2} {o:D->D->Option D} (ho:OpR X (binaryOp op) r) (od:OpD X.K fr o r) (ha:QE X EX false a fa) (hb:QE X EX false b fb):QE X EX fr (.BinOp a op b pos) (eOp o fa fb):=⟨(zx6 ho ha.h hb.h).imp fun _ _ _ q=>zwn od q⟩
theorem zwq {op:UnaryOp} {r:V->Hp->VK->Prop} {o:D->Option D} (ho:UnR X (unaryOp op) r) (od:UnD X.K fr o r) (ha:QE X EX false a fa):QE X EX fr (.UnaryOp op a pos) (eUn o fa):=⟨(zx7 ho ha.h).imp fun _ _ _ q=>y16 od q⟩
theorem z4u {op:CmpOp} {r:R2} {o:D->D->Option D} (ho:OpR X (compareOp op) r) (od:OpD X.K false o r) (ha:QE X EX false a fa) (hb:QE X EX false b fb) (hm:behindInMarks op b=false) :
 QE X EX false (.Compare a [op] [b] pos) (eOp o fa fb):=⟨(zn6 ho ha.h hb.h hm).imp fun _ _ _ q=>zwn od q⟩
theorem y0n {r:R2} {o:D->D->Option D} (ho:IxR X r) (od:OpD X.K false o r) (ha:QE X EX false a fa) (hb:QE X EX false b fb) (hs:zc0 b:=by exact fun _ _=>rfl):QE X EX false (.Subscript a b pos) (eOp o fa fb):=⟨(zre ho ha.h hb.h hs).imp fun _ _ _ q=>zwn od q⟩
theorem z04:QA X EX [] z0h:=⟨pa_nil.imp fun _ _ _ q=>zs7 q⟩
theorem z00 (ha:QE X EX false e fa) (hr:QA X EX es fs) (hs:starEach (e::es) X.env=(false,eval e X.env)::starEach es X.env:=by rfl):QA X EX (e::es) (z01 fa fs):=⟨(z2w ha.h hr.h hs).imp fun _ _ _ q=>zgp q⟩
theorem z4g {x1} (h:QA X EX es fs):QE X EX false (.Tuple es x1 pos) (z88 fs):=⟨(zla h.h).imp fun _ _ _ q=>zxp q⟩
theorem z3p (h:QA X EX es fs):QE X EX true (.List es pos) (z76 fs):=⟨(zr8 h.h).imp fun _ _ _ q=>zxq q⟩
theorem zcg (ha:QE X EX false a fa) (hb:QE X EX false (.BoolOp .And (b::rest) pos) fb):QE X EX false (.BoolOp .And (a::b::rest) pos) (zgo fa fb):=⟨(zni ha.h hb.h).imp fun _ _ _ q=>zxs q⟩
theorem y1g (ha:QE X EX false a fa) (hb:QE X EX false (.BoolOp .Or (b::rest) pos) fb):QE X EX false (.BoolOp .Or (a::b::rest) pos) (eOr fa fb):=⟨(zrw ha.h hb.h).imp fun _ _ _ q=>y18 q⟩
theorem zch {op} (h:QE X EX false a fa):QE X EX false (.BoolOp op [a] pos) fa:=⟨zqy h.h⟩
noncomputable def z85:D->Option Bool
 | .bl b=>some b
 | .int i=>some (i != 0)
 | .non=>some false
 | .str z=>if z.length<=100000 then some ((z.length:Int) != 0) else none
 | .lst ds=>some (!ds.isEmpty)
 | .tup ds=>some (!ds.isEmpty)
 | .dk ks _=>some (!ks.isEmpty)
 | _=>none
theorem z4v {α β:Type} {xs:List α} {ys:List β} (h:xs.length=ys.length):xs.isEmpty=ys.isEmpty:=by
 cases xs<;>cases ys<;>first | rfl | simp at h
theorem zln {K:Frag}:zxm K z85 zat:=by
 intro H0 H x d b Q s rx ht q
 cases d<;>simp only [z85] at ht<;>first | cases ht | skip
 . cases rx.non;exact q
 . cases rx.bl;exact q
 . cases rx.int;exact q
 . split at ht<;>cases ht
   rename_i h
   cases rx.str
   exact ⟨zwo h,q⟩
 . obtain ⟨p,xs,rfl,hp,r⟩:=rx.tup
   unfold zat
   dsimp only
   rw [zas (s _ _ hp)]
   rw [z4v r.length] at q;exact q
 . obtain ⟨p,xs,rfl,hp,r⟩:=rx.lst
   unfold zat
   dsimp only
   rw [zar (s _ _ hp)]
   rw [z4v r.length] at q;exact q
 . rename_i ks es
   obtain ⟨p,xs,rfl,hp,hl,r⟩:=rx.dk
   unfold zat
   dsimp only
   have e:z6d H p=none:=by unfold z6d;rw [s _ _ hp]
   rw [e]
   dsimp only
   rw [s _ _ hp]
   dsimp only
   rw [z4v (show ks.length=(List.zip ks xs).length by rw [List.length_zip,<-hl,Nat.min_self])] at q
   exact q
theorem zgz (ha:QE X EX false a fa):QE X EX false (.UnaryOp .Not a pos) (eUn (fun d=>(z85 d).map fun b=>.bl (!b)) fa):=⟨(znj ha.h).imp fun _ _ _ q=>zsb zln q⟩
theorem z6f (ha:QE X EX false a fa) (he:∀whole,isTrue a X.env whole=(do let v <-whole;standAt a.pos;holding [v] (truthy v)):=by intro _;rfl):QT X EX a (z2r z85 fa):=⟨(zrp ha.h he).imp fun _ _ _ q=>zxt zln q⟩
theorem z6g {op:CmpOp} {r:R2} {o:D->D->Option D} (ho:OpR X (compareOp op) r) (od:OpD X.K false o r) (ha:QE X EX false a fa) (hb:QE X EX false b fb) (hm:behindInMarks op b=false) :
 QT X EX (.Compare a [op] [b] pos) (z2r asB (eOp o fa fb)):=⟨(znh ho ha.h hb.h hm).imp fun _ _ _ q=>zxu od q⟩
theorem QW.pt (h:QW X EX a t):QT X EX a t:=⟨h.h.pt⟩
theorem z6h (ha:QT X EX a t):QT X EX (.UnaryOp .Not a pos) (zbs t):=⟨(zqx ha.h).imp fun _ _ _ q=>zs9 q⟩
theorem zsu (ha:QT X EX a t):QW X EX (.BoolOp .And [a] pos) t:=⟨zn2 ha.h⟩
theorem zci (ha:QT X EX a t):QW X EX (.BoolOp .Or [a] pos) t:=⟨zqv ha.h⟩
theorem zsv (ha:QT X EX a t) (hb:QW X EX (.BoolOp .And (b::rest) pos) u):QW X EX (.BoolOp .And (a::b::rest) pos) (zqg t u):=⟨(zqw ha.h hb.h).imp fun _ _ _ q=>zs8 q⟩
theorem zfj (ha:QT X EX a t) (hb:QW X EX (.BoolOp .Or (b::rest) pos) u):QW X EX (.BoolOp .Or (a::b::rest) pos) (bOr t u):=⟨(zx2 ha.h hb.h).imp fun _ _ _ q=>zxr q⟩
theorem PCh.imp {ops:List CmpOp} {rs:List Expr} {t t':V->TE} (h:PCh X ops rs t) (hi:∀x U H Q,t' x U H Q->t x U H Q):PCh X ops rs t':=fun pos pins s U H x v Q I r q=>h pos pins s U H x v Q I r (hi x U H Q q)
theorem PChT.imp {ops:List CmpOp} {rs:List Expr} {t t':V->TT} (h:PChT X ops rs t) (hi:∀x U H Q,t' x U H Q->t x U H Q):PChT X ops rs t':=fun pos pins s U H x v Q I r q=>h pos pins s U H x v Q I r (hi x U H Q q)
variable {g:D->DE->R D} {gt:D->DE->R Bool} {op op':CmpOp} {ops:List CmpOp} {r:R2} {o:D->D->Option D} {r':Expr} {rs:List Expr}
theorem zh0 (ho:OpR X (compareOp op) r) (od:OpD X.K false o r) (hb:QE X EX false b fb):QC X EX [op] [b] (zc7 o fb):=⟨(zjf ho hb.h).imp fun _ _ _ _ q=>zsc od q⟩
theorem zdt (ho:OpR X (compareOp op) r) (od:OpD X.K false o r) (hb:QE X EX false b fb) (hr:QC X EX (op'::ops) (r'::rs) g):QC X EX (op::op'::ops) (b::r'::rs) (zav o fb g):=⟨(zjg ho hb.h hr.h).imp fun _ _ _ _ q=>zsd od q⟩
theorem zh1 (ho:OpR X (compareOp op) r) (od:OpD X.K false o r) (hb:QE X EX false b fb):QCT X EX [op] [b] (z8j o fb):=⟨(zg6 ho hb.h).imp fun _ _ _ _ q=>znw od q⟩
theorem zh2 (ho:OpR X (compareOp op) r) (od:OpD X.K false o r) (hb:QE X EX false b fb) (hr:QCT X EX (op'::ops) (r'::rs) gt):QCT X EX (op::op'::ops) (b::r'::rs) (z8k o fb gt):=⟨(zg7 ho hb.h hr.h).imp fun _ _ _ _ q=>znx od q⟩
theorem zo6 {op₁ op₂:CmpOp} {r₁ r₂:Expr} (ha:QE X EX false a fa) (hr:QC X EX (op₁::op₂::ops) (r₁::r₂::rs) g) (hm:lastMarks (op₁::op₂::ops) (r₁::r₂::rs)=false:=by with_unfolding_all rfl) :
 QE X EX false (.Compare a (op₁::op₂::ops) (r₁::r₂::rs) pos) (znv fa g):=⟨(zrt ha.h hr.h hm).imp fun _ _ _ q=>zxv q⟩
theorem zsw {op₁ op₂:CmpOp} {r₁ r₂:Expr} (ha:QE X EX false a fa) (hr:QCT X EX (op₁::op₂::ops) (r₁::r₂::rs) gt) (hm:lastMarks (op₁::op₂::ops) (r₁::r₂::rs)=false:=by with_unfolding_all rfl) :
 QT X EX (.Compare a (op₁::op₂::ops) (r₁::r₂::rs) pos) (zqh fa gt):=⟨(zru ha.h hr.h hm).imp fun _ _ _ q=>zse q⟩
theorem zk0 {id:String} {rr:List V->Hp->VK->Prop} {m:List D->Option D} (hc:CallR X (.builtin id) rr) (od:z55 X.K fr m rr) (hg:Gl X x) (hm:X.mg x=none) (hv:bootBuiltins x=some (.builtin id)) (ha:QA X EX (e::es) fs) (hn:x≠"__name__":=by decide) (hdb:(x==("__debug__":Str))=false:=by decide)
 (he:starEach (e::es) X.env=(false,eval e X.env)::starEach es X.env:=by rfl) (hpl:(backTo pos (starEach es X.env)).any (·.1)=false:=by rfl):QE X EX fr (.Call (.Name x p) (e::es) [] pos) (eCB m fs):=⟨(z6k hc hg hm hv ha.h hn hdb he hpl).imp fun _ _ _ q=>zxo od q⟩
theorem zcj {T:String} {rr:List V->Hp->VK->Prop} {m:List D->Option D} (hc:CallR X (.type T) rr) (od:z55 X.K fr m rr) (hg:Gl X x) (hm:X.mg x=none) (hv:bootBuiltins x=some (.type T)) (ha:QA X EX (e::es) fs) (hn:x≠"__name__":=by decide) (hdb:(x==("__debug__":Str))=false:=by decide)
 (he:starEach (e::es) X.env=(false,eval e X.env)::starEach es X.env:=by rfl) (hpl:(backTo pos (starEach es X.env)).any (·.1)=false:=by rfl):QE X EX fr (.Call (.Name x p) (e::es) [] pos) (eCB m fs):=⟨(zfz hc hg hm hv ha.h hn hdb he hpl).imp fun _ _ _ q=>zxo od q⟩
theorem z1g {ps:List Str} {k j n kk:Nat} {gg:DS->SR} (L:Lnd X EX) (G:z4f X.prog X.w X.K X.mg X.base x ps k (spD X.K X.mg fr (mOf fr n kk gg) n)) (hr:Room j X.A) (hg:Gl X x) (ha:QA X EX (e::es) fs) (hkj:k<=j:=by omega) (hdb:(x==("__debug__":Str))=false:=by decide)
 (he:starEach (e::es) X.env=(false,eval e X.env)::starEach es X.env:=by rfl) (hpl:(backTo pos (starEach es X.env)).any (·.1)=false:=by rfl):QE X EX fr (.Call (.Name x p) (e::es) [] pos) (z0v (mOf fr n kk gg) fs):=⟨(zgv G L.on hr hg ha.h hkj hdb he hpl).imp fun _ _ _ q=>zlk zca (fun x H z=>by obtain ⟨C,hC⟩:=L.nm x H z;exact ⟨C,hC,fun od xf=>⟨x,z,hC,xf⟩⟩) q⟩
end
noncomputable def z3t:D->String
 | .non=>"NoneType"
 | .bl _=>"bool"
 | .int _=>"int"
 | .str _=>"str"
 | .tup _=>"tuple"
 | .lst _=>"list"
 | .dk _ _=>"dict"
 | .dt _ _=>"dict"
 | .dn _ _=>"?"
 | .scr _=>"?"
 | .exc _ _=>"?"
noncomputable def z4w (c:String):D->Option D:=fun d=>if z4r c=true/\z3t d≠"?" then some (.bl (zc4 (z3t d) c)) else none
theorem zo7 {K:Frag} {H:Hp} {d:D} {v:V} (h:z3t d≠"?") (r:RD K H d v):z94 H v=some (z3t d):=by
 cases d
 . cases r.non;rfl
 . cases r.bl;rfl
 . cases r.int;rfl
 . cases r.str;rfl
 . obtain ⟨a,xs,rfl,ha,_⟩:=r.tup;simp only [z94,ha,z3t]
 . obtain ⟨a,xs,rfl,ha,_⟩:=r.lst;simp only [z94,ha,z3t]
 . obtain ⟨a,xs,rfl,ha,_⟩:=r.dk;simp only [z94,ha,z3t]
 . obtain ⟨a,xs,rfl,ha,_⟩:=r.dt;simp only [z94,ha,z3t]
 . exact absurd rfl h
 . exact absurd rfl h
 . exact absurd rfl h
theorem zye {K:Frag} {EX:XW} {U:St} {H:Hp} {Q:VK} {c:String} {f:DE->R D} (h:TEd K EX false (eUn (z4w c) f) U H Q):tCB zwl (z4p (TEd K EX false f) (z4p (tC (.ty c)) zfx)) U H Q:=by
 obtain ⟨sx,ρ,H0,s,e,h⟩:=h
 unfold eUn at h
 rw [Rk.bind] at h
 refine TEd.go sx s e h fun d h v H1 H1' s1 e1 r1=>?_
 obtain ⟨z,hz,h⟩:=h.of
 unfold z4w at hz
 split at hz<;>cases hz
 rename_i hc
 show zwl [v,.ty c] H1 Q
 rw [zs2]
 refine ⟨hc.1,?_⟩
 rw [zo7 hc.2 (r1.mono e1.2.1)]
 exact h _ H1 (.val s1 e1 (.mkBl _))
theorem zck {X:Cx} {EX:XW} {a b:Expr} {pos p:Pos} {x c:_} {f:DE->R D} (hg:Gl X x) (hm:X.mg x=none) (hv:bootBuiltins x=some (.builtin "isinstance")) (ha:QE X EX false a f) (hb:PE X b (tC (.ty c))) (hn:x≠"__name__":=by decide) (hdb:(x==("__debug__":Str))=false:=by decide)
 (he:starEach [a,b] X.env=(false,eval a X.env)::starEach [b] X.env:=by rfl) (hpl:(backTo pos (starEach [b] X.env)).any (·.1)=false:=by rfl) (hs:starEach [b] X.env=(false,eval b X.env)::starEach [] X.env:=by rfl) :
 QE X EX false (.Call (.Name x p) [a,b] [] pos) (eUn (z4w c) f):=⟨(z6k zxh hg hm hv (z2w ha.h (z2w hb pa_nil hs) he) hn hdb he hpl).imp fun _ _ _ q=>zye q⟩
noncomputable def z11:List D->Option (List Int)
 | []=>some []
 | .int i::ds=>(z11 ds).map (i::·)
 | _::_=>none
noncomputable def z2k:List D->Option (List Bool)
 | []=>some []
 | .bl i::ds=>(z2k ds).map (i::·)
 | _::_=>none
theorem z1m:∀(ns:List Int),z11 (ns.map D.int)=some ns
 | []=>rfl
 | n::ns=>by simp [z11,z1m ns]
theorem z4x:∀(ns:List Bool),z2k (ns.map D.bl)=some ns
 | []=>rfl
 | n::ns=>by simp [z2k,z4x ns]
theorem z1t {K:Frag} {H:Hp}:∀{ds:List D} {ns:List Int} {xs:List V},z11 ds=some ns->RDs K H ds xs->xs=ns.map V.int
 | [],ns,xs,h,r=>by
  simp only [z11] at h;cases h
  simp only [RDs] at r;subst r;rfl
 | d::ds,ns,xs,h,r=>by
  simp only [RDs] at r
  obtain ⟨x,xs,rfl,r1,r2⟩:=r
  cases d<;>simp only [z11] at h<;>first | cases h | skip
  cases q:z11 ds with
  | none=>rw [q] at h;cases h
  | some ms=>
   rw [q] at h;cases h
   cases r1.int
   rw [z1t q r2];rfl
theorem z5k {K:Frag} {H:Hp}:∀{ds:List D} {ns:List Bool} {xs:List V},z2k ds=some ns->RDs K H ds xs->xs=ns.map V.bl
 | [],ns,xs,h,r=>by
  simp only [z2k] at h;cases h
  simp only [RDs] at r;subst r;rfl
 | d::ds,ns,xs,h,r=>by
  simp only [RDs] at r
  obtain ⟨x,xs,rfl,r1,r2⟩:=r
  cases d<;>simp only [z2k] at h<;>first | cases h | skip
  cases q:z2k ds with
  | none=>rw [q] at h;cases h
  | some ms=>
   rw [q] at h;cases h
   cases r1.bl
   rw [z5k q r2];rfl
noncomputable def zbt:List D->Option D
 | [.lst ds]=>some (.int ds.length)
 | [.tup ds]=>some (.int ds.length)
 | [.dk ks _]=>some (.int ks.length)
 | [.scr ns]=>some (.int ns.length)
 | [.str z]=>if z.length<=100000 then some (.int z.length) else none
 | _=>none
noncomputable def zh3:List D->Option D
 | [.lst ds]=>(z11 ds).map fun ns=>.int ns.sum
 | [.tup ds]=>(z11 ds).map fun ns=>.int ns.sum
 | _=>none
noncomputable def zsx:List D->Option D
 | [.lst ds]=>(z2k ds).map fun bs=>.bl (bs.all id)
 | _=>none
noncomputable def zsy:List D->Option D
 | [.lst ds]=>(z2k ds).map fun bs=>.bl (bs.any id)
 | _=>none
noncomputable def zyf:List D->Option D
 | [.int i,.int j]=>some (.int (if j > i then j else i))
 | _=>none
noncomputable def zyg:List D->Option D
 | [.int i,.int j]=>some (.int (if j<i then j else i))
 | _=>none
noncomputable def zqk:List D->Option D
 | [.int i]=>some (.int i)
 | [.bl b]=>some (.int (if b then 1 else 0))
 | _=>none
noncomputable def zey:List D->Option D
 | [.lst ds]=>some (.lst ds)
 | [.tup ds]=>some (.lst ds)
 | [.scr ns]=>some (.lst (ns.map .int))
 | _=>none
noncomputable def z7a:List D->Option D
 | [.lst ds]=>some (.tup ds)
 | [.tup ds]=>some (.tup ds)
 | _=>none
section
variable {X:Cx} {K:Frag}
theorem RDs.uno {H:Hp} {d:D} {xs:List V} (h:RDs K H [d] xs):∃x,xs=[x]/\RD K H d x:=by
 simp only [RDs] at h
 obtain ⟨x,r,rfl,h1,rfl⟩:=h
 exact ⟨x,rfl,h1⟩
theorem RDs.duo {H:Hp} {d e:D} {xs:List V} (h:RDs K H [d,e] xs):∃x y,xs=[x,y]/\RD K H d x/\RD K H e y:=by
 simp only [RDs] at h
 obtain ⟨x,r,rfl,h1,y,r',rfl,h2,rfl⟩:=h
 exact ⟨x,y,rfl,h1,h2⟩
def zsz (K:Frag):List V->Hp->VK->Prop:=fun xs H Q=>(∃p ys,xs=[.ref p]/\(SqL K H p ys\/SqT K H p ys)/\Q (.int ys.length) H)\/(∃a kvs,xs=[V.ref a]/\H a=some (.dK kvs)/\Q (.int kvs.length) H)\/∃z,xs=[.str z]/\z.length<=sizeLine/\Q (.int z.length) H
theorem zt0:CallR X (.builtin "len") (zsz X.K):=call_len_seq.or (call_lenD.or zam)
theorem zt1:z55 K false zbt (zsz K):=by
 intro H0 H xs ds z Q s r ho k
 unfold zbt at ho
 split at ho<;>first | cases ho | skip
 . obtain ⟨x,rfl,q1⟩:=r.uno
   obtain ⟨a,ys,rfl,ha,ra⟩:=q1.lst
   exact .inl ⟨a,ys,rfl,.inl (.of (s _ _ ha)),by rw [<-ra.length];exact k _ H (.pure s (.mkInt _))⟩
 . obtain ⟨x,rfl,q1⟩:=r.uno
   obtain ⟨a,ys,rfl,ha,ra⟩:=q1.tup
   exact .inl ⟨a,ys,rfl,.inr (.of (s _ _ ha)),by rw [<-ra.length];exact k _ H (.pure s (.mkInt _))⟩
 . obtain ⟨x,rfl,q1⟩:=r.uno
   obtain ⟨a,ys,rfl,ha,hl,ra⟩:=q1.dk
   refine .inr (.inl ⟨a,_,rfl,s _ _ ha,?_⟩)
   rw [List.length_zip,<-hl,Nat.min_self]
   exact k _ H (.pure s (.mkInt _))
 . obtain ⟨x,rfl,q1⟩:=r.uno
   obtain ⟨a,rfl,ha⟩:=(q1.mono s).scr
   exact .inl ⟨a,_,rfl,.inl ha,by rw [List.length_map];exact k _ H (.pure s (.mkInt _))⟩
 . split at ho<;>cases ho
   rename_i h
   obtain ⟨x,rfl,q1⟩:=r.uno
   cases q1.str
   exact .inr (.inr ⟨_,rfl,zwo h,k _ H (.pure s (.mkInt _))⟩)
theorem zlo:z55 K false zh3 zno:=by
 intro H0 H xs ds z Q s r ho k
 unfold zh3 at ho
 split at ho<;>first | cases ho | skip
 . obtain ⟨x,rfl,q1⟩:=r.uno
   obtain ⟨a,ys,rfl,ha,ra⟩:=q1.lst
   rename_i es
   cases q:z11 es with
   | none=>rw [q] at ho;cases ho
   | some ns=>
    rw [q] at ho;cases ho
    rw [zgj]
    exact ⟨ns,by rw [<-z1t q ra];exact zar (s _ _ ha),k _ H (.pure s (.mkInt _))⟩
 . obtain ⟨x,rfl,q1⟩:=r.uno
   obtain ⟨a,ys,rfl,ha,ra⟩:=q1.tup
   rename_i es
   cases q:z11 es with
   | none=>rw [q] at ho;cases ho
   | some ns=>
    rw [q] at ho;cases ho
    rw [zgj]
    exact ⟨ns,by rw [<-z1t q ra];exact zas (s _ _ ha),k _ H (.pure s (.mkInt _))⟩
theorem zt2:z55 K false zsx znp:=by
 intro H0 H xs ds z Q s r ho k
 unfold zsx at ho
 split at ho<;>first | cases ho | skip
 obtain ⟨x,rfl,q1⟩:=r.uno
 obtain ⟨a,ys,rfl,ha,ra⟩:=q1.lst
 rename_i es
 cases q:z2k es with
 | none=>rw [q] at ho;cases ho
 | some ns=>
  rw [q] at ho;cases ho
  rw [znr]
  exact ⟨ns,by rw [<-z5k q ra];exact .inl (s _ _ ha),k _ H (.pure s (.mkBl _))⟩
theorem zt3:z55 K false zsy znq:=by
 intro H0 H xs ds z Q s r ho k
 unfold zsy at ho
 split at ho<;>first | cases ho | skip
 obtain ⟨x,rfl,q1⟩:=r.uno
 obtain ⟨a,ys,rfl,ha,ra⟩:=q1.lst
 rename_i es
 cases q:z2k es with
 | none=>rw [q] at ho;cases ho
 | some ns=>
  rw [q] at ho;cases ho
  rw [zns]
  exact ⟨ns,by rw [<-z5k q ra];exact .inl (s _ _ ha),k _ H (.pure s (.mkBl _))⟩
theorem zlp:z55 K false zqk zs1:=by
 intro H0 H xs ds z Q s r ho k
 unfold zqk at ho
 split at ho<;>first | cases ho | skip
 . obtain ⟨x,rfl,q1⟩:=r.uno
   cases q1.int
   exact k _ H (.pure s (.mkInt _))
 . obtain ⟨x,rfl,q1⟩:=r.uno
   cases q1.bl
   exact k _ H (.pure s (.mkInt _))
def zlq (K:Frag):List V->Hp->VK->Prop:=fun xs H Q=>∃p ys,xs=[.ref p]/\(SqL K H p ys\/SqT K H p ys)/\∀l,H l=none->Q (.ref l) (upd H l (.lst ys))
theorem zo8:CallR X (.type "list") (zlq X.K):=zan
theorem zo9:z55 K true zey (zlq K):=by
 intro H0 H xs ds z Q s r ho k
 have fin:∀{p:Addr} {ys:List V} {es:List D},RDs K H0 es ys->z=.lst es->H p=none->Q (.ref p) (upd H p (.lst ys)):=fun {p ys es} re e hp=>by
  subst e
  refine k _ _ (.new s hp fun H' hH=>?_)
  simp only [OB]
  exact ⟨_,hH,re⟩
 unfold zey at ho
 split at ho<;>first | cases ho | skip
 . obtain ⟨x,rfl,q1⟩:=r.uno
   obtain ⟨a,ys,rfl,ha,ra⟩:=q1.lst
   exact ⟨a,ys,rfl,.inl (.of (s _ _ ha)),fun l hl=>fin ra rfl hl⟩
 . obtain ⟨x,rfl,q1⟩:=r.uno
   obtain ⟨a,ys,rfl,ha,ra⟩:=q1.tup
   exact ⟨a,ys,rfl,.inr (.of (s _ _ ha)),fun l hl=>fin ra rfl hl⟩
 . obtain ⟨x,rfl,q1⟩:=r.uno
   obtain ⟨a,rfl,ha⟩:=(q1.mono s).scr
   exact ⟨a,_,rfl,.inl ha,fun l hl=>fin (RDs.ofInts _) rfl hl⟩
def zh4 (K:Frag):List V->Hp->VK->Prop:=fun xs H Q=>∃p ys,xs=[.ref p]/\((SqL K H p ys/\∀l,H l=none->Q (.ref l) (upd H l (.tup ys)))\/(SqT K H p ys/\Q (.ref p) H))
theorem z9k:CallR X (.type "tuple") (zh4 X.K):=z93
theorem z9l:z55 K false z7a (zh4 K):=by
 intro H0 H xs ds z Q s r ho k
 unfold z7a at ho
 split at ho<;>first | cases ho | skip
 . obtain ⟨x,rfl,q1⟩:=r.uno
   obtain ⟨a,ys,rfl,ha,ra⟩:=q1.lst
   refine ⟨a,ys,rfl,.inl ⟨.of (s _ _ ha),fun l hl=>k _ _ (.val (Same.upd_new hl) (.new s hl) (.mkTup z0d (ra.mono (Same.upd_new (s.none hl)))))⟩⟩
 . obtain ⟨x,rfl,q1⟩:=r.uno
   obtain ⟨a,ys,rfl,ha,ra⟩:=q1.tup
   exact ⟨a,ys,rfl,.inr ⟨.of (s _ _ ha),k _ H (.pure s (.mkTup ha ra))⟩⟩
end
noncomputable def z86 {α:Type} (xs:List α) (lo hi:Option Int):List α:=(xs.drop (HT.sIx xs.length 0 lo)).take (HT.sIx xs.length xs.length hi - HT.sIx xs.length 0 lo)
noncomputable def dSl:D->Option Int->Option Int->Option D
 | .lst ds,lo,hi=>some (.lst (z86 ds lo hi))
 | .scr ns,lo,hi=>some (.lst ((z86 ns lo hi).map .int))
 | _,_,_=>none
noncomputable def TOd (K:Frag) (EX:XW) (f:DE->R (Option Int)):TO:=fun U H Q=>Same EX.hb H/\∃ρ H0,Same H0 H/\RE K H0 ρ U/\Rk EX.at (f ρ) fun o=>∀H',Same H H'->Q o H'
noncomputable def oNo:DE->R (Option Int):=fun _=>.ok none
noncomputable def oSo (f:DE->R D):DE->R (Option Int):=fun ρ=>(f ρ).bind fun d=>R.of (match d with | .int i=>some (some i) | _=>none)
noncomputable def eSl (o:D->Option Int->Option Int->Option D) (f:DE->R D) (fl fh:DE->R (Option Int)):DE->R D:=fun ρ=>(f ρ).bind fun d=>(fl ρ).bind fun lo=>(fh ρ).bind fun hi=>R.of (o d lo hi)
def SlD (K:Frag) (fr:Bool) (o:D->Option Int->Option Int->Option D) (r:V->Option Int->Option Int->Hp->VK->Prop):Prop:=∀(H0 H:Hp) (x:V) (d z:D) (lo hi:Option Int) (Q:VK),Same H0 H->RD K H0 d x->o d lo hi=some z->(∀v H',Out K fr H0 H z v H'->Q v H')->r x lo hi H Q
section
variable {X:Cx} {K:Frag} {EX:XW} {fr:Bool} {U:St} {H:Hp} {Q:VK}
structure QO (X:Cx) (EX:XW) (e:Option Expr) (f:DE->R (Option Int)):Prop where
 h:PO X e (TOd X.K EX f)
theorem PO.imp {e:Option Expr} {t t':TO} (h:PO X e t) (hi:∀U H Q,t' U H Q->t U H Q):PO X e t':=fun pins s U H Q I q=>h pins s U H Q I (hi U H Q q)
theorem zyh:QO X EX none oNo:=⟨po_none.imp fun U H Q ⟨sx,ρ,H0,s,e,h⟩=>h H (Same.refl _)⟩
theorem zt4 {e:Expr} {f:DE->R D} (he:QE X EX false e f):QO X EX (some e) (oSo f):=⟨(znb he.h).imp fun U H Q ⟨sx,ρ,H0,s,e,h⟩=>by
 unfold oSo at h
 rw [Rk.bind] at h
 refine TEd.go sx s e h fun d h v H1 H1' s1 e1 r1=>?_
 obtain ⟨o,ho,h⟩:=h.of
 cases d<;>dsimp only at ho<;>first | cases ho | skip
 cases r1.int
 exact ⟨_,rfl,h H1 s1⟩⟩
theorem y1h {o:D->Option Int->Option Int->Option D} {r:V->Option Int->Option Int->Hp->VK->Prop} {f:DE->R D} {fl fh:DE->R (Option Int)} (hs:SlD K fr o r) (h:TEd K EX fr (eSl o f fl fh) U H Q):tSl r (TEd K EX false f) (TOd K EX fl) (TOd K EX fh) U H Q:=by
 obtain ⟨sx,ρ,H0,s,e,h⟩:=h
 unfold eSl at h
 rw [Rk.bind] at h
 refine TEd.go sx s e h fun d h v H1 H1' s1 e1 r1=>?_
 rw [Rk.bind] at h
 refine ⟨sx.trans s1,ρ,H1',e1.2.1,e.mono e1.1,h.mono fun lo h H2 s2=>?_⟩
 rw [Rk.bind] at h
 refine ⟨(sx.trans s1).trans s2,ρ,H1',e1.2.1.trans s2,e.mono e1.1,h.mono fun hi h H3 s3=>?_⟩
 obtain ⟨z,hz,h⟩:=h.of
 exact hs H1' H3 v d z lo hi Q (e1.2.1.trans (s2.trans s3)) r1 hz fun w H4 o=>h w H4 (o.after (s1.trans (s2.trans s3)) (e1.grow (s2.trans s3)))
theorem RDs.cut {H:Hp} {ds:List D} {xs:List V} (r:RDs K H ds xs) (lo hi:Option Int):RDs K H (z86 ds lo hi) (zj0 xs lo hi):=by
 unfold z86 zj0
 rw [<-r.length]
 exact (r.drop _).take _
theorem zcl:SlD K true dSl (y07 K):=by
 intro H0 H x d z lo hi Q s r ho k
 cases d<;>simp only [dSl] at ho<;>first | cases ho | skip
 . obtain ⟨a,xs,rfl,ha,ra⟩:=r.lst
   refine ⟨a,xs,rfl,.of (s _ _ ha),fun p hp=>k _ _ (.new s hp fun H' hH=>?_)⟩
   simp only [OB]
   exact ⟨_,hH,ra.cut lo hi⟩
 . rename_i ns
   obtain ⟨a,rfl,ha⟩:=(r.mono s).scr
   refine ⟨a,_,rfl,ha,fun p hp=>k _ _ (.new s hp fun H' hH=>?_)⟩
   simp only [OB]
   have e:=(RDs.ofInts (K:=K) (H:=H0) ns).cut lo hi
   refine ⟨_,hH,?_⟩
   have e2:∀ns:List Int,z86 (ns.map D.int) lo hi=(z86 ns lo hi).map D.int:=fun ns=>by
    unfold z86;rw [List.length_map,List.map_take,List.map_drop]
   rw [e2] at e
   exact e
theorem zwr {o:D->Option Int->Option Int->Option D} {r:V->Option Int->Option Int->Hp->VK->Prop} {e:Expr} {lo hi:Option Expr} {pos p2:Pos} {f:DE->R D} {fl fh:DE->R (Option Int)} (hr:SlR X r) (hs:SlD X.K fr o r) (he:QE X EX false e f) (hl:QO X EX lo fl) (hu:QO X EX hi fh) :
 QE X EX fr (.Subscript e (.Slice lo hi none p2) pos) (eSl o f fl fh):=⟨(zja hr he.h hl.h hu.h).imp fun _ _ _ q=>y1h hs q⟩
end
noncomputable def iL (f:DE->R D):DE->R (List D):=fun ρ=>(f ρ).bind fun d=>R.of (items d)
noncomputable def zD (lo:Int) (n:Nat):List D:=(List.range n).map fun (i:Nat)=>D.int (lo+i)
noncomputable def zt5 (fs:DE->R (List D)):DE->R (List D):=fun ρ=>(fs ρ).bind fun ds=>R.of (match ds with
 | [.int j]=>if -(2 ^ 62)<=j/\j<2 ^ 62 then some (zD 0 j.toNat) else none
 | _=>none)
noncomputable def zk1 (fs:DE->R (List D)):DE->R (List D):=fun ρ=>(fs ρ).bind fun ds=>R.of (match ds with
 | [.int i,.int j]=>if -(2 ^ 62)<=i/\i<2 ^ 62/\-(2 ^ 62)<=j/\j<2 ^ 62 then some (zD i (j - i).toNat) else none
 | _=>none)
section
variable {X:Cx} {K:Frag} {EX:XW} {H0:Hp}
theorem zdu {S:Hp->Prop} {xs:List V} {ds:List D} (hS:∀H,Same H0 H->S H) (r:RDs K H0 ds xs):zli K (ItS S xs) H0 ds:=by
 have hl:=r.length
 refine ⟨fun i d e H H1 s1 s2=>⟨⟨hS H (s1.trans s2),by rw [<-hl];exact (List.getElem?_eq_some_iff.mp e).1⟩,fun x H' ⟨e1,e2⟩=>?_⟩,fun H s=>⟨hS H s,by rw [hl];exact Nat.le_refl _⟩⟩
 subst e1
 obtain ⟨x',q1,q2⟩:=r.get' e
 rw [q1] at e2;cases e2
 exact ⟨Same.refl _,H1,.refl s2,q2.mono s1⟩
theorem zt6 (lo:Int) (n:Nat):RDs K H0 (zD lo n) (zgd lo n):=by
 have:∀l:List Nat,RDs K H0 (l.map fun (i:Nat)=>D.int (lo+i)) (l.map fun (i:Nat)=>V.int (lo+i)):=by
  intro l
  induction l with
  | nil=>simp [RDs]
  | cons a l ih=>exact .cons (.mkInt _) ih
 exact this _
theorem z9m {tg l:Expr} {f:DE->R D} (hl:QE X EX false l f):QI X EX false tg l (iL f):=⟨(zrx hl.h).imp fun U H Q ⟨sx,ρ,H0,s,e,h⟩=>by
 unfold iL at h
 rw [Rk.bind] at h
 refine TEd.go sx s e h fun d h v H1 H1' s1 e1 r1=>?_
 obtain ⟨ds,hd,h⟩:=h.of
 cases d<;>simp only [items] at hd<;>first | cases hd | skip
 . obtain ⟨a,xs,rfl,ha,ra⟩:=r1.tup
   exact zjj (e1.2.1 _ _ ha) (h _ H1 H1' s1 e1 (zdu (fun H s=>s _ _ ha) ra))
 . obtain ⟨a,xs,rfl,ha,ra⟩:=r1.lst
   exact zji (.inl (e1.2.1 _ _ ha)) (h _ H1 H1' s1 e1 (zdu (fun H s=>.inl (s _ _ ha)) ra))⟩
theorem y1i {tg a:Expr} {p pos:Pos} {fs:DE->R (List D)} (hg:Gl X "range") (hm:X.mg "range"=none) (ha:QA X EX [a] fs) (hs:starEach [a] X.env=[(false,eval a X.env)]:=by rfl):QI X EX true tg (.Call (.Name "range" p) [a] [] pos) (zt5 fs):=⟨(zxe hg hm ha.h hs).imp fun U H Q ⟨sx,ρ,H0,s,e,h⟩=>by
 unfold zt5 at h
 rw [Rk.bind] at h
 refine TAd.go sx s e h fun ds h vs H1 H1' s1 e1 r1=>?_
 obtain ⟨es,hd,h⟩:=h.of
 split at hd<;>first | cases hd | skip
 obtain ⟨x,rfl,q1⟩:=r1.uno
 cases q1.int
 split at hd<;>cases hd
 rename_i hb
 exact ⟨hb,h _ H1 H1' s1 e1 (zdu (fun _ _=>trivial) (zt6 _ _))⟩⟩
theorem zws {tg a b:Expr} {p pos:Pos} {fs:DE->R (List D)} (hg:Gl X "range") (hm:X.mg "range"=none) (ha:QA X EX [a,b] fs) (hs:starEach [a,b] X.env=[(false,eval a X.env),(false,eval b X.env)]:=by rfl) (hs2:starEach [b] X.env=[(false,eval b X.env)]:=by rfl) :
  QI X EX true tg (.Call (.Name "range" p) [a,b] [] pos) (zk1 fs):=⟨(zxf hg hm ha.h hs hs2).imp fun U H Q ⟨sx,ρ,H0,s,e,h⟩=>by
 unfold zk1 at h
 rw [Rk.bind] at h
 refine TAd.go sx s e h fun ds h vs H1 H1' s1 e1 r1=>?_
 obtain ⟨es,hd,h⟩:=h.of
 split at hd<;>first | cases hd | skip
 obtain ⟨x,y,rfl,q1,q2⟩:=r1.duo
 cases q1.int;cases q2.int
 split at hd<;>cases hd
 rename_i hb
 exact ⟨hb,h _ H1 H1' s1 e1 (zdu (fun _ _=>trivial) (zt6 _ _))⟩⟩
theorem zt7 {S:Hp->Prop} {xs ys:List V} {ds es:List D} (hS:∀H,Same H0 H->S H) (r:RDs K H0 ds xs) (r':RDs K H0 es ys):zli K (ItP S (xs.zip ys)) H0 ((ds.zip es).map fun p=>D.tup [p.1,p.2]):=by
 have hl:=r.length
 have hl':=r'.length
 have hz:((ds.zip es).map fun p=>D.tup [p.1,p.2]).length=(xs.zip ys).length:=by rw [List.length_map,List.length_zip,List.length_zip,hl,hl']
 refine ⟨fun i d e H H1 s1 s2=>⟨⟨hS H (s1.trans s2),by rw [<-hz];exact (List.getElem?_eq_some_iff.mp e).1⟩,fun x H' y=>?_⟩,fun H s=>⟨hS H s,hz⟩⟩
 obtain ⟨T,a,b,rfl,hT,rfl,ep⟩:=y
 obtain ⟨ea,eb⟩:=List.getElem?_zip_eq_some.mp ep
 obtain ⟨da,ga,ra⟩:=r.get ea
 obtain ⟨db,gb,rb⟩:=r'.get eb
 have gz:(ds.zip es)[i]?=some (da,db):=List.getElem?_zip_eq_some.mpr ⟨ga,gb⟩
 rw [List.getElem?_map,gz] at e
 cases e
 refine ⟨Same.upd_new hT,upd H1 T (.tup [a,b]),.new s2 hT,.mkTup z0d ?_⟩
 have sm:=Same.upd_new (o:=.tup [a,b]) (s2.none hT)
 exact .cons (ra.mono (s1.trans sm)) (.cons (rb.mono (s1.trans sm)) .nil)
end
section
variable {X:Cx} {sc:Scope} {caps:List Str} {ix:List Nat} {elt iter:Expr} {ifs:List Expr} {pos px py pz tpos:Pos} {x y z:Str} {kt:Nat} {kp:Bool} {EX:XW} {fi:DE->R (List D)} {t:DE->R Bool} {f:DE->R D}
noncomputable def z52:DE->R Bool:=fun _=>.ok true
inductive PTq (X:Cx) (sc:Scope) (N:List Str):List Expr->(DE->R Bool)->Prop where
 | nil:PTq X sc N [] z52
 | one {c:Expr} {t:DE->R Bool} (h:∀fp s H,QT (z0n X sc N fp s H) F0 c t):PTq X sc N [c] t
theorem PTq.run {N:List Str} (h:PTq X sc N ifs t):∃tt,(∀fp s H,PTs (z0n X sc N fp s H) ifs tt)/\∀U H Q,TTd X.K F0 t U H Q->tt U H Q:=by
 cases h with
 | nil=>exact ⟨_,fun _ _ _=>.nil,fun U H Q ⟨sx,ρ,H0,s,e,h⟩=>h H (Same.refl _)⟩
 | one h=>exact ⟨_,fun fp s H=>.one (h fp s H).h,fun _ _ _ q=>q⟩
theorem zql (C:CompOk X sc caps ix) (hN:([x]++caps).Nodup) (hx:sc.names.lookup x=some .local) (hi:QI X EX kp (.Name x px) iter fi) (ht:PTq X sc ([x]++caps) ifs t) (he:∀fp s H,QE (z0n X sc ([x]++caps) fp s H) F0 false elt f)
  (hs:∀x,foldedSetIterable iter X.env x=pure x:=by intro _;rfl):QE X EX true (.ListComp elt [⟨.Name x px,iter,ifs,0⟩] sc pos) (z3b fi b1 ix t f):=by
 obtain ⟨tt,h1,h2⟩:=ht.run
 refine ⟨(zjl C hN hx hi.h h1 (fun fp s H=>(he fp s H).h) hs).imp fun _ _ _ q=>zaw zy3 h2 q⟩
theorem y1j (C:CompOk X sc caps ix) (hN:([x,y]++caps).Nodup) (hx:sc.names.lookup x=some .local) (hy:sc.names.lookup y=some .local) (hi:QI X EX kp (.Tuple [.Name x px,.Name y py] kt tpos) iter fi) (ht:PTq X sc ([x,y]++caps) ifs t)
  (he:∀fp s H,QE (z0n X sc ([x,y]++caps) fp s H) F0 false elt f) (hs:∀x,foldedSetIterable iter X.env x=pure x:=by intro _;rfl):QE X EX true (.ListComp elt [⟨.Tuple [.Name x px,.Name y py] kt tpos,iter,ifs,0⟩] sc pos) (z3b fi (bT 2) ix t f):=by
 obtain ⟨tt,h1,h2⟩:=ht.run
 refine ⟨(zjm C hN hx hy hi.h h1 (fun fp s H=>(he fp s H).h) hs).imp fun _ _ _ q=>zaw zy4 h2 q⟩
theorem y1k (C:CompOk X sc caps ix) (hN:([x,y,z]++caps).Nodup) (hx:sc.names.lookup x=some .local) (hy:sc.names.lookup y=some .local) (hz:sc.names.lookup z=some .local) (hi:QI X EX kp (.Tuple [.Name x px,.Name y py,.Name z pz] kt tpos) iter fi) (ht:PTq X sc ([x,y,z]++caps) ifs t)
  (he:∀fp s H,QE (z0n X sc ([x,y,z]++caps) fp s H) F0 false elt f) (hs:∀x,foldedSetIterable iter X.env x=pure x:=by intro _;rfl):QE X EX true (.ListComp elt [⟨.Tuple [.Name x px,.Name y py,.Name z pz] kt tpos,iter,ifs,0⟩] sc pos) (z3b fi (bT 3) ix t f):=by
 obtain ⟨tt,h1,h2⟩:=ht.run
 refine ⟨(zjo C hN hx hy hz hi.h h1 (fun fp s H=>(he fp s H).h) hs).imp fun _ _ _ q=>zaw zy4 h2 q⟩
theorem zb0 {te te':TE} {g:TG} (h:∀U H Q,te' U H Q->te U H Q) {De:Ends} {U:St} {H:Hp} (q:zft te' g De U H):zft te g De U H:=h _ _ _ q
theorem y1l {fr:Bool} {m:List Bool} {v:Str} {k:Nat} {spos pv:Pos} (hNX:X.N.Nodup) (hk:X.N[k]?=some v) (hv:X.env.scope.names.lookup v=some .local) (C:CompOk X sc caps ix) (hN:([x]++caps).Nodup) (hx:sc.names.lookup x=some .local) (hi:QI X EX kp (.Name x px) iter fi)
  (ht:PTq X sc ([x]++caps) ifs t) (he:∀fp s H,QE (z0n X sc ([x]++caps) fp s H) F0 false elt f)
  (hsw:swapsWith (.ListComp elt [⟨.Name x px,iter,ifs,0⟩] sc pos) (some (.Name v pv)) spos.line X.env=pure true:=by rfl) (hs:∀x,foldedSetIterable iter X.env x=pure x:=by intro _;rfl) :
  QS X EX fr (.Assign [.Name v pv] (.ListComp elt [⟨.Name x px,iter,ifs,0⟩] sc pos) spos) (z2i true k m (z3b fi b1 ix t f)):=by
 obtain ⟨tt,h1,h2⟩:=ht.run
 refine ⟨(zdj hNX hk hv C hN hx hi.h h1 (fun fp s H=>(he fp s H).h) hsw hs).imp fun _ _ _ q=>zb0 (fun _ _ _ q=>zaw zy3 h2 q) (zny q)⟩
theorem y1m {fr:Bool} {m:List Bool} {v:Str} {k:Nat} {spos pv:Pos} (hNX:X.N.Nodup) (hk:X.N[k]?=some v) (hv:X.env.scope.names.lookup v=some .local) (C:CompOk X sc caps ix) (hN:([x,y]++caps).Nodup) (hx:sc.names.lookup x=some .local) (hy:sc.names.lookup y=some .local)
  (hi:QI X EX kp (.Tuple [.Name x px,.Name y py] kt tpos) iter fi) (ht:PTq X sc ([x,y]++caps) ifs t) (he:∀fp s H,QE (z0n X sc ([x,y]++caps) fp s H) F0 false elt f)
  (hsw:swapsWith (.ListComp elt [⟨.Tuple [.Name x px,.Name y py] kt tpos,iter,ifs,0⟩] sc pos) (some (.Name v pv)) spos.line X.env=pure true:=by rfl) (hs:∀x,foldedSetIterable iter X.env x=pure x:=by intro _;rfl) :
  QS X EX fr (.Assign [.Name v pv] (.ListComp elt [⟨.Tuple [.Name x px,.Name y py] kt tpos,iter,ifs,0⟩] sc pos) spos) (z2i true k m (z3b fi (bT 2) ix t f)):=by
 obtain ⟨tt,h1,h2⟩:=ht.run
 refine ⟨(zjn hNX hk hv C hN hx hy hi.h h1 (fun fp s H=>(he fp s H).h) hsw hs).imp fun _ _ _ q=>zb0 (fun _ _ _ q=>zaw zy4 h2 q) (zny q)⟩
end
section
variable {X:Cx} {EX:XW} {fr fr':Bool} {st:Stmt} {sts:List Stmt} {a c e:Expr} {es:List Expr} {f:DE->R D} {fs:DE->R (List D)} {t:DE->R Bool} {g g1 g2:DS->SR} {pos p:Pos} {m:List Bool}
theorem z4h:QB X EX fr [] sNx:=⟨pss_nil.imp fun _ _ _ q=>y19 q⟩
theorem z0o (h:QS X EX fr st g):QB X EX fr [st] g:=⟨zfr h.h⟩
theorem z06 (h1:QS X EX fr st g1) (h2:QB X EX fr sts g2):QB X EX fr (st::sts) (z0z g1 g2):=⟨(z91 h1.h h2.h).imp fun _ _ _ q=>zsf q⟩
theorem zbu {x y:List Stmt} (hc:QT X EX c t) (ha:QB X EX fr x g1) (hb:QB X EX fr y g2):QS X EX fr (.If c x y pos) (sIf t g1 g2):=⟨(zx4 hc.h ha.h hb.h).imp fun _ _ _ q=>zxx q⟩
theorem z1c (he:QE X EX fr e f):QS X EX fr (.Return (some e) pos) (z3o m f):=⟨(zl7 he.h).imp fun _ _ _ q=>zxy q⟩
theorem zh5 {i:Nat} {x:Str} {p:Pos} (hN:X.N[i]?=some x:=by rfl) (hv:Vis X.env.scope x:=by first | exact .inl rfl | exact .inr (.inl rfl) | exact .inr (.inr rfl)) (hd:(x==("__debug__":Str))=false:=by decide)
 (hcd:(x==("__classdict__":Str))=false:=by decide):QS X EX true (.Return (some (.Name x p)) pos) (zc9 i):=⟨(zl7 (pw i hN hv hd hcd)).imp fun _ _ _ q=>zsg q⟩
theorem zt8 (he:QE X EX false e f) (hs:swapsWith e none pos.line X.env=pure false:=by rfl):QS X EX fr (.Expr e pos) (z9g f):=⟨(zbx he.h hs).imp fun _ _ _ q=>zsh q⟩
theorem zyi {i:Nat} {x:Str} {pos':Pos} (hN:X.N.Nodup) (hi:X.N[i]?=some x) (hx:Loc X.env.scope x) (he:QE X EX fr' e f) (hs:swapsWith e (some (.Name x pos')) pos.line X.env=pure false:=by rfl) (hf:X.fn x=true\/X.env.scope.names.lookup x=some .local) :
 QS X EX fr (.Assign [.Name x pos'] e pos) (z2i fr' i m f):=⟨(zr3 hN hi hx he.h hs hf).imp fun _ _ _ q=>zny q⟩
theorem g_n {i:Nat} {x:Str} {pos:Pos} (hN:X.N.Nodup) (hi:X.N[i]?=some x) (hx:Loc X.env.scope x) (hf:X.fn x=true\/X.env.scope.names.lookup x=some .local:=by exact .inl rfl):QG X (.Name x pos) (.n i):=⟨(zby hN hi hx hf).imp fun _ _ _ _ q=>y1b q⟩
theorem zlr:QGs X [] []:=⟨zjp⟩
theorem z9n {i:Nat} {is:List Nat} {x:Str} {pos:Pos} {ts:List Expr} (hN:X.N.Nodup) (hi:X.N[i]?=some x) (hx:Loc X.env.scope x) (hr:QGs X ts is) (hf:X.fn x=true\/X.env.scope.names.lookup x=some .local:=by exact .inl rfl)
 (hs:(assignEach (.Name x pos::ts) X.env).map (·.2)=assign (.Name x pos) X.env::(assignEach ts X.env).map (·.2):=by rfl):QGs X (.Name x pos::ts) (i::is):=⟨zgg (zby hN hi hx hf) hr.h hs⟩
theorem g_t {is:List Nat} {ts:List Expr} {k:Nat} {pos:Pos} (hc:X.calm=true) (h:QGs X ts is) (hn:(assignEach ts X.env).length=is.length:=by rfl) (hst:(assignEach ts X.env).findIdx? (·.1)=none:=by rfl):QG X (.Tuple ts k pos) (.t is):=⟨(zgi hc h.h hn hst).imp fun _ _ _ _ q=>y1c q⟩
theorem zoa {tg iter:Expr} {tt:Tg} {body:List Stmt} {kp:Bool} {fi:DE->R (List D)} (hp:PassesOwn (model X.prog X.w) X.A X.env X.xe) (hc:X.calm=true) (hi:QI X EX kp tg iter fi) (hg:QG X tg tt) (hb:QB X EX fr body g)
 (hs:∀x,foldedSetIterable iter X.env x=pure x:=by intro _;rfl):QS X EX fr (.For tg iter body [] pos) (zlj kp m fi tt g):=⟨(zge hp hc hi.h hg.h hb.h hs).imp fun _ _ _ q=>zy2 q⟩
theorem z9o {n:Nat} {body:List Stmt} (hp:PassesOwn (model X.prog X.w) X.A X.env X.xe) (hc:QT X EX c t) (hb:QB X EX fr body g):QS X EX fr (.While c body [] pos) (z3j n t g):=⟨(zj6 hp hc.h hb.h).imp fun _ _ _ q=>znz q⟩
noncomputable def zcm:D->List D->Option D
 | .lst ds,[d]=>if ds.length<100000 then some (.lst (ds++[d])) else none
 | _,_=>none
theorem z3d {K:Frag}:TyD K "list":=fun H0 H a d ob h=>by
 cases d<;>simp [isT] at h
 simp only [OB] at ob
 obtain ⟨xs,hx,_⟩:=ob
 exact .inl ⟨rfl,xs,.of hx⟩
theorem z63 {K:Frag}:zxz K zcm z5h:=by
 intro H0 H a d d' ds vs Q s h0 ob r hm k
 unfold zcm at hm
 split at hm<;>first | cases hm | skip
 split at hm<;>cases hm
 rename_i es e hl
 simp only [OB] at ob
 obtain ⟨xs,hx,rx⟩:=ob
 obtain ⟨y,rfl,q1⟩:=r.uno
 refine ⟨a,xs,y,rfl,rfl,hx,by rw [<-rx.length];exact z56 hl,k _ _ ?_⟩
 simp only [OB]
 exact ⟨_,z0d,rx.append (.one q1)⟩
theorem zb1 {T id:String} {name:Str} {i:Nat} {x:Str} {xp apos cpos:Pos} {mt:D->List D->Option D} {rr:V->List V->Hp->VK->Prop} (pa:PlainAttrs T) (slot:Slot T name id) (hty:typeOf (.builtin id)=pure (.type "method_descriptor")) (hm:MtM X id rr) (od:zxz X.K mt rr) (hT:TyD X.K T)
 (ho:PE X (.Name x xp) (z6l i)) (ha:QA X EX (e::es) fs)
 (hbase:attributeBase (.Name x xp) name X.env (eval (.Name x xp) X.env)=eval (.Name x xp) X.env:=by rfl)
 (hfew:((backTo cpos (starEach (e::es) X.env)).all (fun x=>!x.1)&&(backToKw cpos (keywordEach [] X.env)).all (fun x=>x.1.isSome)
  && decide ((e::es).length+([]:List Keyword).length+(if ([]:List Keyword).isEmpty then 0 else 1)<30))=true:=by rfl)
 (hline:(apos.endLine==cpos.line)=true:=by rfl) (hs:starEach (e::es) X.env=(false,eval e X.env)::starEach es X.env:=by rfl) (hplain:(backTo cpos (starEach es X.env)).any (·.1)=false:=by rfl)
 (hsw:swapsWith (.Call (.Attribute (.Name x xp) name apos) (e::es) [] cpos) none pos.line X.env=pure false:=by rfl) :
 QS X EX fr (.Expr (.Call (.Attribute (.Name x xp) name apos) (e::es) [] cpos) pos) (zfh T mt i m fs):=⟨(zbx (zrh pa slot hty hm ho ha.h hbase hfew hline hs hplain) hsw).imp fun _ _ _ q=>zy0 od hT q⟩
end
theorem fnD {P:Program} {w:World} {K:Frag} {mg:Str->Option Value} {base:Heap} {x qual:Str} {st:Stmt} {f:Addr} {fd:FuncData} {N ps:List Str} {k n kk:Nat} {fr:Bool} {g:DS->SR} (F:Fun K x qual st f fd) (S:FnScope N ps (z03 st)) (hps:ps.length=n) (hN:N.length=n+kk)
  (hbody:∀(cdv:Value) (A:Around) (outer:List Env) (s:Shared) (H:Hp) (E:XK),Room k (A.deeper (envOfC qual (z03 st) s.heap.objs.size f cdv)) ->
   QB (zj7 (CX1 P w) P w K mg base N qual (z03 st) f cdv A outer s H E) ⟨H,xNm K mg E⟩ fr (z24 st) g):FnOk P w K mg base (CX1 P w) (k+1) f fd ps (spD K mg fr (mOf fr n kk g) n):=by
 have hlen:∀{vs:List V} {H:Hp} {Q:VK} {E:XK},spD K mg fr (mOf fr n kk g) n vs H Q E->vs.length=n:=fun {vs H Q E} h=>by
  obtain ⟨ds,H0,s,r,hn,_⟩:=h
  rw [<-r.length];exact hn
 refine F.okX S (fun vs H Q E h=>by rw [hlen h,hps]) (fun cdv A outer s H vs Q E hr h=>⟨_,(hbody cdv A outer s H E hr).h,?_⟩)
 have e:z6z N vs=vs.map some++List.replicate kk none:=by
  unfold z6z
  rw [hlen h,hN,Nat.add_sub_cancel_left]
 rw [e]
 exact zsi h
noncomputable def spL (K:Frag) (fr:Bool) (m:List D->R D) (n:Nat):Sp:=fun vs H Q _=>∃ds H0,Same H0 H/\RDs K H0 ds vs/\ds.length=n/\Rk (fun _=>False) (m ds) fun d=>∀v H',Out K fr H0 H d v H'->Q v H'
theorem spL.spD {K:Frag} {fr:Bool} {m:List D->R D} {n:Nat} {vs:List V} {H:Hp} {Q:VK} {E:XK} {mg:Str->Option Value} (h:spL K fr m n vs H Q E):L2.spD K mg fr m n vs H Q E:=by
 obtain ⟨ds,H0,s,r,hn,h⟩:=h
 refine ⟨ds,H0,s,r,hn,?_⟩
 cases q:m ds with
 | ok d=>rw [q] at h;exact h
 | er x=>rw [q] at h;exact h.elim
 | st=>rw [q] at h;exact h.elim
theorem zt9 {K:Frag} {H:Hp} {a:Addr} {ns:List Int} {m:List D->R D} {fr:Bool} (hO:zwj H) (hS:SqL K H a (ns.map V.int)) (h:m [.scr ns]=.ok (.bl true)):spL K fr m 1 [.ref a] H (fun v _=>v=.bl true) fun _ _ _=>False:=by
 refine ⟨[.scr ns],H,Same.refl _,.one ?_,rfl,?_⟩
 . simp only [RD]
   refine ⟨a,rfl,?_⟩
   rcases hS with (hS | hS) | hS
   . rcases hO a with z | ⟨o,xs,z⟩<;>rw [z] at hS<;>cases hS
   . exact .inl hS
   . exact .inr hS
 . rw [h]
   exact fun v H' o=>by
    obtain ⟨_,H0',_,r⟩:=o.weak.rd
    exact r.bl
end L2
namespace L2
open PySem PySem.Spec PyProof.Rows
open PySem.W (KasT kas_sort kas_rev kas_asc kas_desc kas_tail3 kas_descPart kas_count kas_place kas_bin)
noncomputable def z1p {α:Type} (lt:Nat->Nat->Bool):KasT α->α
 | .ret a=>a
 | .ask i j k=>z1p lt (k (lt i j))
theorem z35 {α β:Type} {lt:Nat->Nat->Bool} {f:α->KasT β}:∀t:KasT α,z1p lt (t.bind f)=z1p lt (f (z1p lt t))
 | .ret a=>rfl
 | .ask i j k=>by
  show z1p lt ((k (lt i j)).bind f)=_
  exact z35 (k (lt i j))
structure Ord (lt:Nat->Nat->Bool):Prop where
 irr:∀a,lt a a=false
 tr:∀{a b c},lt b a=false->lt c b=false->lt c a=false
 asy:∀{a b},lt a b=true->lt b a=false
section
variable {lt:Nat->Nat->Bool} {p:Array Nat}
abbrev g (p:Array Nat) (i:Nat):Nat:=p.getD i 0
def z5l (lt:Nat->Nat->Bool) (p:Array Nat) (m:Nat):Prop:=∀i j,i<=j->j<m->lt (g p j) (g p i)=false
def z9p (lt:Nat->Nat->Bool) (p:Array Nat) (m:Nat):Prop:=∀i j,i<=j->j<m->lt (g p i) (g p j)=false
theorem z7b {p q:Array Nat} {i j:Nat} (h:p[i]?=q[j]?):g p i=g q j:=by
 unfold g
 rw [Array.getD_eq_getD_getElem?,Array.getD_eq_getD_getElem?,h]
theorem zb2 {i j:Nat} (hj:j<=p.size) (k:Nat):g (kas_rev p i j) k=if i<=k/\k<j then g p (i+j - 1 - k) else g p k:=by
 have e:=getElem?_mirror_all (i:=i) hj k
 split
 . rename_i h;rw [if_pos h] at e;exact z7b e
 . rename_i h;rw [if_neg h] at e;exact z7b e
theorem z9q {i j:Nat}:(kas_rev p i j).size=p.size:=mirror_size _ _ _ _
theorem rev_perm {i j:Nat}:(kas_rev p i j).Perm p:=mirror_perm _ _ _ _
theorem zh6 (O:Ord lt):∀(f n:Nat),1<=n->z5l lt p n->n<=z1p lt (kas_asc p f n)/\z1p lt (kas_asc p f n)<=n+f/\z5l lt p (z1p lt (kas_asc p f n)) /\
  (z1p lt (kas_asc p f n)=n+f\/lt (g p (z1p lt (kas_asc p f n))) (g p (z1p lt (kas_asc p f n) - 1))=true)
 | 0,n,h1,hs=>⟨Nat.le_refl _,Nat.le_refl _,hs,.inl rfl⟩
 | f+1,n,h1,hs=>by
  unfold kas_asc
  simp only [z1p]
  cases hc:lt (p.getD n 0) (p.getD (n - 1) 0) with
  | true=>simp only [if_true,z1p];exact ⟨Nat.le_refl _,by lia,hs,.inr hc⟩
  | false=>
   simp only [Bool.false_eq_true,if_false]
   have hs':z5l lt p (n+1):=fun i j hij hj=>by
    by_cases hjn:j=n
    . subst hjn
      by_cases hi:i=j
      . subst hi;exact O.irr _
      . exact O.tr (hs i (j - 1) (by lia) (by lia)) hc
    . exact hs i j hij (by lia)
   obtain ⟨a,b,c,d⟩:=zh6 O f (n+1) (by lia) hs'
   exact ⟨by lia,by lia,c,d.imp (fun z=>by lia) id⟩
def zta (lt:Nat->Nat->Bool) (p:Array Nat) (n q:Nat):Prop:=∀i j,n - (q+1)<=i->i<n->n - (q+1)<=j->j<n->lt (g p i) (g p j)=false
theorem zh7 (O:Ord lt) {n q:Nat} (hn:n<=p.size) (hq:q+1<=n) (hs:z9p lt p n) (he:zta lt p n q):z9p lt (kas_rev p (n - (q+1)) n) n:=by
 intro i j hij hj
 rw [zb2 hn,zb2 hn]
 split<;>split
 . exact he _ _ (by omega) (by omega) (by omega) (by omega)
 . omega
 . exact hs _ _ (by omega) (by omega)
 . exact hs i j hij hj
theorem z9r (O:Ord lt):∀(f:Nat) (p:Array Nat) (n q:Nat),n+f<=p.size->q+1<=n->z9p lt p n->zta lt p n q ->
  (z1p lt (kas_desc f p n q)).1.Perm p/\n<=(z1p lt (kas_desc f p n q)).2.1/\(z1p lt (kas_desc f p n q)).2.1<=n+f/\(z1p lt (kas_desc f p n q)).2.2+1<=(z1p lt (kas_desc f p n q)).2.1 /\
   z9p lt (z1p lt (kas_desc f p n q)).1 (z1p lt (kas_desc f p n q)).2.1/\zta lt (z1p lt (kas_desc f p n q)).1 (z1p lt (kas_desc f p n q)).2.1 (z1p lt (kas_desc f p n q)).2.2
 | 0,p,n,q,hn,hq,hs,he=>⟨Array.Perm.refl _,Nat.le_refl _,Nat.le_refl _,hq,hs,he⟩
 | f+1,p,n,q,hn,hq,hs,he=>by
  unfold kas_desc
  simp only [z1p]
  have eq0:∀(p':Array Nat),zta lt p' (n+1) 0:=fun p' i j h1 h2 h3 h4=>by
   have:i=j:=by lia
   subst this;exact O.irr _
  have step:∀(p':Array Nat),p'.size=p.size->z9p lt p' n->lt (g p' n) (g p' (n - 1))=true->z9p lt p' (n+1):=fun p' _ hs' hc i j hij hj=>by
   by_cases hjn:j=n
   . subst hjn
     by_cases hi:i=j
     . subst hi;exact O.irr _
     . exact O.tr (O.asy hc) (hs' i (j - 1) (by lia) (by lia))
   . exact hs' i j hij (by lia)
  cases hc:lt (p.getD n 0) (p.getD (n - 1) 0) with
  | true=>
   simp only [if_true]
   by_cases hq0:q > 0
   . rw [if_pos hq0]
     have hr:=zh7 O (by lia) hq hs he
     have hz:(kas_rev p (n - (q+1)) n).size=p.size:=z9q
     have hc':lt (g (kas_rev p (n - (q+1)) n) n) (g (kas_rev p (n - (q+1)) n) (n - 1))=true:=by
      rw [zb2 (by lia),zb2 (by lia),if_neg (by lia),if_pos (by lia)]
      have e1:lt (g p (n - (q+1)+n - 1 - (n - 1))) (g p (n - 1))=false:=he _ _ (by lia) (by lia) (by lia) (by lia)
      have e2:lt (g p (n - 1)) (g p (n - (q+1)+n - 1 - (n - 1)))=false:=he _ _ (by lia) (by lia) (by lia) (by lia)
      cases hx:lt (g p n) (g p (n - (q+1)+n - 1 - (n - 1))) with
      | true=>rfl
      | false=>
       have z:=O.tr e1 hx
       rw [show lt (g p n) (g p (n - 1))=true from hc] at z
       cases z
     obtain ⟨a1,a2,a3,a4,a5,a6⟩:=z9r O f _ (n+1) 0 (by rw [hz];lia) (by lia) (step _ hz hr hc') (eq0 _)
     exact ⟨a1.trans rev_perm,by lia,by lia,a4,a5,a6⟩
   . rw [if_neg hq0]
     obtain ⟨a1,a2,a3,a4,a5,a6⟩:=z9r O f p (n+1) 0 (by lia) (by lia) (step _ rfl hs hc) (eq0 _)
     exact ⟨a1,by lia,by lia,a4,a5,a6⟩
  | false=>
   simp only [Bool.false_eq_true,if_false,z1p]
   cases hd:lt (p.getD (n - 1) 0) (p.getD n 0) with
   | true=>simp only [if_true,z1p];exact ⟨Array.Perm.refl _,Nat.le_refl _,by lia,hq,hs,he⟩
   | false=>
    simp only [Bool.false_eq_true,if_false]
    have hs':z9p lt p (n+1):=fun i j hij hj=>by
     by_cases hjn:j=n
     . subst hjn
       by_cases hi:i=j
       . subst hi;exact O.irr _
       . exact O.tr hd (hs i (j - 1) (by lia) (by lia))
     . exact hs i j hij (by lia)
    have he':zta lt p (n+1) (q+1):=fun i j h1 h2 h3 h4=>by
     by_cases hi:i=n<;>by_cases hj:j=n
     . rw [hi,hj];exact O.irr _
     . rw [hi];exact O.tr (he (n - 1) j (by lia) (by lia) (by lia) (by lia)) hc
     . rw [hj];exact O.tr hd (he i (n - 1) (by lia) (by lia) (by lia) (by lia))
     . exact he i j (by lia) (by lia) (by lia) (by lia)
    obtain ⟨a1,a2,a3,a4,a5,a6⟩:=z9r O f p (n+1) (q+1) (by lia) (by lia) hs' he'
    exact ⟨a1,by lia,by lia,a4,a5,a6⟩
theorem zdv (O:Ord lt) {n nrem:Nat} (h1:1<=n) (hn:n<=nrem) (hz:nrem<=p.size) (hs:z9p lt p n) :
  n<=(z1p lt (kas_tail3 n nrem p)).1/\(z1p lt (kas_tail3 n nrem p)).1<=nrem/\(z1p lt (kas_tail3 n nrem p)).2.Perm p/\z5l lt (z1p lt (kas_tail3 n nrem p)).2 (z1p lt (kas_tail3 n nrem p)).1:=by
 unfold kas_tail3
 rw [z35]
 simp only [z1p]
 have hs':z5l lt (kas_rev p 0 n) n:=fun i j hij hj=>by
  rw [zb2 (by omega),zb2 (by omega),if_pos (by omega),if_pos (by omega)]
  exact hs _ _ (by omega) (by omega)
 obtain ⟨a,b,c,_⟩:=zh6 O (nrem - n) n h1 hs'
 exact ⟨a,by omega,rev_perm,c⟩
theorem z7c (O:Ord lt) {n nrem:Nat} (hn:n+1<=nrem) (hz:nrem<=p.size) (hs:z9p lt p (n+1)) :
  1<=(z1p lt (kas_descPart n nrem p)).1/\(z1p lt (kas_descPart n nrem p)).1<=nrem/\(z1p lt (kas_descPart n nrem p)).2.Perm p/\z5l lt (z1p lt (kas_descPart n nrem p)).2 (z1p lt (kas_descPart n nrem p)).1:=by
 unfold kas_descPart
 rw [z35]
 obtain ⟨a1,a2,a3,a4,a5,a6⟩:=z9r O (nrem - (n+1)) p (n+1) 0 (by lia) (by lia) hs (fun i j h1 h2 h3 h4=>by
  have:i=j:=by lia
  subst this;exact O.irr _)
 generalize hr:z1p lt (kas_desc (nrem - (n+1)) p (n+1) 0)=r at *
 have hsz:r.1.size=p.size:=a1.size_eq
 split
 . rename_i hq
   obtain ⟨b1,b2,b3,b4⟩:=zdv (nrem:=nrem) O (by lia) (by lia) (by rw [z9q,hsz];exact hz) (zh7 O (by rw [hsz];lia) a4 a5 a6)
   exact ⟨by lia,b2,b3.trans (rev_perm.trans a1),b4⟩
 . obtain ⟨b1,b2,b3,b4⟩:=zdv (nrem:=nrem) O (by lia) (by lia) (by rw [hsz];exact hz) a5
   exact ⟨by lia,b2,b3.trans a1,b4⟩
theorem zk2 (O:Ord lt) {nrem:Nat} (h1:1<=nrem) (hz:nrem<=p.size) :
  1<=(z1p lt (kas_count nrem p)).1/\(z1p lt (kas_count nrem p)).1<=nrem/\(z1p lt (kas_count nrem p)).2.Perm p/\z5l lt (z1p lt (kas_count nrem p)).2 (z1p lt (kas_count nrem p)).1:=by
 unfold kas_count
 rw [z35]
 have h0:z5l lt p 1:=fun i j hij hj=>by
  have:i=j:=by lia
  subst this;exact O.irr _
 obtain ⟨a,b,c,d⟩:=zh6 O (nrem - 1) 1 (Nat.le_refl _) h0
 generalize hm:z1p lt (kas_asc p (nrem - 1) 1)=m at *
 by_cases he:m=nrem
 . rw [if_pos (by simpa using he)]
   exact ⟨a,by show m<=nrem;lia,Array.Perm.refl _,c⟩
 . rw [if_neg (by simpa using he)]
   have hlt:lt (g p m) (g p (m - 1))=true:=d.resolve_left (by lia)
   by_cases hg:m > 1
   . rw [if_pos hg]
     simp only [z1p]
     cases hc:lt (p.getD 0 0) (p.getD (m - 1) 0) with
     | true=>simp only [if_true,z1p];exact ⟨a,by lia,Array.Perm.refl _,c⟩
     | false=>
      simp only [Bool.false_eq_true,if_false]
      have al:∀i j,i<m->j<m->lt (g p i) (g p j)=false:=fun i j hi hj=>
       O.tr (O.tr (c j (m - 1) (by lia) (by lia)) hc) (c 0 i (by lia) hi)
      obtain ⟨b1,b2,b3,b4⟩:=z7c (p:=kas_rev p 0 m) (n:=m) (nrem:=nrem) O (by lia) (by rw [z9q];exact hz) (fun i j hij hj=>by
       rw [zb2 (by lia),zb2 (by lia)]
       by_cases hjm:j<m
       . rw [if_pos (by lia),if_pos (by lia)];exact al _ _ (by lia) (by lia)
       . have hj':j=m:=by lia
         subst hj'
         by_cases hi:i=j
         . subst hi;rw [if_neg (by lia)];exact O.irr _
         . rw [if_pos (by lia),if_neg (by lia)]
           exact O.tr (O.asy hlt) (al _ _ (by lia) (by lia)))
      exact ⟨b1,b2,b3.trans rev_perm,b4⟩
   . rw [if_neg hg]
     have hm1:m=1:=by lia
     exact z7c O (by lia) hz fun i j hij hj=>by
      by_cases hi:i=j
      . subst hi;exact O.irr _
      . have hi0:i=0:=by lia
        have hj1:j=1:=by lia
        subst hi0;subst hj1
        rw [hm1] at hlt
        exact O.asy hlt
theorem z9s (O:Ord lt) {k:Nat} (hs:z5l lt p k):∀(f l r:Nat),l<=r->r<=k->r - l<=f->(∀i,i<l->lt (g p k) (g p i)=false)->(∀i,r<=i->i<k->lt (g p k) (g p i)=true) ->
  z1p lt (kas_place p k f l r)<=k/\(∀i,i<z1p lt (kas_place p k f l r)->lt (g p k) (g p i)=false)/\∀i,z1p lt (kas_place p k f l r)<=i->i<k->lt (g p k) (g p i)=true
 | 0,l,r,h1,h2,h3,hl,hr=>by
  have:l=r:=by omega
  subst this
  exact ⟨h2,hl,hr⟩
 | f+1,l,r,h1,h2,h3,hl,hr=>by
  unfold kas_place
  by_cases hlr:l ≥ r
  . rw [if_pos hlr]
    have:l=r:=by omega
    subst this
    exact ⟨h2,hl,hr⟩
  . rw [if_neg hlr]
    simp only [z1p]
    cases hc:lt (p.getD k 0) (p.getD ((l+r) / 2) 0) with
    | true=>
     simp only [if_true]
     refine z9s O hs f l ((l+r) / 2) (by omega) (by omega) (by omega) hl fun i hi hik=>?_
     cases hx:lt (g p k) (g p i) with
     | true=>rfl
     | false=>
      have:=O.tr (hs ((l+r) / 2) i hi hik) hx
      rw [show lt (g p k) (g p ((l+r) / 2))=true from hc] at this;cases this
    | false=>
     simp only [Bool.false_eq_true,if_false]
     exact z9s O hs f ((l+r) / 2+1) r (by omega) h2 (by omega) (fun i hi=>O.tr (hs i ((l+r) / 2) (by omega) (by omega)) hc) hr
theorem zdw {k d:Nat} (hk:k<p.size) (hd:d<=k) (i:Nat):g (bubble p k d) i=if i=k - d then g p k else if k - d<i/\i<=k then g p (i - 1) else g p i:=by
 have e:=getElem?_bubble hk d hd i
 by_cases h:i=k - d
 . rw [if_pos h] at e ⊢;exact z7b e
 . rw [if_neg h] at e ⊢
   by_cases h2:k - d<i/\i<=k
   . rw [if_pos h2] at e ⊢;exact z7b e
   . rw [if_neg h2] at e ⊢;exact z7b e
theorem zls (O:Ord lt):∀(f:Nat) (p:Array Nat) (k:Nat),k+f<=p.size->z5l lt p k->(z1p lt (kas_bin f p k)).Perm p/\z5l lt (z1p lt (kas_bin f p k)) (k+f)
 | 0,p,k,h,hs=>⟨Array.Perm.refl _,hs⟩
 | f+1,p,k,h,hs=>by
  unfold kas_bin
  rw [z35]
  obtain ⟨a,b,c⟩:=z9s O hs k 0 k (Nat.zero_le _) (Nat.le_refl _) (by lia) (fun i hi=>absurd hi (Nat.not_lt_zero _)) (fun i h1 h2=>absurd h2 (by lia))
  generalize hl:z1p lt (kas_place p k k 0 k)=l at *
  have hs':z5l lt (bubble p k (k - l)) (k+1):=fun i j hij hj=>by
   rw [zdw (by lia) (by lia),zdw (by lia) (by lia)]
   have hkl:k - (k - l)=l:=by lia
   rw [hkl]
   by_cases hj1:j=l
   . rw [if_pos hj1]
     by_cases hi1:i=l
     . rw [if_pos hi1];exact O.irr _
     . rw [if_neg hi1,if_neg (by lia)];exact b i (by lia)
   . rw [if_neg hj1]
     by_cases hj2:l<j/\j<=k
     . rw [if_pos hj2]
       by_cases hi1:i=l
       . rw [if_pos hi1];exact O.asy (c (j - 1) (by lia) (by lia))
       . rw [if_neg hi1]
         by_cases hi2:l<i/\i<=k
         . rw [if_pos hi2];exact hs _ _ (by lia) (by lia)
         . rw [if_neg hi2];exact hs _ _ (by lia) (by lia)
     . rw [if_neg hj2,if_neg (by lia),if_neg (by lia)]
       exact hs _ _ hij (by lia)
  obtain ⟨a1,a2⟩:=zls O f (bubble p k (k - l)) (k+1) (by rw [bubble_size];lia) hs'
  exact ⟨a1.trans (bubble_perm _ _ _),by rw [show k+(f+1)=k+1+f by lia];exact a2⟩
theorem zh8 (O:Ord lt) {n:Nat} (h1:1<=n):(z1p lt (kas_sort n)).Perm (List.toArray (List.range n))/\z5l lt (z1p lt (kas_sort n)) n:=by
 unfold kas_sort
 rw [z35]
 obtain ⟨a,b,c,d⟩:=zk2 (p:=List.toArray (List.range n)) O h1 (by simp)
 generalize z1p lt (kas_count n (List.toArray (List.range n)))=r at *
 have hsz:r.2.size=n:=by rw [c.size_eq];simp
 split
 . rename_i hr
   obtain ⟨a1,a2⟩:=zls O (n - max r.1 1) r.2 (max r.1 1) (by lia) (by rw [show max r.1 1=r.1 by lia];exact d)
   exact ⟨a1.trans c,by rw [show max r.1 1+(n - max r.1 1)=n by lia] at a2;exact a2⟩
 . rename_i hr
   have:r.1=n:=by lia
   exact ⟨c,by rw [this] at d;exact d⟩
end
end L2
namespace L2
open PySem PySem.Spec PyProof.Rows
open PySem.W (KasT kas_sort)
mutual
noncomputable def D.oi:D->Bool
 | .int _=>true
 | .tup ds=>ois ds
 | _=>false
noncomputable def ois:List D->Bool
 | []=>true
 | d::ds=>d.oi&&ois ds
end
mutual
noncomputable def ltT:D->D->Bool
 | .int i,.int j=>decide (i<j)
 | .int _,.tup _=>true
 | .tup ds,.tup es=>ltTs ds es
 | _,_=>false
noncomputable def ltTs:List D->List D->Bool
 | [],[]=>false
 | [],_::_=>true
 | _::_,[]=>false
 | d::ds,e::es=>if eqD d e=true then ltTs ds es else ltT d e
end
mutual
noncomputable def z2l:D->D->Option Bool
 | .int i,.int j=>some (decide (i<j))
 | .tup ds,.tup es=>z2b ds es
 | _,_=>none
noncomputable def z2b:List D->List D->Option Bool
 | [],[]=>some false
 | [],_::_=>some true
 | _::_,[]=>some false
 | d::ds,e::es=>if eqD d e=true then z2b ds es else z2l d e
end
mutual
theorem zlt:∀{d e:D} {b:Bool},z2l d e=some b->b=ltT d e
 | .int i,.int j,b,h=>by simp only [z2l,Option.some.injEq] at h;simp only [ltT];exact h.symm
 | .tup ds,.tup es,b,h=>by simp only [z2l] at h;simp only [ltT];exact zh9 h
 | .non,e,b,h=>by simp [z2l] at h
 | .bl _,e,b,h=>by simp [z2l] at h
 | .str _,e,b,h=>by simp [z2l] at h
 | .lst _,e,b,h=>by simp [z2l] at h
 | .dk _ _,e,b,h=>by simp [z2l] at h
 | .dt _ _,e,b,h=>by simp [z2l] at h
 | .dn _ _,e,b,h=>by simp [z2l] at h
 | .scr _,e,b,h=>by simp [z2l] at h
 | .exc _ _,e,b,h=>by simp [z2l] at h
 | .int _,.non,b,h=>by simp [z2l] at h
 | .int _,.bl _,b,h=>by simp [z2l] at h
 | .int _,.str _,b,h=>by simp [z2l] at h
 | .int _,.lst _,b,h=>by simp [z2l] at h
 | .int _,.tup _,b,h=>by simp [z2l] at h
 | .int _,.dk _ _,b,h=>by simp [z2l] at h
 | .int _,.dt _ _,b,h=>by simp [z2l] at h
 | .int _,.dn _ _,b,h=>by simp [z2l] at h
 | .int _,.scr _,b,h=>by simp [z2l] at h
 | .int _,.exc _ _,b,h=>by simp [z2l] at h
 | .tup _,.non,b,h=>by simp [z2l] at h
 | .tup _,.bl _,b,h=>by simp [z2l] at h
 | .tup _,.int _,b,h=>by simp [z2l] at h
 | .tup _,.str _,b,h=>by simp [z2l] at h
 | .tup _,.lst _,b,h=>by simp [z2l] at h
 | .tup _,.dk _ _,b,h=>by simp [z2l] at h
 | .tup _,.dt _ _,b,h=>by simp [z2l] at h
 | .tup _,.dn _ _,b,h=>by simp [z2l] at h
 | .tup _,.scr _,b,h=>by simp [z2l] at h
 | .tup _,.exc _ _,b,h=>by simp [z2l] at h
theorem zh9:∀{ds es:List D} {b:Bool},z2b ds es=some b->b=ltTs ds es
 | [],[],b,h=>by simp only [z2b,Option.some.injEq] at h;simp only [ltTs];exact h.symm
 | [],_::_,b,h=>by simp only [z2b,Option.some.injEq] at h;simp only [ltTs];exact h.symm
 | _::_,[],b,h=>by simp only [z2b,Option.some.injEq] at h;simp only [ltTs];exact h.symm
 | d::ds,e::es,b,h=>by
  simp only [z2b] at h
  simp only [ltTs]
  split at h
  . rename_i q;rw [if_pos q];exact zh9 h
  . rename_i q;rw [if_neg q];exact zlt h
end
mutual
theorem zez:∀{d e:D},d.oi=true->eqD d e=true->e.oi=true->d=e
 | .int i,.int j,_,h,_=>by simp only [eqD,beq_iff_eq] at h;rw [h]
 | .tup ds,.tup es,p,h,q=>by
  simp only [eqD] at h
  simp only [D.oi] at p q
  rw [zlu p h q]
 | .int i,.tup _,_,h,_=>by simp [eqD] at h
 | .tup _,.int _,_,h,_=>by simp [eqD] at h
 | .int _,.non,_,_,q=>by simp [D.oi] at q
 | .int _,.bl _,_,_,q=>by simp [D.oi] at q
 | .int _,.str _,_,_,q=>by simp [D.oi] at q
 | .int _,.lst _,_,_,q=>by simp [D.oi] at q
 | .int _,.dk _ _,_,_,q=>by simp [D.oi] at q
 | .int _,.dt _ _,_,_,q=>by simp [D.oi] at q
 | .int _,.dn _ _,_,_,q=>by simp [D.oi] at q
 | .int _,.scr _,_,_,q=>by simp [D.oi] at q
 | .int _,.exc _ _,_,_,q=>by simp [D.oi] at q
 | .tup _,.non,_,_,q=>by simp [D.oi] at q
 | .tup _,.bl _,_,_,q=>by simp [D.oi] at q
 | .tup _,.str _,_,_,q=>by simp [D.oi] at q
 | .tup _,.lst _,_,_,q=>by simp [D.oi] at q
 | .tup _,.dk _ _,_,_,q=>by simp [D.oi] at q
 | .tup _,.dt _ _,_,_,q=>by simp [D.oi] at q
 | .tup _,.dn _ _,_,_,q=>by simp [D.oi] at q
 | .tup _,.scr _,_,_,q=>by simp [D.oi] at q
 | .tup _,.exc _ _,_,_,q=>by simp [D.oi] at q
 | .non,_,p,_,_=>by simp [D.oi] at p
 | .bl _,_,p,_,_=>by simp [D.oi] at p
 | .str _,_,p,_,_=>by simp [D.oi] at p
 | .lst _,_,p,_,_=>by simp [D.oi] at p
 | .dk _ _,_,p,_,_=>by simp [D.oi] at p
 | .dt _ _,_,p,_,_=>by simp [D.oi] at p
 | .dn _ _,_,p,_,_=>by simp [D.oi] at p
 | .scr _,_,p,_,_=>by simp [D.oi] at p
 | .exc _ _,_,p,_,_=>by simp [D.oi] at p
theorem zlu:∀{ds es:List D},ois ds=true->z4s ds es=true->ois es=true->ds=es
 | [],[],_,_,_=>rfl
 | [],_::_,_,h,_=>by simp [z4s] at h
 | _::_,[],_,h,_=>by simp [z4s] at h
 | d::ds,e::es,p,h,q=>by
  simp only [z4s,Bool.and_eq_true] at h
  simp only [ois,Bool.and_eq_true] at p q
  rw [zez p.1 h.1 q.1,zlu p.2 h.2 q.2]
end
mutual
theorem z9t:∀{d:D},d.oi=true->eqD d d=true
 | .int i,_=>by simp [eqD]
 | .tup ds,p=>by simp only [eqD];exact zdx (by simpa only [D.oi] using p)
 | .non,p=>by simp [D.oi] at p
 | .bl _,p=>by simp [D.oi] at p
 | .str _,p=>by simp [D.oi] at p
 | .lst _,p=>by simp [D.oi] at p
 | .dk _ _,p=>by simp [D.oi] at p
 | .dt _ _,p=>by simp [D.oi] at p
 | .dn _ _,p=>by simp [D.oi] at p
 | .scr _,p=>by simp [D.oi] at p
 | .exc _ _,p=>by simp [D.oi] at p
theorem zdx:∀{ds:List D},ois ds=true->z4s ds ds=true
 | [],_=>rfl
 | d::ds,p=>by
  simp only [ois,Bool.and_eq_true] at p
  simp only [z4s,z9t p.1,zdx p.2,Bool.and_self]
end
mutual
theorem zdy:∀{d e:D},d.oi=true->e.oi=true->ltT d e=false->ltT e d=false->d=e
 | .int i,.int j,_,_,h,h'=>by
  simp only [ltT,decide_eq_false_iff_not] at h h'
  have:i=j:=by lia
  rw [this]
 | .tup ds,.tup es,p,q,h,h'=>by
  simp only [ltT] at h h'
  simp only [D.oi] at p q
  rw [zha p q h h']
 | .int _,.tup _,_,_,h,_=>by simp [ltT] at h
 | .tup _,.int _,_,_,_,h=>by simp [ltT] at h
 | .int _,.non,_,q,_,_=>by simp [D.oi] at q
 | .int _,.bl _,_,q,_,_=>by simp [D.oi] at q
 | .int _,.str _,_,q,_,_=>by simp [D.oi] at q
 | .int _,.lst _,_,q,_,_=>by simp [D.oi] at q
 | .int _,.dk _ _,_,q,_,_=>by simp [D.oi] at q
 | .int _,.dt _ _,_,q,_,_=>by simp [D.oi] at q
 | .int _,.dn _ _,_,q,_,_=>by simp [D.oi] at q
 | .int _,.scr _,_,q,_,_=>by simp [D.oi] at q
 | .int _,.exc _ _,_,q,_,_=>by simp [D.oi] at q
 | .tup _,.non,_,q,_,_=>by simp [D.oi] at q
 | .tup _,.bl _,_,q,_,_=>by simp [D.oi] at q
 | .tup _,.str _,_,q,_,_=>by simp [D.oi] at q
 | .tup _,.lst _,_,q,_,_=>by simp [D.oi] at q
 | .tup _,.dk _ _,_,q,_,_=>by simp [D.oi] at q
 | .tup _,.dt _ _,_,q,_,_=>by simp [D.oi] at q
 | .tup _,.dn _ _,_,q,_,_=>by simp [D.oi] at q
 | .tup _,.scr _,_,q,_,_=>by simp [D.oi] at q
 | .tup _,.exc _ _,_,q,_,_=>by simp [D.oi] at q
 | .non,_,p,_,_,_=>by simp [D.oi] at p
 | .bl _,_,p,_,_,_=>by simp [D.oi] at p
 | .str _,_,p,_,_,_=>by simp [D.oi] at p
 | .lst _,_,p,_,_,_=>by simp [D.oi] at p
 | .dk _ _,_,p,_,_,_=>by simp [D.oi] at p
 | .dt _ _,_,p,_,_,_=>by simp [D.oi] at p
 | .dn _ _,_,p,_,_,_=>by simp [D.oi] at p
 | .scr _,_,p,_,_,_=>by simp [D.oi] at p
 | .exc _ _,_,p,_,_,_=>by simp [D.oi] at p
theorem zha:∀{ds es:List D},ois ds=true->ois es=true->ltTs ds es=false->ltTs es ds=false->ds=es
 | [],[],_,_,_,_=>rfl
 | [],_::_,_,_,h,_=>by simp [ltTs] at h
 | _::_,[],_,_,_,h=>by simp [ltTs] at h
 | d::ds,e::es,p,q,h,h'=>by
  simp only [ois,Bool.and_eq_true] at p q
  simp only [ltTs] at h h'
  by_cases w:eqD d e=true
  . have:=zez p.1 w q.1
    subst this
    rw [if_pos w] at h
    rw [if_pos w] at h'
    rw [zha p.2 q.2 h h']
  . have w':¬eqD e d=true:=fun z=>w (by rw [zez q.1 z p.1];exact z9t p.1)
    rw [if_neg w] at h
    rw [if_neg w'] at h'
    have:=zdy p.1 q.1 h h'
    subst this
    exact absurd (z9t p.1) w
end
mutual
theorem zdz:∀{d:D},d.oi=true->ltT d d=false
 | .int i,_=>by simp [ltT]
 | .tup ds,p=>by simp only [ltT];exact zhb (by simpa only [D.oi] using p)
 | .non,p=>by simp [D.oi] at p
 | .bl _,p=>by simp [D.oi] at p
 | .str _,p=>by simp [D.oi] at p
 | .lst _,p=>by simp [D.oi] at p
 | .dk _ _,p=>by simp [D.oi] at p
 | .dt _ _,p=>by simp [D.oi] at p
 | .dn _ _,p=>by simp [D.oi] at p
 | .scr _,p=>by simp [D.oi] at p
 | .exc _ _,p=>by simp [D.oi] at p
theorem zhb:∀{ds:List D},ois ds=true->ltTs ds ds=false
 | [],_=>rfl
 | d::ds,p=>by
  simp only [ois,Bool.and_eq_true] at p
  simp only [ltTs]
  rw [if_pos (z9t p.1)]
  exact zhb p.2
end
mutual
theorem zhc:∀{d e f:D},d.oi=true->e.oi=true->f.oi=true->ltT d e=true->ltT e f=true->ltT d f=true
 | .int i,.int j,.int k,_,_,_,h,h'=>by
  simp only [ltT,decide_eq_true_eq] at h h' ⊢
  lia
 | .int i,.int j,.tup _,_,_,_,h,h'=>by simp only [ltT]
 | .int i,.tup _,.tup _,_,_,_,h,h'=>by simp only [ltT]
 | .tup ds,.tup es,.tup fs,p,q,r,h,h'=>by
  simp only [ltT] at h h' ⊢
  simp only [D.oi] at p q r
  exact zlv p q r h h'
 | .int i,.tup _,.int _,_,_,_,h,h'=>by simp [ltT] at h'
 | .tup _,.int _,_,_,_,_,h,h'=>by simp [ltT] at h
 | .tup _,.tup _,.int _,_,_,_,h,h'=>by simp [ltT] at h'
 | .non,_,_,p,_,_,_,_=>by simp [D.oi] at p
 | .bl _,_,_,p,_,_,_,_=>by simp [D.oi] at p
 | .str _,_,_,p,_,_,_,_=>by simp [D.oi] at p
 | .lst _,_,_,p,_,_,_,_=>by simp [D.oi] at p
 | .dk _ _,_,_,p,_,_,_,_=>by simp [D.oi] at p
 | .dt _ _,_,_,p,_,_,_,_=>by simp [D.oi] at p
 | .dn _ _,_,_,p,_,_,_,_=>by simp [D.oi] at p
 | .scr _,_,_,p,_,_,_,_=>by simp [D.oi] at p
 | .exc _ _,_,_,p,_,_,_,_=>by simp [D.oi] at p
 | _,.non,_,_,p,_,_,_=>by simp [D.oi] at p
 | _,.bl _,_,_,p,_,_,_=>by simp [D.oi] at p
 | _,.str _,_,_,p,_,_,_=>by simp [D.oi] at p
 | _,.lst _,_,_,p,_,_,_=>by simp [D.oi] at p
 | _,.dk _ _,_,_,p,_,_,_=>by simp [D.oi] at p
 | _,.dt _ _,_,_,p,_,_,_=>by simp [D.oi] at p
 | _,.dn _ _,_,_,p,_,_,_=>by simp [D.oi] at p
 | _,.scr _,_,_,p,_,_,_=>by simp [D.oi] at p
 | _,.exc _ _,_,_,p,_,_,_=>by simp [D.oi] at p
 | _,_,.non,_,_,p,_,_=>by simp [D.oi] at p
 | _,_,.bl _,_,_,p,_,_=>by simp [D.oi] at p
 | _,_,.str _,_,_,p,_,_=>by simp [D.oi] at p
 | _,_,.lst _,_,_,p,_,_=>by simp [D.oi] at p
 | _,_,.dk _ _,_,_,p,_,_=>by simp [D.oi] at p
 | _,_,.dt _ _,_,_,p,_,_=>by simp [D.oi] at p
 | _,_,.dn _ _,_,_,p,_,_=>by simp [D.oi] at p
 | _,_,.scr _,_,_,p,_,_=>by simp [D.oi] at p
 | _,_,.exc _ _,_,_,p,_,_=>by simp [D.oi] at p
theorem zlv:∀{ds es fs:List D},ois ds=true->ois es=true->ois fs=true->ltTs ds es=true->ltTs es fs=true->ltTs ds fs=true
 | [],_,_::_,_,_,_,_,_=>by simp only [ltTs]
 | _,[],[],_,_,_,_,h=>by simp [ltTs] at h
 | _::_,[],_,_,_,_,h,_=>by simp [ltTs] at h
 | _,_::_,[],_,_,_,_,h=>by simp [ltTs] at h
 | d::ds,e::es,f::fs,p,q,r,h,h'=>by
  simp only [ois,Bool.and_eq_true] at p q r
  simp only [ltTs] at h h' ⊢
  by_cases w:eqD d e=true
  . have:=zez p.1 w q.1
    subst this
    rw [if_pos w] at h
    by_cases w2:eqD d f=true
    . rw [if_pos w2] at h' ⊢;exact zlv p.2 q.2 r.2 h h'
    . rw [if_neg w2] at h' ⊢;exact h'
  . rw [if_neg w] at h
    by_cases w2:eqD e f=true
    . have:=zez q.1 w2 r.1
      subst this
      rw [if_neg w];exact h
    . rw [if_neg w2] at h'
      have h3:=zhc p.1 q.1 r.1 h h'
      by_cases w3:eqD d f=true
      . have:=zez p.1 w3 r.1
        subst this
        rw [zdz p.1] at h3;cases h3
      . rw [if_neg w3];exact h3
end
theorem z2m:∀{ds:List D} {i:Nat},ois ds=true->(ds.getD i (.int 0)).oi=true
 | [],i,_=>by simp [D.oi]
 | d::ds,0,h=>by simp only [ois,Bool.and_eq_true] at h;simpa using h.1
 | d::ds,i+1,h=>by
  simp only [ois,Bool.and_eq_true] at h
  simpa using z2m (i:=i) h.2
noncomputable def ltI (ds:List D) (i j:Nat):Bool:=ltT (ds.getD i (.int 0)) (ds.getD j (.int 0))
theorem zhd {ds:List D} (h:ois ds=true):Ord (ltI ds):=by
 refine ⟨fun a=>zdz (z2m h),fun {a b c} h1 h2=>?_,fun {a b} h1=>?_⟩
 . unfold ltI at h1 h2 ⊢
   cases hx:ltT (ds.getD c (.int 0)) (ds.getD a (.int 0)) with
   | false=>rfl
   | true=>
    cases hy:ltT (ds.getD a (.int 0)) (ds.getD b (.int 0)) with
    | true=>rw [zhc (z2m h) (z2m h) (z2m h) hx hy] at h2;cases h2
    | false=>
     rw [zdy (z2m h) (z2m h) hy h1] at hx
     rw [hx] at h2;cases h2
 . unfold ltI at h1 ⊢
   cases hx:ltT (ds.getD b (.int 0)) (ds.getD a (.int 0)) with
   | false=>rfl
   | true=>
    have:=zhc (z2m h) (z2m h) (z2m h) h1 hx
    rw [zdz (z2m h)] at this;cases this
noncomputable def zk3 (d:D):List D->List D
 | []=>[d]
 | e::r=>if ltT e d=true then e::zk3 d r else d::e::r
noncomputable def z3u:List D->List D
 | []=>[]
 | d::r=>zk3 d (z3u r)
theorem z7d (d:D):∀l:List D,(zk3 d l).Perm (d::l)
 | []=>.refl _
 | e::r=>by
  unfold zk3
  split
  . exact ((z7d d r).cons e).trans (.swap d e r)
  . exact .refl _
theorem z1a:∀l:List D,(z3u l).Perm l
 | []=>.refl _
 | d::r=>(z7d d (z3u r)).trans ((z1a r).cons d)
theorem ois_mem:∀{ds:List D},ois ds=true↔∀d∈ds,d.oi=true
 | []=>by simp [ois]
 | d::ds=>by simp [ois,ois_mem (ds:=ds)]
def Srt (l:List D):Prop:=l.Pairwise fun a b=>ltT b a=false
theorem ze0 {d:D}:∀{l:List D},d.oi=true->ois l=true->Srt l->Srt (zk3 d l)
 | [],_,_,_=>by simp [zk3,Srt]
 | e::r,hd,hl,hs=>by
  simp only [ois,Bool.and_eq_true] at hl
  obtain ⟨h1,h2⟩:=List.pairwise_cons.mp hs
  unfold zk3
  split
  . rename_i hlt
    refine List.pairwise_cons.mpr ⟨fun x hx=>?_,ze0 hd hl.2 h2⟩
    rcases List.mem_cons.mp ((z7d d r).mem_iff.mp hx) with rfl | hx
    . cases hq:ltT x e with
      | false=>rfl
      | true=>
       have:=zhc hl.1 hd hl.1 hlt hq
       rw [zdz hl.1] at this;cases this
    . exact h1 x hx
  . rename_i hlt
    have hlt:ltT e d=false:=by simpa using hlt
    refine List.pairwise_cons.mpr ⟨fun x hx=>?_,hs⟩
    rcases List.mem_cons.mp hx with rfl | hx
    . exact hlt
    . have hxo:=(ois_mem.mp hl.2) x hx
      cases hq:ltT x d with
      | false=>rfl
      | true=>
       have h3:=h1 x hx
       cases hy:ltT d e with
       | true=>rw [zhc hxo hd hl.1 hq hy] at h3;cases h3
       | false=>
        rw [zdy hd hl.1 hy hlt] at hq
        rw [hq] at h3;cases h3
theorem z57 {l l':List D} (p:l.Perm l') (h:ois l'=true):ois l=true:=ois_mem.mpr fun d hd=>(ois_mem.mp h) d (p.mem_iff.mp hd)
theorem z2n:∀{l:List D},ois l=true->Srt (z3u l)
 | [],_=>.nil
 | d::r,h=>by
  simp only [ois,Bool.and_eq_true] at h
  exact ze0 h.1 (z57 (z1a r) h.2) (z2n h.2)
theorem z58:∀{l l':List D},ois l=true->l.Perm l'->Srt l->Srt l'->l=l'
 | [],l',_,p,_,_=>by rw [p.nil_eq]
 | a::r,[],_,p,_,_=>by have:=p.length_eq;simp at this
 | a::r,b::r',h,p,s,s'=>by
  have h':=h
  simp only [ois,Bool.and_eq_true] at h
  obtain ⟨h1,h2⟩:=List.pairwise_cons.mp s
  obtain ⟨h3,h4⟩:=List.pairwise_cons.mp s'
  have hb:b∈a::r:=p.mem_iff.mpr List.mem_cons_self
  have ha:a∈b::r':=p.mem_iff.mp List.mem_cons_self
  have hbo:=(ois_mem.mp h') b hb
  have e:a=b:=by
   rcases List.mem_cons.mp hb with z | z
   . exact z.symm
   . rcases List.mem_cons.mp ha with w | w
     . exact w
     . exact zdy h.1 hbo (h3 a w) (h1 b z)
  subst e
  rw [z58 h.2 (List.perm_cons a |>.mp p) h2 h4]
theorem zf0 {ds:List D} (h:ois ds=true) (h1:1<=ds.length):(z1p (ltI ds) (kas_sort ds.length)).toList.map (fun i=>ds.getD i (.int 0))=z3u ds:=by
 obtain ⟨p,s⟩:=zh8 (zhd h) h1
 generalize z1p (ltI ds) (kas_sort ds.length)=a at *
 have hsz:a.size=ds.length:=by rw [p.size_eq];simp
 have pl:a.toList.Perm (List.range ds.length):=by
  have:=p.toList
  simpa using this
 have pm:(a.toList.map fun i=>ds.getD i (.int 0)).Perm ds:=by
  refine (pl.map _).trans ?_
  rw [show (List.range ds.length).map (fun i=>ds.getD i (.int 0))=ds from ?_]
  apply List.ext_getElem?
  intro i
  rw [List.getElem?_map]
  by_cases hi:i<ds.length
  . rw [List.getElem?_range hi]
    simp [hi]
  . rw [List.getElem?_eq_none (by simpa using hi),List.getElem?_eq_none (by simpa using hi)];rfl
 refine z58 (z57 pm h) (pm.trans (z1a ds).symm) ?_ (z2n h)
 refine List.pairwise_iff_getElem.mpr fun i j hi hj hij=>?_
 simp only [List.length_map,Array.length_toList] at hi hj
 have:=s i j (Nat.le_of_lt hij) (by lia)
 unfold ltI g at this
 rw [Array.getD_eq_getD_getElem?,Array.getD_eq_getD_getElem?,Array.getElem?_eq_getElem hi,Array.getElem?_eq_getElem hj] at this
 simpa using this
end L2
namespace L2
open PySem PySem.Spec PyProof.Rows
open PySem.W (KasT kas_sort kas_rev kas_asc kas_desc kas_tail3 kas_descPart kas_count kas_place kas_bin)
def InP {α:Type} (n:Nat) (P:α->Prop):KasT α->Prop
 | .ret a=>P a
 | .ask i j k=>i<n/\j<n/\∀b,InP n P (k b)
theorem InP.bind {α β:Type} {n:Nat} {P:α->Prop} {P':β->Prop} {f:α->KasT β}:∀{t:KasT α},InP n P t->(∀a,P a->InP n P' (f a))->InP n P' (t.bind f)
 | .ret a,h,hf=>hf a h
 | .ask i j k,h,hf=>⟨h.1,h.2.1,fun b=>InP.bind (h.2.2 b) hf⟩
def Al (n:Nat) (p:Array Nat):Prop:=∀i,p.getD i 0<n
theorem Al.perm {n:Nat} {p q:Array Nat} (h0:0<n) (h:q.Perm p) (a:Al n p):Al n q:=fun i=>by
 by_cases hi:i<q.size
 . have hm:q[i]∈p.toList:=h.toList.mem_iff.mp (by simp)
   obtain ⟨j,hj,e⟩:=List.mem_iff_getElem.mp hm
   have:=a j
   rw [Array.getD_eq_getD_getElem?,Array.getElem?_eq_getElem (by simpa using hj)] at this
   rw [Array.getD_eq_getD_getElem?,Array.getElem?_eq_getElem hi]
   simp only [Option.getD_some] at this ⊢
   rw [<-e]
   simpa using this
 . rw [Array.getD_eq_getD_getElem?,Array.getElem?_eq_none (by lia)];exact h0
section
variable {n:Nat} {p:Array Nat}
theorem zhe (a:Al n p):∀f k,InP n (fun _=>True) (kas_asc p f k)
 | 0,k=>trivial
 | f+1,k=>⟨a _,a _,fun b=>by cases b<;>first | exact trivial | exact zhe a f (k+1)⟩
theorem z9u (h0:0<n):∀(f:Nat) (p:Array Nat) (k q:Nat),Al n p->InP n (fun r=>Al n r.1) (kas_desc f p k q)
 | 0,p,k,q,a=>a
 | f+1,p,k,q,a=>by
  refine ⟨a _,a _,fun b=>?_⟩
  cases b with
  | true=>
   dsimp only
   rw [if_pos rfl]
   split
   . exact z9u h0 f _ _ _ (a.perm h0 rev_perm)
   . exact z9u h0 f _ _ _ a
  | false=>
   dsimp only
   rw [if_neg Bool.false_ne_true]
   refine ⟨a _,a _,fun c=>?_⟩
   cases c with
   | true=>exact a
   | false=>exact z9u h0 f _ _ _ a
theorem ze1 (h0:0<n) (a:Al n p) (k m:Nat):InP n (fun r=>Al n r.2) (kas_tail3 k m p):=
 InP.bind (zhe (a.perm h0 rev_perm) _ _) fun _ _=>a.perm h0 rev_perm
theorem z7e (h0:0<n) (a:Al n p) (k m:Nat):InP n (fun r=>Al n r.2) (kas_descPart k m p):=
 InP.bind (z9u h0 _ _ _ _ a) fun r hr=>by
  split
  . exact ze1 h0 (hr.perm h0 rev_perm) _ _
  . exact ze1 h0 hr _ _
theorem zk4 (h0:0<n) (a:Al n p) (m:Nat):InP n (fun r=>Al n r.2) (kas_count m p):=
 InP.bind (zhe a _ _) fun k _=>by
  split
  . exact a
  . split
    . refine ⟨a _,a _,fun b=>?_⟩
      cases b with
      | true=>exact a
      | false=>exact z7e h0 (a.perm h0 rev_perm) _ _
    . exact z7e h0 a _ _
theorem z9v (a:Al n p) (k:Nat):∀f l r,InP n (fun _=>True) (kas_place p k f l r)
 | 0,l,r=>trivial
 | f+1,l,r=>by
  unfold kas_place
  split
  . exact trivial
  . refine ⟨a _,a _,fun b=>?_⟩
    cases b with
    | true=>exact z9v a k f _ _
    | false=>exact z9v a k f _ _
theorem zlw (h0:0<n):∀(f:Nat) (p:Array Nat) (k:Nat),Al n p->InP n (Al n) (kas_bin f p k)
 | 0,p,k,a=>a
 | f+1,p,k,a=>InP.bind (z9v a k _ _ _) fun l _=>zlw h0 f _ _ (a.perm h0 (bubble_perm _ _ _))
theorem zob (h0:0<n):InP n (Al n) (kas_sort n):=by
 have a:Al n (List.toArray (List.range n)):=fun i=>by
  rw [Array.getD_eq_getD_getElem?]
  by_cases hi:i<n
  . simp [hi]
  . rw [Array.getElem?_eq_none (by simpa using hi)];exact h0
 exact InP.bind (zk4 h0 a _) fun r hr=>by
  split
  . exact zlw h0 _ _ _ hr
  . exact hr
end
theorem zlx {α:Type} {n:Nat} {P:α->Prop} {lt:Nat->Nat->Bool} {cmp:Nat->Nat->(Bool->Shared->Prop)->Shared->Prop} {Q:α->Shared->Prop} {s:Shared} (hc:∀i j C,i<n->j<n->C (lt i j) s->cmp i j C s) :
  ∀{t:KasT α},InP n P t->Q (z1p lt t) s->t.kasWp cmp Q s
 | .ret a,_,q=>q
 | .ask i j k,h,q=>hc i j _ h.1 h.2.1 (zlx hc (h.2.2 _) q)
def RcLt (A:Around) (s:Shared) (x y:Value) (b:Bool):Prop:=∀(prog:Program) (w:World) (E:Value->Shared->Prop) (Q:Value->Shared->Prop),Q (.bool b) s->wpAny (model prog w) A (richCompare .Lt x y) Q E s
inductive LexR (A:Around) (s:Shared):List Value->List Value->Bool->Prop
 | nn:LexR A s [] [] false
 | nc {w ws}:LexR A s [] (w::ws) true
 | cn {v vs}:LexR A s (v::vs) [] false
 | eq {v w vs ws b} (h:SeqAt.EqAt A s v w true) (r:LexR A s vs ws b):LexR A s (v::vs) (w::ws) b
 | lt {v w vs ws b} (h:SeqAt.EqAt A s v w false) (r:RcLt A s v w b):LexR A s (v::vs) (w::ws) b
section
open PySem.SeqAt
open PySem.AutoSeq1 (wpAny_loadPart')
open PySem.MeetsSeq PySem.MeetsSeq2 PySem.MeetsSeq3
theorem zf1 (l b:Addr) (items items2:Array Value) (n n2:Nat) (dd dd2:Option Addr) (sl sl2:Array (Option Value)) (r:Bool) :
  Meets (Builtin.«tuple.__lt__» ⟨[.ref l,.ref b],[]⟩)
   (fun A R s=>s.heap.get? l=some { cls:=.type "tuple",dict:=dd,data:=.seq items n,slots:=sl }/\s.heap.get? b=some { cls:=.type "tuple",dict:=dd2,data:=.seq items2 n2,slots:=sl2 } /\
    LexR A.in1 s items.toList items2.toList r/\R (.ok (.ret (.bool r))) s):=
 .of_wp fun prog w A R s h=>by
  obtain ⟨hp,g,d,tk,os⟩:=s;obtain ⟨hl,hb,hL,h⟩:=h
  have f2:=AutoSeq1.sub_tuple_tuple
  wp_walk using wpAny_loadPart' hl,wpAny_loadPart' hb,wpAny_forIn_list _ (fun rest b s'=>b.1=none/\s'=⟨hp,g,d,tk,os⟩/\∃(vs ws:List Value) (r':Bool),rest=vs.zip ws /\
   LexR A.in1 ⟨hp,g,d,tk,os⟩ vs ws r'/\vs.length+items2.size=ws.length+items.size/\R (.ok (.ret (.bool r'))) ⟨hp,g,d,tk,os⟩) _
  case turn=>
   rintro ⟨y,x⟩ rest b s' ⟨hb',rfl,vs,ws,r',hz,hL',hlen,hR⟩
   cases hL' with
   | nn=>rw [List.zip_nil_left] at hz;cases hz
   | nc=>rw [List.zip_nil_left] at hz;cases hz
   | cn=>rw [List.zip_nil_right] at hz;cases hz
   | eq he hr=>
    rw [List.zip_cons_cons] at hz
    injection hz with hyx hrest
    injection hyx with hy hx
    subst hy hx
    simp only [List.length_cons] at hlen
    refine wpAny_bind (he prog w _ _ ?_)
    wp_walk
    exact ⟨rfl,rfl,_,_,_,hrest,hr,by lia,hR⟩
   | lt he hr=>
    rw [List.zip_cons_cons] at hz
    injection hz with hyx hrest
    injection hyx with hy hx
    subst hy hx
    refine wpAny_bind (he prog w _ _ ?_)
    have hri:=hr prog w
    wp_walk using hri
    exact ⟨_,rfl,by simpa using hR⟩
  case fin=>
   rintro ⟨b1,b2⟩ s' ⟨hb',rfl,vs,ws,r',hz,hL',hlen,hR⟩
   simp only at hb'
   subst hb'
   have hv:r'=decide (items.size<items2.size):=by
    cases hL' with
    | nn=>simp only [List.length_nil] at hlen;exact (decide_eq_false (by lia)).symm
    | nc=>simp only [List.length_nil,List.length_cons] at hlen;exact (decide_eq_true (by lia)).symm
    | cn=>simp only [List.length_nil,List.length_cons] at hlen;exact (decide_eq_false (by lia)).symm
    | eq _ _=>rw [List.zip_cons_cons] at hz;cases hz
    | lt _ _=>rw [List.zip_cons_cons] at hz;cases hz
   rw [hv] at hR
   wp_walk
   exact ⟨_,rfl,by simpa [Builtin.Tuple.tupleCompareSizes] using hR⟩
  case h=>exact ⟨rfl,rfl,items.toList,items2.toList,r,rfl,hL,by simp;lia,h⟩
theorem RcLt.tuples {A:Around} {s:Shared} {l b:Addr} {items items2:Array Value} {r:Bool} (hl:s.heap.IsTuple l items) (hb:s.heap.IsTuple b items2) (hL:LexR A.in1 s items.toList items2.toList r) (hu:A.units<cLine):RcLt A s (.ref l) (.ref b) r:=fun prog w E Q h=>by
 obtain ⟨⟨cls,dd,data,sl⟩,ho,hc,n,hd⟩:=id hl
 obtain ⟨⟨cls2,dd2,data2,sl2⟩,ho2,hc2,n2,hd2⟩:=id hb
 simp only at hc hd hc2 hd2
 subst hc hd hc2 hd2
 exact richCompare_meets_room (op:=.Lt) ⟨_,ho,rfl⟩ ⟨_,ho2,rfl⟩ PySem.F.slot_tuple_lt PySem.F.entry_tuple_lt (PySem.F.args_tuple_lt_2 _ _) (zf1 l b items items2 n n2 dd dd2 sl sl2 r)
  ⟨ho,ho2,hL,show Value.bool r≠Value.notImplemented/\Q (.bool r) s from ⟨(fun x=>nomatch x),h⟩⟩ hu
end
mutual
theorem zhf:∀{d:D},d.oi=true->d.pl=true
 | .int _,_=>rfl
 | .tup ds,h=>by simp only [D.pl];exact zly (by simpa only [D.oi] using h)
 | .non,p=>by simp [D.oi] at p
 | .bl _,p=>by simp [D.oi] at p
 | .str _,p=>by simp [D.oi] at p
 | .lst _,p=>by simp [D.oi] at p
 | .dk _ _,p=>by simp [D.oi] at p
 | .dt _ _,p=>by simp [D.oi] at p
 | .dn _ _,p=>by simp [D.oi] at p
 | .scr _,p=>by simp [D.oi] at p
 | .exc _ _,p=>by simp [D.oi] at p
theorem zly:∀{ds:List D},ois ds=true->pls ds=true
 | [],_=>rfl
 | d::ds,h=>by
  simp only [ois,Bool.and_eq_true] at h
  simp only [pls,zhf h.1,zly h.2,Bool.and_self]
end
section
variable {X:Cx} {pins:List (Addr×Obj)} {U:St} {H:Hp} {s:Shared}
theorem zhg (I:Inv X pins U H s) {A:Around} {n:Nat} (hu:A.units+n<cLine) (lt:∀{d e:D} {x y:V} {u v:Value} {b:Bool},d.oi=true->e.oi=true->d.dep<=n->RD X.K H d x->RD X.K H e y->RelV x u->RelV y v->z2l d e=some b->RcLt A s u v b) :
  ∀{ds es:List D} {xs ys:List V} {us vs:List Value} {b:Bool},ois ds=true->ois es=true->z4e ds<=n->RDs X.K H ds xs->RDs X.K H es ys->Vals xs us->Vals ys vs->z2b ds es=some b->LexR A s us vs b
 | [],[],_,_,_,_,b,_,_,_,r1,r2,q1,q2,h=>by
  simp only [RDs] at r1 r2;subst r1;subst r2
  cases q1;cases q2
  simp only [z2b,Option.some.injEq] at h;subst h
  exact .nn
 | [],e::es,_,_,_,_,b,_,_,_,r1,r2,q1,q2,h=>by
  simp only [RDs] at r1 r2;subst r1
  obtain ⟨y,ys,rfl,_,_⟩:=r2
  cases q1;cases q2
  simp only [z2b,Option.some.injEq] at h;subst h
  exact .nc
 | d::ds,[],_,_,_,_,b,_,_,_,r1,r2,q1,q2,h=>by
  simp only [RDs] at r1 r2;subst r2
  obtain ⟨y,ys,rfl,_,_⟩:=r1
  cases q1;cases q2
  simp only [z2b,Option.some.injEq] at h;subst h
  exact .cn
 | d::ds,e::es,_,_,_,_,b,p1,p2,hd,r1,r2,q1,q2,h=>by
  simp only [RDs] at r1 r2
  obtain ⟨x,xs,rfl,rx,rxs⟩:=r1
  obtain ⟨y,ys,rfl,ry,rys⟩:=r2
  simp only [ois,Bool.and_eq_true] at p1 p2
  simp only [z4e] at hd
  cases q1 with
  | cons a1 a2=>
   cases q2 with
   | cons b1 b2=>
    have eq:=zdm (A:=A) I n (zhf p1.1) (zhf p2.1) (by lia) hu rx ry a1 b1
    simp only [z2b] at h
    split at h
    . rename_i w
      rw [w] at eq
      exact .eq eq (zhg I hu lt p1.2 p2.2 (by lia) rxs rys a2 b2 h)
    . rename_i w
      rw [show eqD d e=false by simpa using w] at eq
      exact .lt eq (lt p1.1 p2.1 (by lia) rx ry a1 b1 h)
theorem zb3 {d e:D} {b:Bool} (h:z2l d e=some b):(∃i j,d=.int i/\e=.int j/\b=decide (i<j))\/∃ds es,d=.tup ds/\e=.tup es/\z2b ds es=some b:=by
 cases d with
 | int i=>cases e with
  | int j=>exact .inl ⟨_,_,rfl,rfl,(Option.some.inj h).symm⟩
  | _=>exact nomatch h
 | tup ds=>cases e with
  | tup es=>exact .inr ⟨_,_,rfl,rfl,h⟩
  | _=>exact nomatch h
 | _=>exact nomatch h
theorem zlz (I:Inv X pins U H s):∀(n:Nat) {A:Around} {d e:D} {x y:V} {u v:Value} {b:Bool},A.units+n<cLine->d.oi=true->e.oi=true->d.dep<=n->RD X.K H d x->RD X.K H e y->RelV x u->RelV y v->z2l d e=some b->RcLt A s u v b:=by
 intro n
 induction n with
 | zero=>
  intro A d e x y u v b hu p1 p2 hd rx ry ru rv h
  rcases zb3 h with ⟨i,j,rfl,rfl,rfl⟩ | ⟨ds,es,rfl,rfl,h⟩
  . cases rx.int;cases ry.int
    obtain ⟨t,rfl⟩:=ru;obtain ⟨t',rfl⟩:=rv
    exact fun prog w E Q q=>HT.rcLt_int A s _ _ _ _ prog w E Q q
  . simp only [D.dep] at hd;lia
 | succ n ih=>
  intro A d e x y u v b hu p1 p2 hd rx ry ru rv h
  rcases zb3 h with ⟨i,j,rfl,rfl,rfl⟩ | ⟨ds,es,rfl,rfl,h⟩
  . cases rx.int;cases ry.int
    obtain ⟨t,rfl⟩:=ru;obtain ⟨t',rfl⟩:=rv
    exact fun prog w E Q q=>HT.rcLt_int A s _ _ _ _ prog w E Q q
  . obtain ⟨a,xs,rfl,ha,ra⟩:=rx.tup
    obtain ⟨c,ys,rfl,hc,rc⟩:=ry.tup
    cases ru;cases rv
    obtain ⟨its,r1,t1⟩:=I.tupA ha
    obtain ⟨its2,r2,t2⟩:=I.tupA hc
    simp only [D.dep] at hd
    simp only [D.oi] at p1 p2
    have hu1:A.in1.units+n<cLine:=by show A.units+1+n<cLine;lia
    exact RcLt.tuples t1 t2 (zhg I hu1 (fun {d e x y u v b} q1 q2 q3 q4 q5 q6 q7 q8=>ih hu1 q1 q2 q3 q4 q5 q6 q7 q8) p1 p2 (by lia) ra rc r1 r2 h) (by lia)
end
end L2
namespace L2
open PySem PySem.Spec PyProof.Rows
section
variable {prog:Program} {w:World} {A:Around} {E:Value->Shared->Prop} {s:Shared}
theorem zf2 {a:Addr} {vs:List Value} {n:Nat} {P:PySem.Fin->Shared->Prop} (ho:s.heap.get? a=some (seqObj "list" vs.toArray n)) (hs:vs.length<2)
  (h:P (.done (.ret .none)) { s with heap:=sortedHeap s.heap a vs ((pairsOf vs).map (·.2)) }):wpAny (model prog w) A (Builtin.«list.sort» ⟨[.ref a],[]⟩) P E s:=by
 rw [list_sort_plain]
 have ha:a<s.heap.objs.size:=Heap.lt_size ho
 refine wpAny_bind (listItems_at ho rfl ?_)
 refine wpAny_bind (listUpdate_at ho rfl ?_)
 obtain ⟨e1,ho1⟩:∃e1,(s.heap.update a (Obj.mapSeq fun _=>#[])).get? a=some (seqObj "list" #[] e1):=⟨_,get?_update_seq ho (fun _=>#[])⟩
 refine wpAny_bind (seqEpoch_at ho1 rfl ?_)
 refine wpAny_bind (wpAny_newTuple ?_)
 refine wpAny_bind (wpAny_newList ?_)
 refine wpAny_holding ?_
 have ho6:(((s.heap.update a (Obj.mapSeq fun _=>#[])).push (seqObj "tuple" vs.toArray 0)).push (seqObj "list" #[] 0)).get? a=some (seqObj "list" #[] e1):=by
  rw [Heap.get?_push_ne _ _ _ (by rw [size_push',Heap.size_update];exact Nat.ne_of_lt (Nat.lt_succ_of_lt ha)),Heap.get?_push_ne _ _ _ (by rw [Heap.size_update];exact Nat.ne_of_lt ha)]
  exact ho1
 show wpAny (model prog w) A _ P E { s with heap:=((s.heap.update a (Obj.mapSeq fun _=>#[])).push (seqObj "tuple" vs.toArray 0)).push (seqObj "list" #[] 0) }
 dsimp only
 have hsz:vs.toArray.size=vs.length:=by simp
 have h2:vs.toArray.size<2:=by rw [hsz];exact hs
 rw [if_pos h2,if_pos h2]
 refine wpAny_bind (wpAny_pure ?_)
 rw [StateT.run_pure]
 refine wpAny_bind (wpAny_pure ?_)
 dsimp only
 refine wpAny_bind (seqEpoch_at ho6 rfl ?_)
 refine wpAny_bind (listUpdate_at ho6 rfl ?_ (hsz2:=by rw [Array.size_map];show (pairsOf vs).size<=_;rw [pairsOf_size,sizeLine_eq];lia))
 simp only [bne_self_eq_false,Bool.false_eq_true,if_false]
 exact wpAny_pure h
theorem zb4 {l:Addr} {vs:List Value} {Q:Value->Shared->Prop} (hl:s.heap.IsList l vs.toArray) (hs:vs.length<2)
  (h:Q (.ref (s.heap.objs.size+1)) { s with heap:=sortedAll s.heap vs ((pairsOf vs).map (·.2)) }):wpAny (model prog w) A (call (.builtin "sorted") [.ref l]) Q E s:=by
 refine Calls.call_function_entry kind_sorted plain_sorted entry_sorted (args_sorted1 _) ?_
 unfold Builtin.«sorted»
 refine wpAny_bind (m:=checkCount "sorted" 1 1 _) (wpAny_pure ?_)
 refine wpAny_bind (collect_list hl ?_ (by rw [sizeLine_eq];omega))
 refine wpAny_bind (wpAny_newList ?_ (by rw [sizeLine_eq];omega))
 have hsz:((s.heap.push (seqObj "list" #[] 0)).update s.heap.objs.size (Obj.mapSeq (·++vs.toArray))).objs.size=s.heap.objs.size+1:=by
  rw [Heap.size_update,size_push']
 have hoL:(((s.heap.push (seqObj "list" #[] 0)).update s.heap.objs.size (Obj.mapSeq (·++vs.toArray))).push (seqObj "list" vs.toArray 0)).get? (s.heap.objs.size+1)=some (seqObj "list" vs.toArray 0):=by
  rw [<-hsz];exact Heap.get?_push_size _ rfl
 show wpAny _ _ _ _ _ { s with heap:=((s.heap.push (seqObj "list" #[] 0)).update s.heap.objs.size (Obj.mapSeq (·++vs.toArray))).push (seqObj "list" vs.toArray 0) }
 rw [hsz]
 refine wpAny_bind (wpAny_holding (wpAny_call_entry slot_list_sort ⟨_,hoL,rfl⟩ entry_list_sort (zf2 hoL hs ⟨_,rfl,?_⟩) (args_list_sort _)))
 exact wpAny_pure ⟨_,rfl,h⟩
end
noncomputable def isI:D->Bool
 | .int _=>true
 | _=>false
noncomputable def zm0:D->Bool
 | .tup (.int _::_)=>true
 | _=>false
noncomputable def zqm:D->Bool
 | .tup (.tup _::_)=>true
 | _=>false
noncomputable def z7f (ds:List D):Bool:=decide (ds.length<64)&&ois ds&&decide (z4e ds<=20)&&ds.all (fun d=>ds.all fun e=>(z2l d e).isSome)&&(ds.all isI||ds.all zm0||ds.all zqm)
noncomputable def z3e:List D->Option D
 | [.lst ds]=>if z7f ds=true then some (.lst (z3u ds)) else none
 | _=>none
def zhh (K:Frag):List V->Hp->VK->Prop:=fun xs H Q=>∃p ys ds,xs=[.ref p]/\H p=some (.lst ys)/\RDs K H ds ys/\z7f ds=true/\(∀(l:Addr) (is:List Nat),H l=none->(∀i∈is,i<ys.length)->z3u ds=is.map (fun i=>ds.getD i (.int 0))->Q (.ref l) (upd H l (.lst (is.map fun i=>ys.getD i .non))))/\∀(l:Addr) (ns:List Int),H l=none->z3u ds=ns.map D.int->Q (.ref l) (upd H l (.lst (ns.map V.int)))
theorem RDs.pick {K:Frag} {H:Hp} {ds:List D} {ys:List V} (r:RDs K H ds ys):∀{is:List Nat},(∀i∈is,i<ys.length)->RDs K H (is.map fun i=>ds.getD i (.int 0)) (is.map fun i=>ys.getD i .non)
 | [],_=>by simp [RDs]
 | i::is,h=>by
  have hi:=h i List.mem_cons_self
  have hy:ys[i]?=some ys[i]:=by simp [hi]
  obtain ⟨d,h1,h2⟩:=r.get hy
  simp only [List.map_cons]
  refine .cons ?_ (RDs.pick r fun j hj=>h j (List.mem_cons_of_mem _ hj))
  rw [List.getD_eq_getElem?_getD,List.getD_eq_getElem?_getD,h1,hy]
  exact h2
theorem z7g {K:Frag}:z55 K true z3e (zhh K):=by
 intro H0 H xs ds z Q s r ho k
 unfold z3e at ho
 split at ho<;>first | cases ho | skip
 split at ho<;>cases ho
 rename_i es hok
 obtain ⟨x,rfl,q1⟩:=r.uno
 obtain ⟨p,ys,rfl,hp,ry⟩:=q1.lst
 refine ⟨p,ys,es,rfl,s _ _ hp,ry.mono s,hok,fun l is hl hi he=>k _ _ (.new s hl fun H' hH=>?_),fun l ns hl he=>k _ _ (.new s hl fun H' hH=>?_)⟩
 . simp only [OB]
   refine ⟨_,hH,?_⟩
   rw [he]
   exact ry.pick hi
 . simp only [OB]
   refine ⟨_,hH,?_⟩
   rw [he]
   exact .ofInts _
section
variable {X:Cx} {pins:List (Addr×Obj)} {U:St} {H:Hp} {s:Shared}
theorem Vals.pick {ys:List V} {its:List Value} (r:Vals ys its):∀{is:List Nat},(∀i∈is,i<ys.length)->Vals (is.map fun i=>ys.getD i .non) (is.map fun i=>its.getD i Value.none)
 | [],_=>.nil
 | i::is,h=>by
  have hi:=h i List.mem_cons_self
  have hy:ys[i]?=some ys[i]:=by simp [hi]
  obtain ⟨u,h1,h2⟩:=r.get hy
  simp only [List.map_cons]
  refine .cons ?_ (Vals.pick r fun j hj=>h j (List.mem_cons_of_mem _ hj))
  rw [List.getD_eq_getElem?_getD,List.getD_eq_getElem?_getD,h1,hy]
  exact h2
theorem zhi (I:Inv X pins U H s) {A:Around} (hu:A.units+20<cLine) {b:Bool} {fin:Bool} {Q:Bool->Shared->Prop} {r:Bool} (q:Q r s) :
  ∀{ds es:List D} {xs ys:List V} {us vs:List Value} (i:Nat),(b=true->i=0->(∃k r,ds=.int k::r)/\∃k r,es=.int k::r)->ois ds=true->ois es=true->z4e ds<=20->RDs X.K H ds xs->RDs X.K H es ys->Vals xs us->Vals ys vs->z2b ds es=some r ->
   fin=decide (us.length<vs.length)->PySem.W.KatLex X.prog X.w A b fin Q (us.zip vs) i s
 | [],[],_,_,_,_,i,_,_,_,_,r1,r2,q1,q2,h,hf=>by
  simp only [RDs] at r1 r2;subst r1;subst r2
  cases q1;cases q2
  simp only [z2b,Option.some.injEq] at h;subst h
  simp at hf;subst hf
  exact q
 | [],e::es,_,_,_,_,i,_,_,_,_,r1,r2,q1,q2,h,hf=>by
  simp only [RDs] at r1 r2;subst r1
  obtain ⟨y,ys,rfl,_,_⟩:=r2
  cases q1;cases q2
  simp only [z2b,Option.some.injEq] at h;subst h
  simp at hf;subst hf
  exact q
 | d::ds,[],_,_,_,_,i,_,_,_,_,r1,r2,q1,q2,h,hf=>by
  simp only [RDs] at r1 r2;subst r2
  obtain ⟨y,ys,rfl,_,_⟩:=r1
  cases q1;cases q2
  simp only [z2b,Option.some.injEq] at h;subst h
  simp at hf;subst hf
  exact q
 | d::ds,e::es,_,_,_,_,i,hb,p1,p2,hd,r1,r2,q1,q2,h,hf=>by
  simp only [RDs] at r1 r2
  obtain ⟨x,xs,rfl,rx,rxs⟩:=r1
  obtain ⟨y,ys,rfl,ry,rys⟩:=r2
  simp only [ois,Bool.and_eq_true] at p1 p2
  simp only [z4e] at hd
  cases q1 with
  | cons a1 a2=>
   cases q2 with
   | cons b1 b2=>
    have eq:=zdm (A:=A) I 20 (zhf p1.1) (zhf p2.1) (by lia) hu rx ry a1 b1
    rw [List.zip_cons_cons]
    refine PySem.W.kat_cons (eq X.prog X.w _ _ ?_)
    simp only [z2b] at h
    simp only [List.length_cons,Nat.add_lt_add_iff_right] at hf
    split at h
    . rename_i w
      rw [w]
      exact PySem.W.kat_yes (zhi I hu q (i+1) (fun _ z=>by lia) p1.2 p2.2 (by lia) rxs rys a2 b2 h hf)
    . rename_i w
      rw [show eqD d e=false by simpa using w]
      refine PySem.W.kat_no ?_
      by_cases hbi:(b&&i==0)=true
      . rw [hbi]
        simp only [Bool.and_eq_true,beq_iff_eq] at hbi
        obtain ⟨⟨k1,s1,e1⟩,k2,s2,e2⟩:=hb hbi.1 hbi.2
        cases e1;cases e2
        cases rx.int;cases ry.int
        obtain ⟨t,rfl⟩:=a1;obtain ⟨t',rfl⟩:=b1
        refine oneLt_int ?_
        simp only [z2l,Option.some.injEq] at h
        rw [h];exact q
      . rw [show (b&&i==0)=false by simpa using hbi]
        exact PySem.W.kat_one _ _ (zlz I 20 hu p1.1 p2.1 (by lia) rx ry a1 b1 h X.prog X.w _ _ q)
theorem zm1 {M:Model} (I:Inv X pins U H s) (T:Bool):∀{ds:List D} {xs:List V} {us:List Value},(∀d∈ds,(if T=true then zqm d else zm0 d)=true)->RDs X.K H ds xs->Vals xs us ->
  ∃fs:List Value,PySem.W.KatTups s.heap us fs/\fs.length=ds.length/\∀v∈fs,Looks M s.heap (typeOf v) (.type (if T=true then "tuple" else "int"))
 | [],_,_,_,r,q=>by
  simp only [RDs] at r;subst r;cases q
  exact ⟨[],trivial,rfl,fun v hv=>by cases hv⟩
 | d::ds,_,_,h,r,q=>by
  simp only [RDs] at r
  obtain ⟨x,xs,rfl,rx,rxs⟩:=r
  cases q with
  | cons q1 q2=>
   obtain ⟨fs,h1,h2,h3⟩:=zm1 (M:=M) I T (fun d hd=>h d (List.mem_cons_of_mem _ hd)) rxs q2
   have hd:=h d List.mem_cons_self
   cases T with
   | false=>
    rw [if_neg Bool.false_ne_true] at hd
    cases d<;>simp only [zm0] at hd<;>first | cases hd | skip
    rename_i es
    cases es with
    | nil=>simp at hd
    | cons e es=>
     cases e<;>simp at hd
     obtain ⟨a,ys,rfl,ha,ra⟩:=rx.tup
     cases q1
     obtain ⟨its,rv,t⟩:=I.tupA ha
     simp only [RDs] at ra
     obtain ⟨y,ys,rfl,ry,rys⟩:=ra
     cases ry.int
     cases rv with
     | cons v1 v2=>
      obtain ⟨tk,rfl⟩:=v1
      obtain ⟨o,ho,hc,n,hdt⟩:=t
      refine ⟨_::fs,PySem.W.KatTups.cons ho hc hdt rfl h1,by simp [h2],fun v hv=>?_⟩
      rcases List.mem_cons.mp hv with rfl | hv
      . exact .now
      . exact h3 v hv
   | true=>
    rw [if_pos rfl] at hd
    cases d<;>simp only [zqm] at hd<;>first | cases hd | skip
    rename_i es
    cases es with
    | nil=>simp at hd
    | cons e es=>
     cases e<;>simp at hd
     obtain ⟨a,ys,rfl,ha,ra⟩:=rx.tup
     cases q1
     obtain ⟨its,rv,t⟩:=I.tupA ha
     simp only [RDs] at ra
     obtain ⟨y,ys,rfl,ry,rys⟩:=ra
     obtain ⟨a2,ys2,rfl,ha2,ra2⟩:=ry.tup
     cases rv with
     | cons v1 v2=>
      cases v1
      obtain ⟨its2,rv2,o2,ho2,hc2,_⟩:=I.tupA ha2
      obtain ⟨o,ho,hc,n,hdt⟩:=t
      refine ⟨_::fs,PySem.W.KatTups.cons ho hc hdt rfl h1,by simp [h2],fun v hv=>?_⟩
      rcases List.mem_cons.mp hv with rfl | hv
      . have lk:Looks M s.heap (typeOf (.ref a2)) o2.cls:=(PySem.W.Looks.ld ho2).andThen .now
        rw [hc2] at lk
        exact lk
      . exact h3 v hv
theorem Vals.getD {ys:List V} {its:List Value} (r:Vals ys its) {i:Nat} (h:i<ys.length):RelV (ys.getD i .non) (its.getD i Value.none):=by
 have hy:ys[i]?=some ys[i]:=by simp [h]
 obtain ⟨u,h1,h2⟩:=r.get hy
 rw [List.getD_eq_getElem?_getD,List.getD_eq_getElem?_getD,h1,hy]
 exact h2
theorem RDs.getD {ds:List D} {ys:List V} (r:RDs X.K H ds ys) {i:Nat} (h:i<ys.length):RD X.K H (ds.getD i (.int 0)) (ys.getD i .non):=by
 have hy:ys[i]?=some ys[i]:=by simp [h]
 obtain ⟨d,h1,h2⟩:=r.get hy
 rw [List.getD_eq_getElem?_getD,List.getD_eq_getElem?_getD,h1,hy]
 exact h2
theorem z9w {α:Type} {l:List α} {i:Nat} {d:α} (h:i<l.length):l.getD i d∈l:=by
 rw [List.getD_eq_getElem?_getD,List.getElem?_eq_getElem h]
 exact List.getElem_mem h
theorem z7h (hc:X.calm=true) (hu:X.A.units+64<cLine):CallR X (.builtin "sorted") (zhh X.K):=by
 intro pins s U H xs us Q I r h
 obtain ⟨p,ys,ds,rfl,hp,rd,hok,k,kI⟩:=h
 obtain ⟨u,rfl,ru⟩:=z4o r
 cases ru
 obtain ⟨its,rv,pl,hz⟩:=I.list (.of hp)
 obtain ⟨m,hn,_⟩:=id I.loc
 have F:=Att.fr_all hn
 have N:=z53 (g:=Att.noObjs s.heap) (h:=s.heap) (L:=X.env.locals)
 unfold z7f at hok
 simp only [Bool.and_eq_true,Bool.or_eq_true,decide_eq_true_eq] at hok
 obtain ⟨⟨⟨⟨h64,hoi⟩,hdep⟩,hcmp⟩,hkind⟩:=hok
 have hl1:=rd.length
 have hl2:=rv.length
 have fin:∀{D:Addr} {h':Heap} {tk:Nat} {e:Nat} {is:List Nat},(∀i∈is,i<ys.length)->z3u ds=is.map (fun i=>ds.getD i (.int 0))->Fr (Att.noObjs s.heap) X.env.locals h' m->News (Att.noObjs s.heap) X.env.locals h' ((D,seqObj "list" (is.map fun i=>its.getD i Value.none).toArray e)::zg9 s X.env.locals)->s.heap.get? D=none ->
   EP X pins U Q (.ref D) { s with heap:=h',toks:=tk }:=fun {D h' tk e is} hi he F' N' hD=>by
  have hlen:(is.map fun i=>ys.getD i .non).length<=sizeLine:=by
   have e1:is.length=ds.length:=by have:=congrArg List.length he;rw [List.length_map,(z1a ds).length_eq] at this;exact this.symm
   rw [List.length_map,e1,hl1];exact hz
  obtain ⟨HD,I'⟩:=I.frnew (tk:=tk) (o:=.lst (is.map fun i=>ys.getD i .non)) hn F' N' hD ⟨hlen,_,e,rv.pick hi,(N' _ (.head _)).1⟩
  exact ⟨.ref D,_,I',rfl,k D is HD hi he⟩
 by_cases hI:ds.all isI=true
 . -- ints
   have asInts:∀ds:List D,ds.all isI=true->∃ns:List Int,ds=ns.map D.int:=by
    intro ds hI
    induction ds with
    | nil=>exact ⟨[],rfl⟩
    | cons d ds ih=>
     simp only [List.all_cons,Bool.and_eq_true] at hI
     obtain ⟨ns,e⟩:=ih hI.2
     cases d<;>simp [isI] at hI
     exact ⟨_::ns,by rw [e];rfl⟩
   obtain ⟨ns,hns⟩:=asInts ds hI
   subst hns
   have ey:ys=ns.map V.int:=z1t (z1m ns) rd
   subst ey
   refine sorted_N F N pl.isList (z2f rv) (by simp at hl1 hl2 h64;lia) fun h' vs' ns' e F' N' hi' hp' hs'=>?_
   have hsame:z3u (ns.map D.int)=ns'.map D.int:=by
    refine z58 (z57 (z1a _) hoi) ((z1a _).trans (hp'.symm.map _)) (z2n hoi) ?_
    refine List.pairwise_map.mpr (hs'.imp fun {a b} hab=>?_)
    simp only [ltT,decide_eq_false_iff_not];lia
   have hlen:(ns'.map V.int).length<=sizeLine:=by
    rw [List.length_map,hp'.length_eq];simpa using hz
   have hD:s.heap.get? (s.heap.objs.size+1)=none:=Heap.get?_none_of_le (Nat.le_succ _)
   obtain ⟨HD,I'⟩:=I.frnew (tk:=s.toks) (o:=.lst (ns'.map V.int)) hn F' N' hD ⟨hlen,vs',e,z73 hi',(N' _ (.head _)).1⟩
   exact ⟨.ref _,_,I',rfl,kI _ ns' HD hsame⟩
 . by_cases h2:2<=its.length
   . obtain ⟨T,hT⟩:∃T:Bool,∀d∈ds,(if T=true then zqm d else zm0 d)=true:=by
      rcases hkind with (z | z) | z
      . exact absurd z hI
      . exact ⟨false,fun d hd=>by rw [if_neg Bool.false_ne_true];exact List.all_eq_true.mp z d hd⟩
      . exact ⟨true,fun d hd=>by rw [if_pos rfl];exact List.all_eq_true.mp z d hd⟩
     refine PySem.W.kat_sorted F N pl.isList h2 (by lia) fun D e1 h' F' N' hlt=>?_
     have N'':News (Att.noObjs s.heap) X.env.locals h' (zg9 s X.env.locals):=fun p hp=>N' p (.tail _ hp)
     have I':Inv X pins U H { s with heap:=h' }:=I.frn (tk:=s.toks) hn F' N''
     have hDL:D≠X.env.locals:=(N' _ (.head _)).2.1
     have hD:s.heap.get? D=none:=by
      cases q:s.heap.get? D with
      | none=>rfl
      | some o=>exact absurd (hlt (D,o) (z6v hDL (Att.noObjs_get _ _) q)) (Nat.lt_irrefl _)
     obtain ⟨fs,t1,t2,t3⟩:=zm1 (M:=model X.prog X.w) I' T hT rd rv
     have huu:X.A.in1.in1.units+20<cLine:=by show X.A.units+1+1+20<cLine;lia
     refine PySem.W.kat_kind t1 (by lia) t3 (by cases T<;>rfl) ?_
     have h0:0<its.length:=by lia
     refine zlx (n:=its.length) (lt:=ltI ds) ?_ (zob h0) ?_
     . intro i j C hi hj hC
       show wpAny (model X.prog X.w) X.A.in1.in1 (keyLt' _ (its.getD i Value.none) (its.getD j Value.none)) C _ _
       have hi':i<ys.length:=by lia
       have hj':j<ys.length:=by lia
       have r1:=rd.getD hi'
       have r2:=rd.getD hj'
       have v1:=rv.getD hi'
       have v2:=rv.getD hj'
       have m1:ds.getD i (.int 0)∈ds:=z9w (by lia)
       have m2:ds.getD j (.int 0)∈ds:=z9w (by lia)
       have o1:=(ois_mem.mp hoi) _ m1
       have o2:=(ois_mem.mp hoi) _ m2
       have d1:=z96 m1
       have f1:=hT _ m1
       have f2:=hT _ m2
       have hc2:(z2l (ds.getD i (.int 0)) (ds.getD j (.int 0))).isSome=true:=List.all_eq_true.mp (List.all_eq_true.mp hcmp _ m1) _ m2
       obtain ⟨b,hb⟩:=Option.isSome_iff_exists.mp hc2
       have hbl:b=ltI ds i j:=zlt hb
       rw [<-hbl] at hC
       generalize ds.getD i (.int 0)=da at *
       generalize ds.getD j (.int 0)=db at *
       have tp:∀{d:L2.D},(if T=true then zqm d else zm0 d)=true->∃es,d=.tup es/\(T=false->∃k r,es=.int k::r):=fun {d} h=>by
        cases T with
        | false=>
         rw [if_neg Bool.false_ne_true] at h
         cases d<;>simp only [zm0] at h<;>first | cases h | skip
         rename_i es
         cases es with
         | nil=>simp at h
         | cons e es=>cases e<;>simp at h;exact ⟨_,rfl,fun _=>⟨_,_,rfl⟩⟩
        | true=>
         rw [if_pos rfl] at h
         cases d<;>simp only [zqm] at h<;>first | cases h | skip
         exact ⟨_,rfl,fun z=>nomatch z⟩
       obtain ⟨ea,rfl,ka⟩:=tp f1
       obtain ⟨eb,rfl,kb⟩:=tp f2
       obtain ⟨a,xa,e1,ha,ra⟩:=r1.tup
       obtain ⟨c,xc,e2,hcc,rc⟩:=r2.tup
       rw [e1] at v1;rw [e2] at v2
       rw [show its.getD i Value.none=Value.ref a from v1,show its.getD j Value.none=Value.ref c from v2]
       obtain ⟨ia,va,oa,hoa,_,na,hda⟩:=I'.tupA ha
       obtain ⟨ic,vc,oc,hoc,_,nc,hdc⟩:=I'.tupA hcc
       simp only [L2.D.oi] at o1 o2
       simp only [L2.D.dep] at d1
       simp only [z2l] at hb
       refine PySem.W.kat_lt hoa hda hoc hdc ?_
       refine zhi I' huu hC 0 (fun hb0 _=>?_) o1 o2 (by lia) ra rc va vc hb (by simp)
       cases T with
       | false=>exact ⟨ka rfl,kb rfl⟩
       | true=>exact absurd hb0 (by simp)
     . refine PySem.W.KasFin.intro F' N' (.head fun p hp=>Nat.ne_of_lt (hlt p hp)) fun h'' c F3 N3=>?_
       have hl3:its.length=ds.length:=by lia
       rw [hl3] at N3
       have pm:=(zh8 (zhd hoi) (n:=ds.length) (by lia)).1
       refine fin (is:=(z1p (ltI ds) (PySem.W.kas_sort ds.length)).toList) (fun i hi=>?_) (zf0 hoi (by lia)).symm F3 N3 hD
       have:=pm.toList.mem_iff.mp hi
       simp at this
       lia
   . -- at most one
     have hs1:z3u ds=ds:=by
      match ds,hl1,hl2 with
      | [],_,_=>rfl
      | [d],_,_=>rfl
      | _::_::_,a,b=>simp at a;lia
     refine zb4 pl.isList (by lia) ?_
     obtain ⟨e,he⟩:=sortedAll_at s.heap its ((pairsOf its).map (·.2))
     have kp:∀b o,s.heap.get? b=some o->(sortedAll s.heap its ((pairsOf its).map (·.2))).get? b=some o:=fun b o q=>sortedAll_old q
     have hout:(pairsOf its).map (·.2)=(List.map (fun i=>its.getD i Value.none) (List.range its.length)).toArray:=by
      have pz:∀l:List Value,l.length<2->(pairsOf l).map (·.2)=(List.map (fun i=>l.getD i Value.none) (List.range l.length)).toArray:=fun l hl=>by
       match l,hl with
       | [],_=>simp [pairsOf]
       | [v],_=>simp [pairsOf]
       | _::_::_,z=>simp at z;lia
      exact pz its (by lia)
     rw [hout] at he kp ⊢
     have hN:=N.kept_cons F kp (Nat.le_succ _) he
     refine fin (is:=List.range its.length) (fun i hi=>by simp at hi;lia) ?_ (F.kept kp) hN (Heap.get?_none_of_le (Nat.le_succ _))
     rw [hs1]
     apply List.ext_getElem?
     intro i
     rw [List.getElem?_map]
     by_cases hi:i<its.length
     . rw [List.getElem?_range hi]
       simp [show i<ds.length by lia]
     . rw [List.getElem?_eq_none (show (List.range its.length).length<=i by simpa using hi),List.getElem?_eq_none (by lia)];rfl
end
section
variable {X:Cx} {K:Frag}
noncomputable def zfk (n:Int) (ns:List Int):Int:=ns.foldl (fun a b=>if b > a then b else a) n
theorem z7i:∀(ns:List Int) (n:Int),zfk n ns∈n::ns/\∀a∈n::ns,a<=zfk n ns
 | [],n=>by simp [zfk]
 | b::ns,n=>by
  have ih:=z7i ns (if b > n then b else n)
  show zfk (if b > n then b else n) ns∈_/\∀a∈_,a<=zfk (if b > n then b else n) ns
  generalize zfk (if b > n then b else n) ns=M at ih
  obtain ⟨h1,h2⟩:=ih
  constructor
  . rcases List.mem_cons.mp h1 with z | z
    . rw [z];split<;>simp
    . simp [z]
  . intro a ha
    have h3:=h2 _ List.mem_cons_self
    rcases List.mem_cons.mp ha with rfl | ha
    . split at h3<;>lia
    . rcases List.mem_cons.mp ha with rfl | ha
      . split at h3<;>lia
      . exact h2 a (List.mem_cons_of_mem _ ha)
noncomputable def zf3:List D->Option D
 | [.lst ds]=>match z11 ds with
  | some (n::ns)=>some (.int (zfk n ns))
  | _=>none
 | _=>none
def ztb:List V->Hp->VK->Prop:=fun xs H Q=>∃p n ns,xs=[.ref p]/\H p=some (.lst ((n::ns).map V.int))/\Q (.int (zfk n ns)) H
theorem ztc (hc:X.calm=true):CallR X (.builtin "max") ztb:=by
 intro pins s U H xs us Q I r h
 obtain ⟨p,n,ns,rfl,hp,q⟩:=h
 obtain ⟨u,rfl,ru⟩:=z4o r
 cases ru
 obtain ⟨its,rv,pl,_⟩:=I.list (.of hp)
 obtain ⟨m,hn,_⟩:=id I.loc
 refine max_list_N (I.ok.hd hc) (Att.fr_all hn) (z53 (g:=Att.noObjs s.heap) (L:=X.env.locals)) pl.isList (z2f rv) (by simp) fun h' M t tk F N hM hle=>?_
 obtain ⟨a1,a2⟩:=z7i ns n
 have e:M=zfk n ns:=Int.le_antisymm (a2 M hM) (hle _ a1)
 exact ⟨.int M,H,I.frn hn F N,⟨t,rfl⟩,by rw [e];exact q⟩
theorem zoc:z55 K false zf3 ztb:=by
 intro H0 H xs ds z Q s r ho k
 unfold zf3 at ho
 split at ho<;>first | cases ho | skip
 split at ho<;>cases ho
 rename_i es n ns hq
 obtain ⟨x,rfl,q1⟩:=r.uno
 obtain ⟨a,ys,rfl,ha,ra⟩:=q1.lst
 have e:=z1t hq ra
 subst e
 exact ⟨a,n,ns,rfl,s _ _ ha,k _ H (.pure s (.mkInt _))⟩
end
theorem zhj {K:Frag} {h:Heap} {C:Addr} {bmB:List Value} {newId:String} (X:K.In h) (q:PySem.W.excIn K C bmB newId=true) :
  ∃bm N nm qn bs hdct sn sub ab col dd k0 k1 k2 k3 k5 mN,h.get? C=some (excClassObj nm qn C N bs bm hdct sn sub ab col dd k0 k1 k2 k3 k5 newId)/\h.Ns N mN/\mN "__init__"=none/\OwnTail h bmB bm:=by
 unfold PySem.W.excIn at q
 split at q<;>try cases q
 rename_i dd cd sl ho
 split at q<;>try cases q
 rename_i C' bm k0 k1 k2 k3 n k5 hm hs
 simp only [Bool.and_eq_true,beq_iff_eq,Bool.not_eq_true'] at q
 obtain ⟨⟨⟨⟨⟨e1,e2⟩,hdel⟩,ht⟩,hok⟩,hni⟩:=q
 subst e1 e2
 have ho:=X _ _ ho
 cases cd
 dsimp only at hm hdel hok hni
 subst hm hdel
 have hsl:sl=#[k0,k1,k2,k3,some (.builtin n),k5]:=by
  cases sl
  simp only at hs
  rw [hs]
 rw [hsl] at ho
 exact ⟨bm,_,_,_,_,_,_,_,_,_,dd,k0,k1,k2,k3,k5,_,ho,.of_isNs (PySem.W.isNs_of_in X hok),PySem.W.nsMap_none_of_in X hok hni,PySem.W.tail_of_in X ht⟩
noncomputable def zhk (K:Frag) (C:Addr) (bmB:List Value) (newId:String):Bool:=match K.lookup C with
 | some ⟨.type "type",_,.cls cd,sl⟩=>(match cd.mro,sl.toList with
  | .ref C'::bm,[_,_,_,_,some (.builtin n),_]=>C'==C&&n==newId&&!cd.hasDel&&PySem.W.tailIn K bmB bm&&cd.hasDict
  | _,_=>false)
 | _=>false
theorem zk5 {K:Frag} {h:Heap} {C:Addr} {bmB:List Value} {newId:String} (X:K.In h) (q:zhk K C bmB newId=true) :
  ∃bm N nm qn bs sn sub ab col dd k0 k1 k2 k3 k5,h.get? C=some (excClassObj nm qn C N bs bm true sn sub ab col dd k0 k1 k2 k3 k5 newId)/\OwnTail h bmB bm:=by
 unfold zhk at q
 split at q<;>try cases q
 rename_i dd cd sl ho
 split at q<;>try cases q
 rename_i C' bm k0 k1 k2 k3 n k5 hm hs
 simp only [Bool.and_eq_true,beq_iff_eq,Bool.not_eq_true'] at q
 obtain ⟨⟨⟨⟨e1,e2⟩,hdel⟩,ht⟩,hdc⟩:=q
 subst e1 e2
 have ho:=X _ _ ho
 cases cd
 dsimp only at hm hdel hdc
 subst hm hdel hdc
 have hsl:sl=#[k0,k1,k2,k3,some (.builtin n),k5]:=by
  cases sl
  simp only at hs
  rw [hs]
 rw [hsl] at ho
 exact ⟨bm,_,_,_,_,_,_,_,_,dd,k0,k1,k2,k3,k5,ho,PySem.W.tail_of_in X ht⟩
def XCl (K:Frag) (C:Addr) (bmB:List Value) (newId:String):Prop:=PySem.W.excIn K C bmB newId=true\/zhk K C bmB newId=true
theorem zhl {K:Frag} {h:Heap} {C:Addr} {bmB:List Value} {newId:String} (X:K.In h) (q:XCl K C bmB newId) :
  ∃bm N nm qn bs hdct sn sub ab col dd k0 k1 k2 k3 k5,h.get? C=some (excClassObj nm qn C N bs bm hdct sn sub ab col dd k0 k1 k2 k3 k5 newId)/\OwnTail h bmB bm:=by
 rcases q with q | q
 . obtain ⟨bm,N,nm,qn,bs,hdct,sn,sub,ab,col,dd,k0,k1,k2,k3,k5,mN,hC,_,_,T⟩:=zhj X q
   exact ⟨bm,N,nm,qn,bs,hdct,sn,sub,ab,col,dd,k0,k1,k2,k3,k5,hC,T⟩
 . obtain ⟨bm,N,nm,qn,bs,sn,sub,ab,col,dd,k0,k1,k2,k3,k5,hC,T⟩:=zk5 X q
   exact ⟨bm,N,nm,qn,bs,true,sn,sub,ab,col,dd,k0,k1,k2,k3,k5,hC,T⟩
section
variable {X:Cx} {x:Str} {C:Addr} {bmB:List Value} {B newId initId:String} {np cpos pos:Pos} {e:Expr} {es:List Expr} {t:TA} {EX:XW} {fr:Bool} {fs:DE->R (List D)}
theorem zk6 (FB:ExcBaseFacts B newId initId bmB) (hcalm:X.calm=true) (hg:Gl X x) (hm:X.mg x=some (.ref C)) (hq:PySem.W.excIn X.K C bmB newId=true) (ha:PA X (e::es) t) (E:Hp->Prop)
  (hE:∀(pins:List (Addr×Obj)) (U:St) (H:Hp) (s:Shared) (a:Addr) (s':Shared) (args:List Value),Inv X pins U H s->Heap.MadeExcOf s.heap s'.heap a (.ref C) args->s'.os=s.os->AllBare s'.gens->E H->X.xe (.ref a) s')
  (hdb:(x==("__debug__":Str))=false:=by decide) (he:starEach (e::es) X.env=(false,eval e X.env)::starEach es X.env:=by rfl) (hpl:(backTo cpos (starEach es X.env)).any (·.1)=false:=by rfl) :
  PS X (.Raise (some (.Call (.Name x np) (e::es) [] cpos)) none pos) (fun _ U H=>t U H fun vs H1=>vs.length<=sizeLine/\E H1):=by
 intro pins s U H D I h
 obtain ⟨bm,N,nm,qn,bs,hdct,sn,sub,ab,col,dd,k0,k1,k2,k3,k5,mN,hC,hN,hni,T⟩:=zhj I.ok.mod.kin hq
 refine wpAny_Raise_call_subT (C:=C) (nm:=nm) (q:=qn) (N:=N) (bs:=bs) (bm:=bm) (hdct:=hdct) (sn:=sn) (sub:=sub) (ab:=ab) (col:=col) (dd:=dd) (k0:=k0) (k1:=k1) (k2:=k2) (k3:=k3) (k5:=k5)
  FB (mN:=mN) (T.hasType FB.hasBase) (I.ok.hd hcalm) (by rw [he];show (false||(backTo cpos (starEach es X.env)).any (·.1))=false;rw [hpl];rfl) hni (z6w I hg hm ⟨rfl,?_⟩ hdb)
 have go:=ha cpos pins s U H _ I h
 rw [he] at go ⊢
 refine Calls.evalArgs_plain (wpAny_mono go (fun us s2 ⟨vs,H1,I1,r,hl,hE1⟩=>⟨rfl,by rw [<-r.length];exact hl,I1.bk _ _ hC,hN.keeps I1.bk,T.keeps I1.bk,fun h' a hx=>?_⟩) fun _ _ y=>y)
 exact hE pins U H1 s2 a _ us I1 hx rfl I1.bare hE1
noncomputable def z64 (c:String) (fs:DE->R (List D)):DS->SR:=fun ρ=>(fs (see ρ)).toS fun ds=>if ds.length<=1000 then .er ⟨c,[]⟩ else .st
theorem zod {K:Frag} {De:Ends} {U:St} {H:Hp} {c:String} (h:TSd K EX fr (z64 c fs) De U H):TAd K EX fs U H fun vs H1=>vs.length<=sizeLine/\EX.p ⟨c,[]⟩ H1:=by
 obtain ⟨Hc,Hb,H0,ρ,sb,R,h⟩:=h
 unfold z64 at h
 rw [SK.toS] at h
 refine ⟨sb.trans R.sb,see ρ,HeOf (List.replicate ρ.length true) ρ U H0 H,R.heH _,by rw [<-z77];exact R.re _,h.mono fun ds z vs H' H0' s e r=>?_⟩
 split at z
 . rename_i hl
   exact ⟨z9b (by rw [<-r.length];exact hl),z H' ((sb.trans R.sb).trans s)⟩
 . exact z.elim
theorem zhm {c:String} (L:Lnd X EX) (FB:ExcBaseFacts B newId initId bmB) (hcalm:X.calm=true) (hg:Gl X (c:Str)) (hm:X.mg (c:Str)=some (.ref C)) (hq:PySem.W.excIn X.K C bmB newId=true) (ha:QA X EX (e::es) fs)
  (hdb:(((c:Str))==("__debug__":Str))=false:=by decide) (he:starEach (e::es) X.env=(false,eval e X.env)::starEach es X.env:=by rfl) (hpl:(backTo cpos (starEach es X.env)).any (·.1)=false:=by rfl) :
  QS X EX fr (.Raise (some (.Call (.Name (c:Str) np) (e::es) [] cpos)) none pos) (z64 c fs):=
 ⟨(zk6 FB hcalm hg hm hq ha.h (fun H=>EX.p ⟨c,[]⟩ H) (fun pins U H s a s' args I hx ho hb hp=>L.md pins U H H s a C none s' ⟨c,[]⟩ I (.of hx) (I.hok.kept hx.keeps) (Un.kept hx.keeps) (I.hok.none hx.new) ho hb hm hp (.inl rfl)) hdb he hpl).imp fun _ _ _ q=>zod q⟩
end
theorem zhn {M:Model} {A:Around} {E:Value->Shared->Prop} {nm nmD q qD:Str} {C N DD ND:Addr} {bs bm bsD bmD:List Value} {hdct hdctD:Bool} {sn snD:List Str} {sub subD:List Value} {ab abD:Bool} {col colD:Option Bool} {dd ddD:Option Addr} {k0 k1 k2 k3 k5 j0 j1 j2 j3 j5:Option Value} {newId newD:String}
  {h:Heap} {g:Array GenState} {d:Drawn} {t:Nat} {os:OsState} {e:Addr} {oe:Obj} {Q:Bool->Shared->Prop}
  (hC:h.get? C=some (excClassObj nm q C N bs bm hdct sn sub ab col dd k0 k1 k2 k3 k5 newId)) (hD:h.get? DD=some (excClassObj nmD qD DD ND bsD bmD hdctD snD subD abD colD ddD j0 j1 j2 j3 j5 newD)) (he:h.get? e=some oe) (hcls:oe.cls=.ref C)
  (hbase:bmD.contains (.type "BaseException")=true) (hq:Q ((Value.ref C::bm).contains (.ref DD)) ⟨h,g,d,t,os⟩):wpAny M A (excMatches (.ref e) (.ref DD)) Q E ⟨h,g,d,t,os⟩:=by
 have hcB:(Value.ref DD::bmD).contains (.type "BaseException")=true:=by rw [List.contains_cons,hbase,Bool.or_true]
 have f:=tc_notTuple
 unfold excMatches
 repeat (first | (with_reducible refine wpAny_loadPart_at he ?_;rw [hcls]) | with_reducible refine wpAny_loadPart_at hD ?_ | (with_reducible refine wpAny_isSubtype_exc hD ?_;rw [hcB]) | with_reducible refine wpAny_isSubtype_exc hC ?_ | wp_step)
 cases hb:(Value.ref C::bm).contains (.ref DD)<;>(rw [hb] at hq;wp_walk;exact hq)
section
variable {X:Cx} {pins:List (Addr×Obj)} {U:List (Option V)} {H1 H2:Hp} {s1 s2:Shared} {h' B:Heap} {C a T:Addr} {a0:Value} {od:Option Addr}
noncomputable def zfl (a C:Addr) (od:Option Addr):HO:=.ext fun h=>∃ob,h.get? a=some ob/\ob.cls=.ref C/\(∃vs,ob.data=.fields vs)/\ob.dict=od
theorem zk7 (I:Inv X pins U H1 s1) (x:XOut X.prog X.w X.stack H1 s1 C a od H2 s2) (na:s1.heap.get? a=none) (nT:s1.heap.get? T=none) (ha:H2 a=none) (hT:H2 T=none)
  (keep:∀b o,s2.heap.get? b=some o->b≠a->b≠T->b∉frs X.stack->h'.get? b=some o) (up:s2.heap.UpToSlots h') (hfl:Heap.FlyingW B X.stack a (.ref C) a0 h') (hdc:z3c a od h') :
  Inv X pins U (upd H2 a (zfl a C od)) { s2 with heap:=h' }/\Same H2 (upd H2 a (zfl a C od)):=by
 have F2:=I.stack2 x.un
 have slotF:∀b∈frs X.stack,∀o,s2.heap.get? b=some o->∃sl,h'.get? b=some { o with slots:=sl }:=fun b hb o e=>by
  obtain ⟨_,o',ho',hd⟩:=F2.mem hb
  rw [e] at ho';cases ho'
  exact up b o e hd
 have ne:∀b o,s1.heap.get? b=some o->b≠a/\b≠T:=fun b o e=>⟨fun z=>(by rw [z,na] at e;cases e),fun z=>(by rw [z,nT] at e;cases e)⟩
 have neH:∀b o,H2 b=some o->b≠a/\b≠T:=fun b o e=>⟨fun z=>(by rw [z,ha] at e;cases e),fun z=>(by rw [z,hT] at e;cases e)⟩
 have frFree:∀b∈frs X.stack,H2 b=none:=fun b hb=>by
  obtain ⟨_,o,ho,_⟩:=I.stack.mem hb
  exact x.un.free b o ho (I.stkFree b hb) (by simp)
 obtain ⟨oe,vs,he,hc,hd,_⟩:=hfl.first
 have un:Un (frs X.stack) [] H1 (upd H2 a (zfl a C od)) s1.heap h':=by
  refine ⟨fun b o e n hb hx=>?_,fun b o e n hb hx=>?_,fun b o e n hx=>?_,fun b o e hx=>?_,fun b xs e=>?_,fun b o u e=>?_,fun b ps e=>?_⟩
  . exact keep b o (x.un.keep b o e n hb hx) (ne b o e).1 (ne b o e).2 hb
  . obtain ⟨sl,e1⟩:=x.un.slot b o e n hb hx
    obtain ⟨sl2,e2⟩:=slotF b hb _ e1
    exact ⟨sl2,e2⟩
  . rw [z08 (ne b o e).1];exact x.un.free b o e n hx
  . obtain ⟨o1,e1⟩:=x.un.there b o e hx
    by_cases hb:b∈frs X.stack
    . obtain ⟨sl,e2⟩:=slotF b hb _ e1;exact ⟨_,e2⟩
    . exact ⟨o1,keep b o1 e1 (ne b o e).1 (ne b o e).2 hb⟩
  . have:=x.un.tups b xs e
    rw [z08 (neH b _ this).1];exact this
  . have:=x.un.frzs b o u e
    rw [z08 (neH b _ this).1];exact this
  . obtain ⟨m,this⟩:=x.un.tbls b ps e
    exact ⟨m,by rw [z08 (neH b _ this).1];exact this⟩
 have hok:HOk X.prog X.w (upd H2 a (zfl a C od)) h':=fun b o e=>by
  by_cases hb:b=a
  . subst hb
    rw [z0d] at e;cases e
    exact ⟨⟨oe,he,hc,⟨vs,hd⟩,hdc _ he⟩,⟨oe,he⟩,fun h1 h2 ⟨ob,z1,z2⟩ k=>⟨ob,k _ z1,z2⟩⟩
  . rw [z08 hb] at e
    refine (x.hok b o e).stay (fun c v hc q=>?_) (fun c q=>by rw [z08 (neH c _ q).1];exact q) fun c xs q=>by rw [z08 (neH c _ q).1];exact q
    have hcH:H2 c≠none:=by
     rcases hc with rfl | hc
     . rw [e];exact fun z=>nomatch z
     . rw [hc];exact fun z=>nomatch z
    refine keep c v q (fun z=>hcH (z ▸ ha)) (fun z=>hcH (z ▸ hT)) fun z=>hcH (frFree c z)
 exact ⟨I.call' (s':={ s2 with heap:=h' }) (ch:=[]) x.os un hok x.bare (fun _ z=>nomatch z),Same.upd_new ha⟩
end
section
variable {X:Cx} {pins:List (Addr×Obj)} {U:List (Option V)} {H:Hp} {s:Shared}
theorem z9x {M:Model} {A:Around} {E:Value->Shared->Prop} {i:Nat} {n:Str} {pos:Pos} {Q:Unit->Shared->Prop} (I:Inv X pins U H s) (hN:X.N.Nodup) (hi:X.N[i]?=some n) (hk:X.env.scope.names.lookup n=some .local)
  (h:∀s',Inv X pins (U.set i none) H s'->Q () s'):wpAny M A (do bindName X.env n .none;unbindBehindTheSuite X.env n pos) Q E s:=by
 obtain ⟨m,hn,hl⟩:=id I.loc
 have hcls:(X.env.scope.kind==.class||(X.env.scope.kind==.module&&X.env.locals != X.env.globals))=false:=by rw [I.ok.kind];rfl
 obtain ⟨oL,_,_,hoL,_⟩:=id hn
 refine wpAny_nameGoes_keeps hk hn hcls fun h' v hn' hs=>h _ ?_
 have hok:HOk X.prog X.w H h':=fun b ob e=>by
  refine (I.hok b ob e).stay (fun c w' hc q=>(hs.2 c ?_).trans q) (fun _ q=>q) fun _ _ q=>q
  rintro rfl
  rcases hc with rfl | hc
  . rw [I.free] at e;cases e
  . rw [I.free] at hc;cases hc
 have neL:∀b o,X.s₀.heap.get? b=some o->b≠X.env.locals:=fun b o e=>Nat.ne_of_lt (Nat.lt_of_lt_of_le (Heap.lt_size e) I.ok.above)
 refine ⟨I.ok,I.os,I.bare,⟨fun b o e n hb hx=>?_,fun b o e n hb hx=>?_,I.base.free,fun b o e hx=>?_,I.base.tups,I.base.frzs,I.base.tbls⟩,⟨_,hn',fun j y v' e1 e2 e3=>?_⟩,fun y c e=>?_,I.free,I.freeC,fun p hp=>?_,hok,by simpa using I.len⟩
 . exact (hs.2 b (neL b o e)).trans (I.base.keep b o e n hb hx)
 . obtain ⟨sl,e1⟩:=I.base.slot b o e n hb hx
   exact ⟨sl,(hs.2 b (neL b o e)).trans e1⟩
 . obtain ⟨o',e1⟩:=I.base.there b o e hx
   exact ⟨o',(hs.2 b (neL b o e)).trans e1⟩
 . have hj:j≠i:=fun z=>by
    subst z
    by_cases hlt:j<U.length
    . rw [List.getElem?_set_self hlt] at e2;cases e2
    . rw [List.getElem?_eq_none (by simpa using hlt)] at e2;cases e2
   rw [List.getElem?_set_ne (Ne.symm hj)] at e2
   have hyn:y≠n:=fun z=>by subst z;exact hj (z90 hN e1 hi)
   obtain ⟨u,r,l⟩:=hl j y v' e1 e2 e3
   refine ⟨u,r,?_⟩
   rcases l with ⟨k,l⟩ | ⟨k,c,e,ob,z,zd⟩
   . exact .inl ⟨k,(by show (if y=n then v else m y)=some u;rw [if_neg hyn];exact l)⟩
   . exact .inr ⟨k,c,e,ob,(hs.2 c (I.cne y c e)).trans z,zd⟩
 . obtain ⟨v,ob,z,zd⟩:=I.cell y c e
   exact ⟨v,ob,(hs.2 c (I.cne y c e)).trans z,zd⟩
 . obtain ⟨e,n,ne,nf,d⟩:=I.pin p hp
   exact ⟨(hs.2 p.1 ne).trans e,n,ne,nf,d⟩
abbrev Cx.held (X:Cx) (e:Value):Cx:={ X with A:=X.A.mark (some e),calm:=false,xe:=fun _ _=>False }
theorem Inv.held (I:Inv X pins U H s) (e:Value):Inv (X.held e) pins U H s:=
 ⟨⟨I.ok.mod,I.ok.kind,I.ok.glob,I.ok.blt,I.ok.above,I.ok.inj,I.ok.has,I.ok.cab,(fun z=>nomatch z),I.ok.frames,I.ok.stk,I.ok.exf,I.ok.bs,I.ok.bsz,I.ok.noex,I.ok.exfs,I.ok.funs,I.ok.frf⟩,I.os,I.bare,I.base,I.loc,I.cell,I.free,I.freeC,I.pin,I.hok,I.len⟩
theorem Inv.unheld {e:Value} (ok:X.Ok) (I:Inv (X.held e) pins U H s):Inv X pins U H s:=
 ⟨ok,I.os,I.bare,I.base,I.loc,I.cell,I.free,I.freeC,I.pin,I.hok,I.len⟩
theorem zk8 {x:Str} {p pos:Pos} {e:Expr} {es:List Expr} {t:TA} {ps:List Str} {k j:Nat} {sp:Sp} {E:XK} {Q:VK} (G:z4f X.prog X.w X.K X.mg X.base x ps k sp) (hr:Room j X.A) (hg:Gl X x) (ha:PA X.nox (e::es) t) (I:Inv X pins U H s) (h:t U H fun vs H1=>Same H H1/\sp vs H1 Q E) (hkj:k<=j:=by omega) (hdb:(x==("__debug__":Str))=false:=by decide)
  (he:starEach (e::es) X.env=(false,eval e X.env)::starEach es X.env:=by rfl) (hpl:(backTo pos (starEach es X.env)).any (·.1)=false:=by rfl) :
  wpAny (model X.prog X.w) X.A (eval (.Call (.Name x p) (e::es) [] pos) X.env) (EP X pins U Q) (fun ev s'=>∃H1 s1,Same H H1/\Inv X pins U H1 s1/\CX1 X.prog X.w X.stack H1 s1 E ev s') s:=by
 obtain ⟨f,fd,F,b,m,kp⟩:=G
 refine wpAny_Call_Name_kw (z6w I hg m ?_ hdb)
 have I':Inv X.nox pins U H s:=⟨⟨I.ok.mod,I.ok.kind,I.ok.glob,I.ok.blt,I.ok.above,I.ok.inj,I.ok.has,I.ok.cab,I.ok.hd,I.ok.frames,I.ok.stk,I.ok.exf,I.ok.bs,I.ok.bsz,I.ok.noex,I.ok.exfs,I.ok.funs,I.ok.frf⟩,I.os,I.bare,I.base,I.loc,I.cell,I.free,I.freeC,I.pin,I.hok,I.len⟩
 refine PySem.W.callWith_K (h₀:=X.base) I.ok.mod.kin kp (wpAny_mono (ha pos pins s U H _ I' h) (fun us s1 ⟨vs,H1,I1,r,sH,q⟩=>⟨I1.kIn,?_⟩) fun _ _ z=>z.elim) he hpl
 have I1:Inv X pins U H1 s1:=⟨I.ok,I1.os,I1.bare,I1.base,I1.loc,I1.cell,I1.free,I1.freeC,I1.pin,I1.hok,I1.len⟩
 have hl:us.length=ps.length:=by rw [<-r.length];exact F.len _ _ _ _ q
 have hb:=b s1 us I1.kIn (by rw [List.append_nil];exact hl)
 rw [List.append_nil] at hb
 refine wpAny_call (codeAny_mono (F.run X.A X.stack s1 H1 ⟨us,[]⟩ us vs Q E (hr.mono hkj) I1.env0 hb r q) fun r s' hq=>?_)
 cases r with
 | error e=>exact ⟨H1,s1,sH,I1,hq⟩
 | ok fl=>
  cases fl with
  | ret u=>exact I1.after hq
  | next=>exact False.elim hq
  | brk=>exact False.elim hq
  | cont=>exact False.elim hq
end
structure Lnd5 (X:Cx) (pins:List (Addr×Obj)) (U:St) (H1:Hp) (s1:Shared) (C a:Addr) (od:Option Addr) (H2:Hp) (s2:Shared) (B:Heap) (T:Addr) (a0:Value) (h5:Heap):Prop where
 I:Inv X pins U H1 s1
 x:XOut X.prog X.w X.stack H1 s1 C a od H2 s2
 na:s1.heap.get? a=none
 nT:s1.heap.get? T=none
 ha:H2 a=none
 hT:H2 T=none
 keep:∀b o,s2.heap.get? b=some o->b≠a->b≠T->b∉frs X.stack->B.get? b=some o
 up:s2.heap.UpToSlots h5
 fl:Heap.FlyingW B X.stack a (.ref C) a0 h5
 dc:z3c a od h5
section
variable {X:Cx} {EX:XW} {fr:Bool} {pins:List (Addr×Obj)} {U:St} {H1 H2:Hp} {s1 s2:Shared} {C a T:Addr} {B h5:Heap} {a0:Value} {od:Option Addr}
theorem Lnd5.inv (L:Lnd5 X pins U H1 s1 C a od H2 s2 B T a0 h5):Inv X pins U (upd H2 a (zfl a C od)) { s2 with heap:=h5 }/\Same H2 (upd H2 a (zfl a C od)):=
 zk7 L.I L.x L.na L.nT L.ha L.hT (fun b o e h1 h2 h3=>L.fl.1 b o (L.keep b o e h1 h2 h3)) L.up L.fl L.dc
theorem Lnd5.again (L:Lnd5 X pins U H1 s1 C a od H2 s2 B T a0 h5) {A:Around} {E:Value->Shared->Prop} {Q:Unit->Shared->Prop} (h:∀h6,Lnd5 X pins U H1 s1 C a od H2 s2 B T a0 h6->Q () { s2 with heap:=h6 }) :
  wpAny (model X.prog X.w) A (setFlight (.ref a) none) Q E { s2 with heap:=h5 }:=
 wpAny_mono (z4c (E:=E) (E':=E) (.flight _ _) (lands_againW (Q:=fun _ s=>∃h',s={ s2 with heap:=h' }/\Heap.FlyingW B X.stack a (.ref C) a0 h'/\h5.UpToSlots h') (s:={ s2 with heap:=h5 }) L.fl fun h' fl up=>⟨h',rfl,fl,up⟩) (z79 (s:={ s2 with heap:=h5 }) L.fl.2.2.2 L.dc)) (fun _ s ⟨⟨h',e,fl,up⟩,d⟩=>by subst e;exact h h' ⟨L.I,L.x,L.na,L.nT,L.ha,L.hT,L.keep,L.up.trans up,fl,d⟩) fun _ _ z=>z.1
theorem zoe (I:Inv X pins U H1 s1) (hst:X.stack=X.env::X.outer) (hf:X.env.frame=some X.env.locals) (x:XOut X.prog X.w X.stack H1 s1 C a od H2 s2) {E:Value->Shared->Prop} {Q:Unit->Shared->Prop}
  (h:∀B T a0 h5,Lnd5 X pins U H1 s1 C a od H2 s2 B T a0 h5->Q () { s2 with heap:=h5 }):wpAny (model X.prog X.w) X.A (noteFrame (.ref a) X.env) (fun _ s'=>wpAny (model X.prog X.w) X.A (setFlight (.ref a) none) Q E s') E s2:=by
 obtain ⟨oe,vs,T,oT,ts,a0,he,hc,h0,hd,h1,hTe,hT,hdT,h3,na,nT,ha,hHT,hod,hnd⟩:=id x.fly
 have F2:=I.stack2 x.un
 have hin:∀env∈X.stack,∀b,env.frame=some b->b∈a::T::frs X.stack:=fun env he b hb=>List.mem_cons_of_mem _ (List.mem_cons_of_mem _ (List.mem_filterMap.mpr ⟨env,he,hb⟩))
 have hfr:X.A.frames=some (X.env::X.outer):=by rw [<-hst];exact I.ok.frames
 have hfl:Heap.FlyingW (hideAll s2.heap (a::T::frs X.stack)) (X.env::X.outer) a (.ref C) a0 s2.heap:=⟨fun b o q=>of_hideAll _ q,hideAll_none _ (.head _),hst ▸ PySem.W.funFrames_hide F2 hin,oe,vs,T,oT,ts,he,⟨hc,h0⟩,hd,h1,hideAll_none _ (.tail _ (.head _)),hTe,hT,hdT,h3⟩
 refine zgu (od:=od) hfr hf hfl (fun o ho=>by rw [he] at ho;cases ho;exact hod) fun h4 hh up4 d4=>?_
 refine zcb (s:={ s2 with heap:=h4 }) hh d4 fun h5 fl up5 d5=>h (hideAll s2.heap (a::T::frs X.stack)) T a0 h5 ⟨I,x,na,nT,ha,hHT,fun b o q h1 h2 h3=>hideAll_get _ q fun z=>?_,up4.trans up5,(by rw [<-hst] at fl;exact fl),d5⟩
 rcases List.mem_cons.mp z with rfl | z
 . exact h1 rfl
 . rcases List.mem_cons.mp z with rfl | z
   . exact h2 rfl
   . exact h3 z
theorem ztd {H H1:Hp} {b:Addr} (s:Same H H1) (e:H1 b=none):H b=none:=by
 cases q:H b with
 | none=>rfl
 | some o=>rw [s b o q] at e;cases e
theorem _root_.L2.Fly.newd {h0:Heap} {H':Hp} {C a:Addr} {od:Option Addr} {h:Heap} (f:Fly h0 H' C a od h):∀dx,od=some dx->h0.get? dx=none:=by
 obtain ⟨_,_,_,_,_,_,_,_,_,_,_,_,_,_,_,_,_,_,_,_,h⟩:=f
 exact h
abbrev HD:=Ex->DS->SR
structure QY (X:Cx) (fr:Bool) (sts:List Stmt) (g:DS->SR):Prop where
 h:∀(pins:List (Addr×Obj)) (s:Shared) (U:St) (H:Hp) (De:Ends) (Hc Hb H0:Hp) (ρ:DS) (P:Ex->Hp->Prop),Inv X pins U H s->RS X.K Hc Hb H0 ρ U H->SK X.K ⟨H,P⟩ fr Hc Hb De (g ρ) ->
  wpAny (model X.prog X.w) X.A (execs sts X.env) (SP X pins De) (fun ev s'=>∃H1 s1 x C a od H2,ev=.ref a/\Same H H1/\Inv X pins U H1 s1/\XOut X.prog X.w X.stack H1 s1 C a od H2 s'/\X.mg (Str.ofString (Ex.cls x))=some (.ref C)/\P x H2/\XFs X.K x od H2) s
structure QH (X:Cx) (EX:XW) (fr:Bool) (hs:List ExceptHandler) (hd:HD):Prop where
 h:∀(pins:List (Addr×Obj)) (U:St) (H1:Hp) (s1:Shared) (C a:Addr) (od:Option Addr) (H2:Hp) (s2:Shared) (B:Heap) (T:Addr) (a0:Value) (h5:Heap) (De:Ends) (Hc Hb H0:Hp) (ρ:DS) (x:Ex) (E:Value->Shared->Prop) (H:Hp),Same H H2->(∀dx,od=some dx->H dx=none)->XFs X.K x od H2->Lnd5 X pins U H1 s1 C a od H2 s2 B T a0 h5->X.mg (Str.ofString x.cls)=some (.ref C) ->
  RS X.K Hc Hb H0 ρ U H->SK X.K EX fr Hc Hb De (hd x ρ)->wpAny (model X.prog X.w) X.A (handleBy (.ref a) X.env hs) (SP X pins De) E { s2 with heap:=h5 }
noncomputable def zwt (g:DS->SR) (hd:HD):DS->SR:=fun ρ=>match g ρ with
 | .er x=>hd x ρ
 | r=>r
theorem zyj {body:List Stmt} {h₀:ExceptHandler} {hs:List ExceptHandler} {g:DS->SR} {hd:HD} {pos:Pos} (hst:X.stack=X.env::X.outer) (hf:X.env.frame=some X.env.locals) (hb:QY X fr body g) (hh:QH X EX fr (h₀::hs) hd):QS X EX fr (.Try body (h₀::hs) [] [] pos) (zwt g hd):=by
 refine ⟨fun pins s U H De I h=>?_⟩
 obtain ⟨Hc,Hb,H0,ρ,sb,R,h⟩:=h
 refine wpAny_Try_except (wpAny_mono (hb.h pins s U H De Hc Hb H0 ρ (fun x H'=>Same H H'/\SK X.K EX fr Hc Hb De (hd x ρ)) I R ?_) (fun f s₁ hq=>?_) fun ev s' ⟨H1,s1,x,C,a,od,H2,e,sH,I1,xo,hm,⟨sm,hk⟩,xf⟩=>?_)
 . unfold zwt at h
   cases q:g ρ with
   | nx ρ'=>rw [q] at h;exact h
   | bk ρ'=>rw [q] at h;exact h
   | ct ρ'=>rw [q] at h;exact h
   | rt d=>rw [q] at h;exact h
   | er x=>rw [q] at h;exact fun H' s'=>⟨s',h⟩
   | st=>rw [q] at h;exact h
 . cases f with
   | next=>exact wpAny_execs_nil hq
   | brk=>exact hq
   | cont=>exact hq
   | ret u=>exact hq
 . subst e
   exact zoe I1 hst hf xo fun B T a0 h5 L=>hh.h pins U H1 s1 C a od H2 s' B T a0 h5 De Hc Hb H0 ρ x X.xe H sm (fun dx e=>ztd sH (I1.hok.none (xo.fly.newd dx e))) xf L hm R hk
end
noncomputable def R.kn {α:Type} (k:String->Bool) (r:R α):R α:=match r with
 | .er x=>if k x.cls=true then .er x else .st
 | r=>r
noncomputable def zqn (k:String->Bool) (m:List D->R D) (fs:DE->R (List D)):DE->R D:=fun ρ=>(fs ρ).noE.bind fun ds=>(m ds).kn k
theorem SK.ex {K:Frag} {EX EX':XW} {fr:Bool} {Hc Hb:Hp} {De:Ends} {r:SR} (h:SK K EX fr Hc Hb De r) (he:∀x,EX.at x->EX'.at x):SK K EX' fr Hc Hb De r:=by
 cases r with
 | er x=>exact he x h
 | nx ρ=>exact h
 | bk ρ=>exact h
 | ct ρ=>exact h
 | rt d=>exact h
 | st=>exact h
section
variable {X:Cx} {fr frc:Bool} {k:String->Bool} {fs:DE->R (List D)} {mm:List D->R D} {n:Nat} {m:List Bool}
theorem zk9 {K:Frag} {mg:Str->Option Value} {Hc Hb H0 H:Hp} {ρ:DS} {U:St} {P:Ex->Hp->Prop} {kk:D->Prop} {Q:VK} (hl:∀ds,ds.length≠n->mm ds=.st) (hk:∀c,k c=true->∃C,mg (Str.ofString c)=some (.ref C)) (R:RS K Hc Hb H0 ρ U H)
  (h:Rk (XW.at ⟨H,P⟩) (zqn k mm fs (vis m ρ)) kk) (hQ:∀d,kk d->∀v H',Out K frc (HeOf m ρ U H0 H) H d v H'->Q v H'):TAd K F0 fs U H fun vs H1=>Same H H1/\spD K mg frc mm n vs H1 Q (eOf K ⟨H,P⟩ mg):=by
 unfold zqn at h
 rw [Rk.bind] at h
 refine ⟨F0.same _,vis m ρ,HeOf m ρ U H0 H,R.heH m,R.re m,(Rk.noE h).mono fun ds h vs H1 H1' s1 e1 r1=>⟨s1,ds,H1',e1.2.1,r1,?_,?_⟩⟩
 . apply Classical.byContradiction
   intro hn
   rw [hl ds hn] at h
   exact h
 . cases q:mm ds with
   | ok d=>rw [q] at h;exact fun v H' o=>hQ d h v H' (o.after s1 e1)
   | st=>rw [q] at h;exact h
   | er x=>
    rw [q] at h
    unfold L2.R.kn at h
    dsimp only at h
    split at h
    . rename_i hx
      obtain ⟨C,hC⟩:=hk _ hx
      exact fun H' s'=>⟨C,hC,fun od xf=>⟨x,h H' (s1.trans s'),hC,xf⟩⟩
    . exact h.elim
theorem zka {pins:List (Addr×Obj)} {U:St} {H:Hp} {P:Ex->Hp->Prop} {ev:Value} {s':Shared} (h:∃H1 s1,Same H H1/\Inv X pins U H1 s1/\CX1 X.prog X.w X.stack H1 s1 (eOf X.K ⟨H,P⟩ X.mg) ev s') :
  ∃H1 s1 x C a od H2,ev=.ref a/\Same H H1/\Inv X pins U H1 s1/\XOut X.prog X.w X.stack H1 s1 C a od H2 s'/\X.mg (Str.ofString (Ex.cls x))=some (.ref C)/\P x H2/\XFs X.K x od H2:=by
 obtain ⟨H1,s1,sH,I,C,a,od,H2,e,xo,x,hp,hm,xf⟩:=h
 exact ⟨H1,s1,x,C,a,od,H2,e,sH,I,xo,hm,hp,xf⟩
theorem zte {pins:List (Addr×Obj)} {De:Ends} {st:Stmt} {s:Shared} {E:Value->Shared->Prop} (h:wpAny (model X.prog X.w) X.A (exec st X.env) (SP X pins De) E s):wpAny (model X.prog X.w) X.A (execs [st] X.env) (SP X pins De) E s:=by
 refine wpAny_execs_cons (thn h fun f s1 q=>?_)
 cases f with
 | next=>exact wpAny_execs_nil q
 | ret v=>exact q
 | brk=>exact q
 | cont=>exact q
variable {x:Str} {p cpos pos:Pos} {e:Expr} {es:List Expr} {ps:List Str} {kl j kk':Nat} {gg:DS->SR}
theorem ztf (hk:∀c,k c=true->∃C,X.mg (Str.ofString c)=some (.ref C)) (G:z4f X.prog X.w X.K X.mg X.base x ps kl (spD X.K X.mg frc (mOf frc n kk' gg) n)) (hr:Room j X.A) (hg:Gl X x) (ha:QA X.nox F0 (e::es) fs) (hkj:kl<=j:=by omega) (hdb:(x==("__debug__":Str))=false:=by decide)
  (he:starEach (e::es) X.env=(false,eval e X.env)::starEach es X.env:=by rfl) (hpl:(backTo cpos (starEach es X.env)).any (·.1)=false:=by rfl) (hs:swapsWith (.Call (.Name x p) (e::es) [] cpos) none pos.line X.env=pure false:=by rfl) :
  QY X fr [.Expr (.Call (.Name x p) (e::es) [] cpos) pos] (z9g (zqn k (mOf frc n kk' gg) fs)):=by
 refine ⟨fun pins s U H De Hc Hb H0 ρ P I R h=>?_⟩
 unfold z9g at h
 rw [SK.toS,<-z77] at h
 refine zte (wpAny_Expr_any (wpAny_mono (zk8 (Q:=fun _ H'=>De.nx U H') G hr hg ha.h I (zk9 zca hk R h fun d z v H' o=>z U H' H0 (R.grow o.1)) hkj hdb he hpl) (fun v s1 ⟨y,H1,I1,r1,q1⟩=>⟨U,H1,I1,q1⟩) fun ev s' z=>zka z) I.quiet hs)
end
noncomputable def y0o:HD:=fun _ _=>.st
noncomputable def SR.gone (i:Nat):SR->SR
 | .nx ρ=>.nx (ρ.set i .em)
 | .bk ρ=>.bk (ρ.set i .em)
 | .ct ρ=>.ct (ρ.set i .em)
 | .rt d=>.rt d
 | _=>.st
noncomputable def hAs (tb:String->Option Bool) (i:Nat) (g:DS->SR) (r:HD):HD:=fun x ρ=>match tb x.cls with
 | some true=>(g (ρ.set i (.im (.exc x.cls x.fs)))).gone i
 | some false=>r x ρ
 | none=>.st
noncomputable def SR.noE:SR->SR
 | .er _=>.st
 | r=>r
theorem RS.gone {K:Frag} {Hc Hb H0 H:Hp} {ρ:DS} {U:St} (R:RS K Hc Hb H0 ρ U H) (i:Nat):RS K Hc Hb H0 (ρ.set i .em) (U.set i none) H:=by
 have ne:∀(j:Nat) (z:Sl),(ρ.set i Sl.em)[j]?=some z->z≠.em->j≠i/\ρ[j]?=some z:=fun j z e hz=>by
  by_cases hj:j=i
  . subst hj
    by_cases hl:j<ρ.length
    . rw [List.getElem?_set_self hl] at e;cases e;exact absurd rfl hz
    . rw [List.getElem?_eq_none (by simpa using hl)] at e;cases e
  . rw [List.getElem?_set_ne (Ne.symm hj)] at e;exact ⟨hj,e⟩
 refine ⟨R.sb,R.ext,by simpa using R.len,fun j d e=>?_,fun j d e=>?_,fun j k d e a h1 h2 h3 h4=>?_⟩
 . obtain ⟨hj,e⟩:=ne j _ e (by simp)
   rw [List.getElem?_set_ne (Ne.symm hj)]
   exact R.im j d e
 . obtain ⟨hj,e⟩:=ne j _ e (by simp)
   rw [List.getElem?_set_ne (Ne.symm hj)]
   exact R.ow j d e
 . obtain ⟨hj,e1⟩:=ne j _ h1 (by simp)
   obtain ⟨hk,e2⟩:=ne k _ h2 (by simp)
   rw [List.getElem?_set_ne (Ne.symm hj)] at h3
   rw [List.getElem?_set_ne (Ne.symm hk)] at h4
   exact R.ap j k d e a e1 e2 h3 h4
noncomputable def gD (De:Ends) (i:Nat):Ends:={ nx:=fun U H=>De.nx (U.set i none) H,rt:=De.rt,bk:=fun U H=>De.bk (U.set i none) H,ct:=fun U H=>De.ct (U.set i none) H }
theorem SK.gone {K:Frag} {EX:XW} {fr:Bool} {Hc Hb:Hp} {De:Ends} {i:Nat} {r:SR} (h:SK K EX fr Hc Hb De (r.gone i)):SK K F0 fr Hc Hb (gD De i) r:=by
 cases r with
 | nx ρ=>exact fun U H H0 R=>h _ H H0 (R.gone i)
 | bk ρ=>exact fun U H H0 R=>h _ H H0 (R.gone i)
 | ct ρ=>exact fun U H H0 R=>h _ H H0 (R.gone i)
 | rt d=>exact h
 | er x=>exact h.elim
 | st=>exact h.elim
theorem SK.noE {K:Frag} {EX:XW} {fr:Bool} {Hc Hb:Hp} {De:Ends} {r:SR} (h:SK K EX fr Hc Hb De r.noE):SK K F0 fr Hc Hb De r:=by
 cases r with
 | nx ρ=>exact h
 | bk ρ=>exact h
 | ct ρ=>exact h
 | rt d=>exact h
 | er x=>exact h.elim
 | st=>exact h.elim
theorem Out.exc {K:Frag} {He H H2:Hp} {x:Ex} {a C:Addr} {od:Option Addr} (e1:nsIn K mainGlobals (Str.ofString x.cls)=some (some (.ref C))) (h0:Same He H) (s:Same H H2) (ha:H2 a=none) (nd:∀dx,od=some dx->H dx=none) (xf:XFs K x od H2):Out K false He H (.exc x.cls x.fs) (.ref a) (upd H2 a (zfl a C od)):=by
 have sm:Same H2 (upd H2 a (zfl a C od)):=Same.upd_new ha
 rcases xf with e | ⟨dx,ns,ob,h1,h2,h3⟩
 . have e2:Ext He H He H2:=⟨Same.refl _,h0.trans s,fun _ _ z=>z⟩
   exact .val (s.trans sm) (e2.trans s (.new (h0.trans s) ha)) (by simp only [RD];exact ⟨a,od,_,rfl,⟨C,e1,rfl⟩,z0d,.inl e⟩)
 . have hd:=nd dx h1
   have hd0:He dx=none:=ztd h0 hd
   have e2:Ext He H (upd He dx (.frz ob (.xd ((zxk x.cls).zip (ns.map V.int))))) H2:=by
    refine ⟨Same.upd_new hd0,fun b o q=>?_,fun b q1 q2=>?_⟩
    . by_cases hb:b=dx
      . subst hb;rw [z0d] at q;rw [h2];exact q
      . rw [z08 hb] at q;exact s _ _ (h0 _ _ q)
    . rw [z08 (fun z=>q1 (by rw [z];exact hd))];exact q2
   have hne:dx≠a:=fun z=>by rw [z,ha] at h2;cases h2
   exact .val (s.trans sm) (e2.trans s (.new e2.2.1 ha)) (by simp only [RD];exact ⟨a,od,_,rfl,⟨C,e1,rfl⟩,z0d,.inr ⟨dx,ns,ob,h1,by rw [z08 hne,z0d],h3⟩⟩)
structure Tbl (K:Frag) (cn:String) (Dd:Addr) (bmB:List Value) (newId:String) (tb:String->Option Bool):Prop where
 dn:nsIn K mainGlobals (Str.ofString cn)=some (some (.ref Dd))
 dq:XCl K Dd bmB newId
 cs:∀c b,tb c=some b->∃C,nsIn K mainGlobals (Str.ofString c)=some (some (.ref C))/\XCl K C bmB newId/\mroIn K C (.ref Dd)=some b
theorem ztg {K:Frag} {h:Heap} {C:Addr} {v:Value} {b:Bool} {nm q:Str} {N:Addr} {bs bm:List Value} {hdct:Bool} {sn:List Str} {sub:List Value} {ab:Bool} {col:Option Bool} {dd:Option Addr} {k0 k1 k2 k3 k5:Option Value} {newId:String} (X:K.In h)
  (hC:h.get? C=some (excClassObj nm q C N bs bm hdct sn sub ab col dd k0 k1 k2 k3 k5 newId)) (hm:mroIn K C v=some b):(Value.ref C::bm).contains v=b:=by
 obtain ⟨cd,e1,e2⟩:=Option.bind_eq_some_iff.mp hm
 unfold PySem.W.clsIn at e1
 split at e1<;>cases e1
 rename_i ho
 have:=(X _ _ ho).symm.trans hC
 unfold excClassObj at this
 cases this
 split at e2
 . cases e2
 . exact Option.some.inj e2
section
variable {X:Cx} {EX:XW} {fr:Bool} {cn:String} {Dd:Addr} {bmB:List Value} {newId:String} {tb:String->Option Bool} {cp hpos:Pos} {b₀:Stmt} {suite:List Stmt} {rest:List ExceptHandler} {g:DS->SR} {hd:HD} {n:Str} {i:Nat}
theorem zyk:QH X EX fr [] y0o:=⟨fun _ _ _ _ _ _ _ _ _ _ _ _ _ _ _ _ _ _ _ _ _ _ _ _ _ _ _ h=>h.elim⟩
theorem zth {pins:List (Addr×Obj)} {U:St} {H1:Hp} {s1:Shared} {C a:Addr} {od:Option Addr} {H2:Hp} {s2:Shared} {B:Heap} {T:Addr} {a0:Value} {h5:Heap} {x:Ex} {b:Bool} {R:Result->Shared->Prop} (Tb:Tbl X.K cn Dd bmB newId tb) (hbase:bmB.contains (.type "BaseException")=true) (hg:Gl X (Str.ofString cn)) (L:Lnd5 X pins U H1 s1 C a od H2 s2 B T a0 h5)
  (hmx:X.mg (Str.ofString x.cls)=some (.ref C)) (hb:tb x.cls=some b) (h:R (.ok (if b then .brk else .next)) { s2 with heap:=h5 }) (hdb:(Str.ofString cn==("__debug__":Str))=false) :
  codeAny (model X.prog X.w) (X.A.mark (some (.ref a))) (.handlers (.ref a) [.ExceptHandler (some (.Name (Str.ofString cn) cp)) none [] hpos] X.env) R { s2 with heap:=h5 }:=by
 obtain ⟨I5,sm⟩:=L.inv
 have hm:X.mg (Str.ofString cn)=some (.ref Dd):=PySem.W.mg_of L.I.ok.mod.kin L.I.ok.mod.glob Tb.dn
 obtain ⟨C',e1,e2,e3⟩:=Tb.cs _ _ hb
 have hm':=PySem.W.mg_of L.I.ok.mod.kin L.I.ok.mod.glob e1
 rw [hmx] at hm'
 cases hm'
 obtain ⟨oe,vs,he,hc,hd',_⟩:=L.fl.first
 have KI:X.K.In h5:=I5.kIn
 obtain ⟨bm,N,nm,qn,bs,hdct,sn,sub,ab,col,dd,k0,k1,k2,k3,k5,hC,TL⟩:=zhl KI e2
 obtain ⟨bm2,N2,nm2,qn2,bs2,hdct2,sn2,sub2,ab2,col2,dd2,j0,j1,j2,j3,j5,hD,TL2⟩:=zhl KI Tb.dq
 refine codeAny_handlers_test (z6w (X:=X.held (.ref a)) (I5.held _) hg hm ?_ hdb)
 exact zhn hC hD he hc (TL2.hasType hbase) (by rw [ztg KI hC e3];exact h)
theorem y1n (Tb:Tbl X.K cn Dd bmB newId tb) (hbase:bmB.contains (.type "BaseException")=true) (hg:Gl X (Str.ofString cn)) (hN:X.N.Nodup) (hi:X.N[i]?=some n) (hk:X.env.scope.names.lookup n=some .local) (hs:∀e,QB (X.held e) F0 fr (b₀::suite) g) (hr:QH X EX fr rest hd) (hdb:(Str.ofString cn==("__debug__":Str))=false:=by decide) :
  QH X EX fr (.ExceptHandler (some (.Name (Str.ofString cn) cp)) (some n) (b₀::suite) hpos::rest) (hAs tb i g hd):=by
 refine ⟨fun pins U H1 s1 C a od H2 s2 B T a0 h5 De Hc Hb H0 ρ x E H sH nd xf L hmx R h=>?_⟩
 unfold hAs at h
 refine wpAny_handleBy_cons ?_ (by intro q;cases q)
 cases hb:tb x.cls with
 | none=>rw [hb] at h;exact h.elim
 | some b=>
  rw [hb] at h
  refine zth Tb hbase hg L hmx hb ?_ hdb
  cases b with
  | false=>exact hr.h pins U H1 s1 C a od H2 s2 B T a0 h5 De Hc Hb H0 ρ x E H sH nd xf L hmx R h
  | true=>
   refine codeAny_handlers_suite_as (L.again fun h6 L6=>?_)
   obtain ⟨I6,sm⟩:=L6.inv
   refine z6j I6 hN hi (.inl hk) (v:=.ref a) rfl (fun s3 I3=>?_) (.inr hk)
   obtain ⟨C',e1,e2,e3⟩:=Tb.cs _ _ hb
   have hm':=PySem.W.mg_of L.I.ok.mod.kin L.I.ok.mod.glob e1
   rw [hmx] at hm'
   cases hm'
   have o:Out X.K false (HeOf [] ρ U H0 H) H (.exc x.cls x.fs) (.ref a) (upd H2 a (zfl a C od)):=.exc e1 (R.heH []) sH L.ha nd xf
   obtain ⟨H0n,R',apt⟩:=R.out o
   have R3:=R'.put apt i
   refine wpAny_mono ((hs (.ref a)).h pins s3 _ _ (gD De i) (I3.held (.ref a)) ⟨Hc,Hb,H0n,_,F0.same _,R3,h.gone⟩) (fun f s4 q=>?_) fun _ _ z=>z.elim
   cases f with
   | next=>obtain ⟨σ',H',I',q⟩:=q;exact z9x (I'.unheld L.I.ok) hN hi hk fun s5 I5=>⟨_,H',I5,q⟩
   | brk=>obtain ⟨σ',H',I',q⟩:=q;exact z9x (I'.unheld L.I.ok) hN hi hk fun s5 I5=>⟨_,H',I5,q⟩
   | cont=>obtain ⟨σ',H',I',q⟩:=q;exact z9x (I'.unheld L.I.ok) hN hi hk fun s5 I5=>⟨_,H',I5,q⟩
   | ret u=>obtain ⟨v,σ',H',I',rv,q⟩:=q;exact z9x (I'.unheld L.I.ok) hN hi hk fun s5 I5=>⟨v,_,H',I5,rv,q⟩
end
end L2
namespace L2
open PySem PySem.Spec PyProof.Rows
open PySem.Calls
section
variable {prog:Program} {w:World} {A:Around} {E:Value->Shared->Prop} {h:Heap} {g:Array GenState} {d:Drawn} {t:Nat} {os:OsState} {K:Frag} {C a:Addr} {o:Obj}
theorem zho {α:Type} {M:Model} {A:Around} {E:Value->Shared->Prop} {m:Sem α} {r:α} {Q:α->Shared->Prop} (L:Looks M h m r) (q:Q r ⟨h,g,d,t,os⟩):wpAny M A m Q E ⟨h,g,d,t,os⟩:=L A Q E _ (fun _ _ z=>z) q
theorem zyl {R:Result->Shared->Prop} (X:K.In h) (hx:h.get? a=some o) (hc:o.cls=.ref C) (hm:mroIn K C (.type "object")=some true) (hq:R (.ok (.ret (.ref C))) ⟨h,g,d,t,os⟩) :
  codeAny (model prog w) A (.call (.builtin "getset_descriptor.__get__") ⟨[.builtin "object.__class__",.ref a,.ref C],[]⟩) R ⟨h,g,d,t,os⟩:=by
 have hT5:(⟨h,g,d,t,os⟩:Shared).TypeIs (.builtin "object.__class__") "getset_descriptor":=PySem.F.typeOf_object_class
 have L1:Looks (model prog w) h (isSubtype (.ref C) (.type (".".intercalate ("object.__class__".cutAt '.').dropLast))) true:=by rw [PySem.F.owner_object_class];exact PySem.W.looks_mroIn X hm
 refine codeAny_call_builtin PySem.F.slot_gs_get.plain PySem.F.entry_gs_get (PySem.F.slot_gs_get.check _ _ _ _ _ _ _ _ hT5 (PySem.F.args_gs_get _ _ _) ?_)
 repeat (any_goals (first | assumption | (with_reducible refine wpAny_loadPart_at hx ?_;rw [hc]) | with_reducible refine zho L1 ?_ | wp_step))
 refine ⟨Code.quiet_builtin _ (by decide +kernel),codeAny_builtin PySem.F.entry_object_class ?_⟩
 repeat (any_goals (first | assumption | (with_reducible refine wpAny_loadPart_at hx ?_;rw [hc]) | wp_step))
theorem zof {tk:Tok} {Q:Fin->Shared->Prop} (X:K.In h) (hx:h.get? a=some o) (hc:o.cls=.ref C) (hm:mroIn K C (.type "object")=some true) (hcl:PySem.W.findIn K (.ref C) "__class__"=some (some (.builtin "object.__class__"))) (hq:Q (.done (.ret (.ref C))) ⟨h,g,d,t,os⟩) :
  wpAny (model prog w) A (Builtin.«object.__getattribute__» ⟨[.ref a,.str "__class__" tk],[]⟩) Q E ⟨h,g,d,t,os⟩:=by
 have hT5:(⟨h,g,d,t,os⟩:Shared).TypeIs (.builtin "object.__class__") "getset_descriptor":=PySem.F.typeOf_object_class
 have L2:=PySem.W.looks_findIn (M:=model prog w) X hcl
 have f5:=PySem.F.typeOf_object_class
 have f6:=PySem.F.slot_gs_get.lookup
 have f7:=PySem.F.slot_gs_set.lookup
 repeat (any_goals (first | assumption | (with_reducible refine wpAny_loadPart_at hx ?_;rw [hc]) | with_reducible refine zho L2 ?_ | wp_step))
 refine zyl X hx hc hm ?_
 repeat (any_goals (first | assumption | wp_step))
theorem zog {M:Model} {nameV:Value} {Q:Unit->Shared->Prop} (X:K.In h) (hx:h.get? a=some o) (hc:o.cls=.ref C) (hB:mroIn K C (.type "BaseException")=some true) (hq:Q () ⟨h,g,d,t,os⟩):wpAny M A (checkBuiltinCall "BaseException.__getattribute__" ⟨[.ref a,nameV],[]⟩) Q E ⟨h,g,d,t,os⟩:=by
 have hk:builtinKind "BaseException.__getattribute__"=some .slot:=by decide +kernel
 have hsplit:splitId "BaseException.__getattribute__"=some ("BaseException","__getattribute__"):=by decide +kernel
 have ha:=PySem.F.args_bexc_ga (.ref a) nameV
 have L1:=PySem.W.looks_mroIn (M:=M) X hB
 simp only [checkBuiltinCall,hk,hsplit]
 refine wpAny_bind ?_
 . unfold isInstance
   repeat (first | (with_reducible refine wpAny_loadPart_at hx ?_;rw [hc]) | with_reducible refine zho L1 ?_ | wp_step)
   exact hq
theorem zti {tk:Tok} {R:Result->Shared->Prop} (X:K.In h) (hx:h.get? a=some o) (hc:o.cls=.ref C) (hm:mroIn K C (.type "object")=some true) (hB:mroIn K C (.type "BaseException")=some true) (hcl:PySem.W.findIn K (.ref C) "__class__"=some (some (.builtin "object.__class__"))) (hq:R (.ok (.ret (.ref C))) ⟨h,g,d,t,os⟩) :
  codeAny (model prog w) A (.call (.builtin "BaseException.__getattribute__") ⟨[.ref a,.str "__class__" tk],[]⟩) R ⟨h,g,d,t,os⟩:=
 codeAny_call_builtin PySem.F.attr_ValueError.ga.plain PySem.F.entry_bexc_ga (zog X hx hc hB (zof X hx hc hm hcl hq))
theorem y1o {tk:Tok} {Q:Value->Shared->Prop} (X:K.In h) (hx:h.get? a=some o) (hc:o.cls=.ref C) (hm:mroIn K C (.type "object")=some true) (hB:mroIn K C (.type "BaseException")=some true) (hcl:PySem.W.findIn K (.ref C) "__class__"=some (some (.builtin "object.__class__")))
  (hga:PySem.W.findIn K (.ref C) "__getattribute__"=some (some (.builtin "BaseException.__getattribute__"))) (hgt:PySem.W.findIn K (.ref C) "__getattr__"=some none) (hq:Q (.ref C) ⟨h,g,d,t,os⟩):wpAny (model prog w) A (getAttrBy (.ref a) (.str "__class__" tk) false) Q E ⟨h,g,d,t,os⟩:=by
 have L1:=PySem.W.looks_findIn (M:=model prog w) X hga
 have L2:=PySem.W.looks_findIn (M:=model prog w) X hgt
 have f3:=(PySem.F.attr_ValueError).ga.bind (.ref a)
 have hx2:(Value.builtin "BaseException.__getattribute__"==Value.builtin "object.__getattribute__")=false:=by decide +kernel
 have hx1:(onTheHeap (Value.ref C)&&Value.builtin "BaseException.__getattribute__"==Value.builtin "object.__getattribute__")=false:=by rw [hx2];rfl
 repeat (any_goals (first | assumption | (with_reducible refine wpAny_loadPart_at hx ?_;rw [hc]) | with_reducible refine zho L1 ?_ | with_reducible refine zho L2 ?_ | wp_step))
 refine zti X hx hc hm hB hcl ?_
 repeat (any_goals (first | assumption | wp_step))
theorem zoh {Q:Option Value->Shared->Prop} (X:K.In h) (hx:h.get? a=some o) (hc:o.cls=.ref C) (hm:mroIn K C (.type "object")=some true) (hB:mroIn K C (.type "BaseException")=some true) (hcl:PySem.W.findIn K (.ref C) "__class__"=some (some (.builtin "object.__class__")))
  (hga:PySem.W.findIn K (.ref C) "__getattribute__"=some (some (.builtin "BaseException.__getattribute__"))) (hgt:PySem.W.findIn K (.ref C) "__getattr__"=some none) (hq:Q (some (.ref C)) ⟨h,g,d,t+1,os⟩):wpAny (model prog w) A (getAttr? (.ref a) "__class__") Q E ⟨h,g,d,t,os⟩:=by
 unfold getAttr? getAttrBy?
 repeat (any_goals (first | assumption | with_reducible apply y1o X hx hc hm hB hcl hga hgt | wp_step))
end
structure XF (K:Frag) (C:Addr):Prop where
 ob:mroIn K C (.type "object")=some true
 be:mroIn K C (.type "BaseException")=some true
 cl:PySem.W.findIn K (.ref C) "__class__"=some (some (.builtin "object.__class__"))
 ga:PySem.W.findIn K (.ref C) "__getattribute__"=some (some (.builtin "BaseException.__getattribute__"))
 gt:PySem.W.findIn K (.ref C) "__getattr__"=some none
theorem XF.cls {K:Frag} {C:Addr} (F:XF K C):∃c' d' cd sl,K.lookup C=some ⟨c',d',.cls cd,sl⟩:=by
 obtain ⟨cd,e1,e2⟩:=Option.bind_eq_some_iff.mp F.ob
 unfold PySem.W.clsIn at e1
 split at e1<;>cases e1
 rename_i ho
 exact ⟨_,_,_,_,ho⟩
theorem z9y {K:Frag} {C a:Addr} (F:XF K C):PySem.W.KitX K (.ref a) (.ref C) (fun h=>∃ob,h.get? a=some ob/\ob.cls=.ref C) where
 ty:=fun M h X ⟨o,h1,h2⟩=>h2 ▸ (PySem.W.Looks.ld h1).andThen .now
 it:=fun _ _ X _=>by
  obtain ⟨c',d',cd,sl,ho⟩:=F.cls
  intro A' Q' E' s' k q
  unfold isType loadHead
  exact wpAny_bind (wpAny_loadPart (k _ _ (X _ _ ho)) (wpAny_pure q))
 ne:=fun h tp dd its n sl X htp=>by
  obtain ⟨c',d',cd,sl,ho⟩:=F.cls
  refine Bool.eq_false_iff.mpr fun q=>?_
  have e:C=tp:=Value.ref.inj (beq_iff_eq.mp q)
  subst e
  have z:=(X _ _ ho).symm.trans htp
  cases z
 ca:=fun {prog w A E Q s} X ⟨o,hx,hc⟩ k=>by
  obtain ⟨h,g,d,t,os⟩:=s
  exact zoh X hx hc F.ob F.be F.cl F.ga F.gt k
def zwu (K:Frag):List V->Hp->VK->Prop:=fun xs H Q=>match xs with
 | [.ref a,.ref p]=>∃C od b,H a=some (zfl a C od)/\XF K C/\(kitOne K (.ref C) (.ref p)=some b\/∃Ds:List Addr,H p=some (.tup (Ds.map V.ref))/\kitAny K (.ref C) (Ds.map Value.ref)=some b)/\Q (.bl b) H
 | [.ref a,.ty T]=>∃C od b,H a=some (zfl a C od)/\XF K C/\kitOne K (.ref C) (.type T)=some b/\Q (.bl b) H
 | _=>False
theorem zb5:∀{Ds:List Addr} {us:List Value},Vals (Ds.map V.ref) us->us=Ds.map Value.ref
 | [],_,.nil=>rfl
 | _::_,_,.cons r t=>by rw [zb5 t,show _=_ from r];rfl
theorem ztj {X:Cx}:CallR X (.builtin "isinstance") (zwu X.K):=by
 intro pins s U H xs us Q I r h
 unfold zwu at h
 split at h
 . rename_i a p
   obtain ⟨C,od,b,ha,F,hk,q⟩:=h
   cases r with
   | cons r1 r=>cases r with
    | cons r2 r=>
     cases r
     cases (show _=_ from r1)
     cases (show _=_ from r2)
     obtain ⟨⟨ob,o1,o2,_⟩,_⟩:=I.hok a _ ha
     rcases hk with hk | ⟨Ds,hp,hk⟩
     . exact kia_one (z9y F) I.kIn ⟨ob,o1,o2⟩ hk (fun z=>by cases z) fun tk=>⟨.bl b,H,I.tok tk,rfl,q⟩
     . obtain ⟨_,its,rv,ot,n,t1,⟨t2,t3⟩,_⟩:=I.hok p _ hp
       obtain ⟨oc,od,odt,osl⟩:=ot
       dsimp only at t1 t3
       subst t1 t3
       rw [zb5 rv] at n
       exact PySem.W.kia_tup (z9y F) I.kIn ⟨ob,o1,o2⟩ n hk (fun z=>by cases z) fun tk=>⟨.bl b,H,I.tok tk,rfl,q⟩
 . rename_i a T
   obtain ⟨C,od,b,ha,F,hk,q⟩:=h
   cases r with
   | cons r1 r=>cases r with
    | cons r2 r=>
     cases r
     cases (show _=_ from r1)
     cases (show _=_ from r2)
     obtain ⟨⟨ob,o1,o2,_⟩,_⟩:=I.hok a _ ha
     exact kia_one (z9y F) I.kIn ⟨ob,o1,o2⟩ hk (fun z=>by cases z) fun tk=>⟨.bl b,H,I.tok tk,rfl,q⟩
 . exact h.elim
noncomputable def zfm (tb:String->Option Bool):D->Option D
 | .exc c _=>(tb c).map .bl
 | _=>none
structure Bel (K:Frag) (y:Value) (tb:String->Option Bool):Prop where
 h:∀c b,tb c=some b->∃C,nsIn K mainGlobals (Str.ofString c)=some (some (.ref C))/\XF K C/\kitOne K (.ref C) y=some b
structure BelT (K:Frag) (Ds:List Addr) (tb:String->Option Bool):Prop where
 h:∀c b,tb c=some b->∃C,nsIn K mainGlobals (Str.ofString c)=some (some (.ref C))/\XF K C/\kitAny K (.ref C) (Ds.map Value.ref)=some b
theorem RD.exc {K:Frag} {H:Hp} {c:String} {fs:List D} {v:V} (r:RD K H (.exc c fs) v):∃a C od,v=.ref a/\nsIn K mainGlobals (Str.ofString c)=some (some (.ref C))/\H a=some (zfl a C od)/\XFs K ⟨c,fs⟩ od H:=by
 simp only [RD] at r
 obtain ⟨a,od,o,e,⟨C,h1,h2⟩,h3,h4⟩:=r
 subst h2
 exact ⟨a,C,od,e,h1,h3,h4⟩
section
variable {X:Cx} {EX:XW} {a b:Expr} {bs:List Expr} {pos p tpos:Pos} {x:Str} {f:DE->R D} {tb:String->Option Bool} {Ds:List Addr}
theorem zym {K:Frag} {U:St} {H:Hp} {Q:VK} {y:V} {yv:Value} (hy:(∃Dd,y=.ref Dd/\yv=.ref Dd)\/∃T,y=.ty T/\yv=.type T) (B:Bel K yv tb) (h:TEd K EX false (eUn (zfm tb) f) U H Q):tCB (zwu K) (z4p (TEd K EX false f) (z4p (tC y) zfx)) U H Q:=by
 obtain ⟨sx,ρ,H0,s,e,h⟩:=h
 unfold eUn at h
 rw [Rk.bind] at h
 refine TEd.go sx s e h fun d h v H1 H1' s1 e1 r1=>?_
 obtain ⟨z,hz,h⟩:=h.of
 cases d<;>simp only [zfm] at hz<;>first | cases hz | skip
 rename_i c _
 obtain ⟨b,hb,rfl⟩:=Option.map_eq_some_iff.mp hz
 obtain ⟨a,C,od,rfl,hn,ha,_⟩:=r1.exc
 obtain ⟨C',h1,h2,h3⟩:=B.h c b hb
 rw [hn] at h1
 cases h1
 have q:=h (.bl b) H1 (.val s1 e1 (by simp only [RD]))
 rcases hy with ⟨Dd,rfl,rfl⟩ | ⟨T,rfl,rfl⟩
 . exact ⟨C,od,b,e1.2.1 _ _ ha,h2,.inl h3,q⟩
 . exact ⟨C,od,b,e1.2.1 _ _ ha,h2,h3,q⟩
theorem ztk {y:V} {yv:Value} (hg:Gl X x) (hm:X.mg x=none) (hv:bootBuiltins x=some (.builtin "isinstance")) (ha:QE X EX false a f) (hb:PE X b (tC y)) (hy:(∃Dd,y=.ref Dd/\yv=.ref Dd)\/∃T,y=.ty T/\yv=.type T) (B:Bel X.K yv tb) (hn:x≠"__name__":=by decide) (hdb:(x==("__debug__":Str))=false:=by decide)
 (he:starEach [a,b] X.env=(false,eval a X.env)::starEach [b] X.env:=by rfl) (hpl:(backTo pos (starEach [b] X.env)).any (·.1)=false:=by rfl) (hs:starEach [b] X.env=(false,eval b X.env)::starEach [] X.env:=by rfl) :
 QE X EX false (.Call (.Name x p) [a,b] [] pos) (eUn (zfm tb) f):=⟨(z6k ztj hg hm hv (z2w ha.h (z2w hb pa_nil hs) he) hn hdb he hpl).imp fun _ _ _ q=>zym hy B q⟩
inductive PDs (X:Cx):List Expr->List Addr->Prop where
 | nil:PDs X [] []
 | cons {e:Expr} {es:List Expr} {Dd:Addr} {Ds:List Addr} (h:PE X e (tC (.ref Dd))) (r:PDs X es Ds) (hs:starEach (e::es) X.env=(false,eval e X.env)::starEach es X.env):PDs X (e::es) (Dd::Ds)
noncomputable def tVs (vs:List V):TA:=fun _ H Q=>Q vs H
theorem PDs.pa {es:List Expr} (h:PDs X es Ds):PA X es (tVs (Ds.map V.ref)):=by
 induction h with
 | nil=>exact pa_nil.imp fun _ _ _ q=>q
 | cons h r hs ih=>exact (z2w h ih hs).imp fun _ _ _ q=>q
theorem ztl {K:Frag} {U:St} {H:Hp} {Q:VK} (hl:Ds.length<=1000) (B:BelT K Ds tb) (h:TEd K EX false (eUn (zfm tb) f) U H Q):tCB (zwu K) (z4p (TEd K EX false f) (z4p (zx8 (tVs (Ds.map V.ref))) zfx)) U H Q:=by
 obtain ⟨sx,ρ,H0,s,e,h⟩:=h
 unfold eUn at h
 rw [Rk.bind] at h
 refine TEd.go sx s e h fun d h v H1 H1' s1 e1 r1=>?_
 obtain ⟨z,hz,h⟩:=h.of
 cases d<;>simp only [zfm] at hz<;>first | cases hz | skip
 rename_i c _
 obtain ⟨b,hb,rfl⟩:=Option.map_eq_some_iff.mp hz
 obtain ⟨a,C,od,rfl,hn,ha,_⟩:=r1.exc
 obtain ⟨C',h1,h2,h3⟩:=B.h c b hb
 rw [hn] at h1
 cases h1
 have ha1:=e1.2.1 _ _ ha
 refine ⟨z9b (by rw [List.length_map];exact hl),fun p hp=>?_⟩
 have su:Same H1 (upd H1 p (.tup (Ds.map V.ref))):=Same.upd_new hp
 exact ⟨C,od,b,su _ _ ha1,h2,.inr ⟨Ds,z0d,h3⟩,h (.bl b) _ (.val (s1.trans su) (e1.grow su) (by simp only [RD]))⟩
theorem ztm (hg:Gl X x) (hm:X.mg x=none) (hv:bootBuiltins x=some (.builtin "isinstance")) (ha:QE X EX false a f) (hb:PDs X bs Ds) (hl:Ds.length<=1000) (B:BelT X.K Ds tb) {kt:_} (hn:x≠"__name__":=by decide) (hdb:(x==("__debug__":Str))=false:=by decide)
 (he:starEach [a,.Tuple bs kt tpos] X.env=(false,eval a X.env)::starEach [.Tuple bs kt tpos] X.env:=by rfl) (hpl:(backTo pos (starEach [.Tuple bs kt tpos] X.env)).any (·.1)=false:=by rfl) (hs:starEach [.Tuple bs kt tpos] X.env=(false,eval (.Tuple bs kt tpos) X.env)::starEach [] X.env:=by rfl) :
 QE X EX false (.Call (.Name x p) [a,.Tuple bs kt tpos] [] pos) (eUn (zfm tb) f):=⟨(z6k ztj hg hm hv (z2w ha.h (z2w (zla hb.pa) pa_nil hs) he) hn hdb he hpl).imp fun _ _ _ q=>ztl hl B q⟩
end
end L2
namespace L2
open PySem PySem.Spec PyProof.Rows
section
open PySem.AutoSeq1 (wpAny_loadPart')
end
end L2
namespace L2
open PySem PySem.Spec PyProof.Rows
section
open PySem.AutoSeq1 (wpAny_loadPart')
end
end L2
namespace L2
open PySem PySem.Spec PyProof.Rows
theorem Un.drop {fs:List Addr} {H H':Hp} {h h':Heap} {e:Addr} (u:Un fs [] H H' h h') (hn:h.get? e=none) (he:H e=none):Un fs [] H (fun b=>if b=e then none else H' b) h h' where
 keep:=u.keep
 slot:=u.slot
 free:=fun b o q n hx=>by
  show (if b=e then none else H' b)=none
  split
  . rfl
  . exact u.free b o q n hx
 there:=u.there
 tups:=fun b xs q=>by
  show (if b=e then none else H' b)=_
  rw [if_neg (fun z=>by rw [z,he] at q;cases q)];exact u.tups b xs q
 frzs:=fun b o v q=>by
  show (if b=e then none else H' b)=_
  rw [if_neg (fun z=>by rw [z,he] at q;cases q)];exact u.frzs b o v q
 tbls:=fun b ps q=>by
  obtain ⟨m,z⟩:=u.tbls b ps q
  refine ⟨m,?_⟩
  show (if b=e then none else H' b)=_
  rw [if_neg (fun y=>by rw [y,he] at q;cases q)];exact z
end L2
namespace L2
open PySem PySem.Spec PyProof.Rows
open PySem.Calls
open Builtin Builtin.ObjectAttr
section
open PySem.AutoSeq1 (wpAny_loadPart')
end
end L2
namespace L2
open PySem PySem.Spec PyProof.Rows
section
variable {prog:Program} {w:World} {A:Around} {R:Result->Shared->Prop} {I:Addr} {fp wr:List Addr} {n:Nat} {P:Nat->Value->Prop} {St:Nat->Heap->Prop}
theorem zyn (kw:List (Str×Value)) (W:Walks prog w A.in1 I fp wr n P St) (bt:Nat->Nat->Bool) (cm:CmpOf prog w A.in1 .Gt P bt) (S:Addr) (nf:S∉fp) :
  ∀(k j:Nat) (s:Shared) (vb:Value) (c:Nat),n - (j+1)=k->j+1<=n->St (j+1) s.heap->P (argBest bt j) vb->s.heap.get? S=some { cls:=.type "list",dict:=none,data:=.seq #[vb,vb] c,slots:=#[] } ->
  (∀v h' tk,P (argBest bt (n - 1)) v->(∀b o,b∉wr->b≠S->s.heap.get? b=some o->h'.get? b=some o)->R (.ok (.ret v)) { s with heap:=h',toks:=tk })->codeAny (model prog w) A (.builtin "max.loop" ⟨[.ref I,.none,.ref S],kw⟩) R s:=by
 have nw:S∉wr:=fun h=>nf (W.sub _ h)
 have nm:(toString "max"++toString ".loop":String)="max.loop":=by decide
 intro k
 induction k with
 | zero=>
  intro j s vb c ek ej st pb eS fin
  have jn:j+1=n:=by omega
  refine codeAny_builtin PySem.F.entry_max_loop ?_
  rw [Around.under_plainId PySem.F.plain_max_loop _]
  show wpAny _ A.in1 (seqItems? (.ref S) >>= _) _ _ _
  refine wpAny_bind (wpAny_seqItems eS rfl ?_)
  show wpAny _ A.in1 (tryCatch (pyNext (.ref I)) _ >>= _) _ _ _
  refine wpAny_bind (wpAny_tryCatch (W.done s _ _ (jn ▸ st) fun h' tk kp=>?_))
  have eS':=kp S _ nw eS
  show wpAny _ A.in1 (updateSeq S (fun _=>#[]) >>= _) _ _ _
  refine wpAny_bind ?_
  refine wpAny_updateSeq eS' rfl (wpAny_bind (wpAny_letGo (wpAny_pure ?_)))
  exact fin vb _ tk (by rw [<-jn];exact pb) fun b o hbw hbS e=>(Heap.get?_update_other _ _ (Ne.symm hbS)).trans (kp b o hbw e)
 | succ k ih=>
  intro j s vb c ek ej st pb eS fin
  have jl:j+1<n:=by omega
  refine codeAny_builtin PySem.F.entry_max_loop ?_
  rw [Around.under_plainId PySem.F.plain_max_loop _]
  show wpAny _ A.in1 (seqItems? (.ref S) >>= _) _ _ _
  refine wpAny_bind (wpAny_seqItems eS rfl ?_)
  show wpAny _ A.in1 (tryCatch (pyNext (.ref I)) _ >>= _) _ _ _
  refine wpAny_bind (wpAny_tryCatch (W.item (j+1) s _ _ jl st fun v h' tk pv st' kp=>?_))
  have eS':=kp S _ nw eS
  show wpAny _ A.in1 (tryCatch (holding [v,v] (richCompare .Gt v vb >>= _)) _ >>= _) _ _ _
  refine wpAny_bind (wpAny_tryCatch (wpAny_holding (wpAny_bind (cm (j+1) (argBest bt j) v vb _ _ _ pv pb ?_))))
  refine wpAny_bind (wpAny_holding (wpAny_truthy_bool ?_))
  refine wpAny_bind (wpAny_letGo (wpAny_pure ?_))
  cases hb:bt (j+1) (argBest bt j) with
  | true=>
   rw [if_pos rfl]
   refine wpAny_bind ?_
   refine wpAny_updateSeq eS' rfl (wpAny_bind (wpAny_letGo ?_))
   rw [nm]
   refine wpAny_pure ⟨plainId_quiet PySem.F.plain_max_loop _,ih (j+1) _ v _ (by omega) jl (W.frame _ _ _ st' fun b hbf o e=>?_) (by simp only [argBest,hb,if_true];exact pv) (Heap.get?_update_self _ eS' rfl) fun v' h'' tk'' pv' kp'=>?_⟩
   . exact (Heap.get?_update_other _ _ (fun z:S=b=>nf (by rw [z];exact hbf))).trans e
   . exact fin v' h'' tk'' pv' fun b o hbw hbS e=>kp' b o hbw hbS ((Heap.get?_update_other _ _ (Ne.symm hbS)).trans (kp b o hbw e))
  | false=>
   rw [if_neg Bool.false_ne_true]
   refine wpAny_bind (wpAny_letGo ?_)
   rw [nm]
   exact wpAny_pure ⟨plainId_quiet PySem.F.plain_max_loop _,ih (j+1) _ vb c (by omega) jl st' (by simp only [argBest,hb,Bool.false_eq_true,if_false];exact pb) eS' fun v' h'' tk'' pv' kp'=>fin v' h'' tk'' pv' fun b o hbw hbS e=>kp' b o hbw hbS (kp b o hbw e)⟩
theorem zkb (kw:List (Str×Value)) (W:Walks prog w A.in1 I fp wr n P St) (bt:Nat->Nat->Bool) (cm:CmpOf prog w A.in1 .Gt P bt) (S:Addr) (nf:S∉fp) (n0:0<n) {s:Shared} {c:Nat} (st:St 0 s.heap)
  (eS:s.heap.get? S=some { cls:=.type "list",dict:=none,data:=.seq #[] c,slots:=#[] }) (fin:∀v h' tk,P (argBest bt (n - 1)) v->(∀b o,b∉wr->b≠S->s.heap.get? b=some o->h'.get? b=some o)->R (.ok (.ret v)) { s with heap:=h',toks:=tk }) :
  codeAny (model prog w) A (.builtin "max.loop" ⟨[.ref I,.none,.ref S],kw⟩) R s:=by
 have nw:S∉wr:=fun h=>nf (W.sub _ h)
 have nm:(toString "max"++toString ".loop":String)="max.loop":=by decide
 refine codeAny_builtin PySem.F.entry_max_loop ?_
 rw [Around.under_plainId PySem.F.plain_max_loop _]
 show wpAny _ A.in1 (seqItems? (.ref S) >>= _) _ _ _
 refine wpAny_bind (wpAny_seqItems eS rfl ?_)
 show wpAny _ A.in1 (tryCatch (pyNext (.ref I)) _ >>= _) _ _ _
 refine wpAny_bind (wpAny_tryCatch (W.item 0 s _ _ n0 st fun v h' tk pv st' kp=>?_))
 have eS':=kp S _ nw eS
 show wpAny _ A.in1 (updateSeq S (fun _=>#[v,v]) >>= _) _ _ _
 refine wpAny_bind ?_
 refine wpAny_updateSeq eS' rfl ?_
 rw [nm]
 refine wpAny_pure ⟨plainId_quiet PySem.F.plain_max_loop _,zyn kw W bt cm S nf _ 0 _ v _ rfl n0 (W.frame _ _ _ st' fun b hbf o e=>?_) pv (Heap.get?_update_self _ eS' rfl) fun v' h'' tk'' pv' kp'=>?_⟩
 . exact (Heap.get?_update_other _ _ (fun z:S=b=>nf (by rw [z];exact hbf))).trans e
 . exact fin v' h'' tk'' pv' fun b o hbw hbS e=>kp' b o hbw hbS ((Heap.get?_update_other _ _ (Ne.symm hbS)).trans (kp b o hbw e))
theorem zoi (q:Str) (dv:Value) (W:Walks prog w A.in1 I fp wr n P St) (S:Addr) (nf:S∉fp) (n0:n=0) {s:Shared} {c:Nat} (st:St 0 s.heap)
  (eS:s.heap.get? S=some { cls:=.type "list",dict:=none,data:=.seq #[] c,slots:=#[] }) (fin:∀h' tk,(∀b o,b∉wr->b≠S->s.heap.get? b=some o->h'.get? b=some o)->R (.ok (.ret dv)) { s with heap:=h',toks:=tk }) :
  codeAny (model prog w) A (.builtin "max.loop" ⟨[.ref I,.none,.ref S],[(q,dv)]⟩) R s:=by
 refine codeAny_builtin PySem.F.entry_max_loop ?_
 rw [Around.under_plainId PySem.F.plain_max_loop _]
 show wpAny _ A.in1 (seqItems? (.ref S) >>= _) _ _ _
 refine wpAny_bind (wpAny_seqItems eS rfl ?_)
 show wpAny _ A.in1 (tryCatch (pyNext (.ref I)) _ >>= _) _ _ _
 refine wpAny_bind (wpAny_tryCatch (W.done s _ _ (n0 ▸ st) fun h' tk kp=>?_))
 show wpAny _ A.in1 (rule _ >>= _) _ _ _
 exact wpAny_bind (wpAny_rule (wpAny_pure (fin h' tk fun b o hb _ e=>kp b o hb e)))
end
theorem zoj (a v:Value):argsOk "max" ⟨[a],[(Str.ofString "default",v)]⟩:=by unfold argsOk;kernel_rfl
section
variable {prog:Program} {w:World} {A:Around} {E:Value->Shared->Prop} {s:Shared}
theorem zok {x dv:Value} {Q:Value->Shared->Prop}
  (h:wpAny (model prog w) A.in1 (pyIter x) (fun it s₂=>∃I fp wr n P St bt,it=.ref I/\Walks prog w A.in1 I fp wr n P St/\St 0 s₂.heap/\(∀b∈fp,b<s₂.heap.objs.size)/\CmpOf prog w A.in1 .Gt P bt /\
   ∀v h' tk,((0<n/\P (argBest bt (n - 1)) v)\/(n=0/\v=dv))->(∀b o,b∉wr->s₂.heap.get? b=some o->h'.get? b=some o)->Q v { s₂ with heap:=h',toks:=tk }) E s) :
  wpAny (model prog w) A (call (.builtin "max") [x] [(Str.ofString "default",dv)]) Q E s:=by
 have nm:(toString "max"++toString ".loop":String)="max.loop":=by decide
 refine kmk_tree PySem.F.kind_max PySem.F.plain_max PySem.F.entry_max (zoj _ _) ?_
 show wpAny _ A.in1 (Builtin.Builtins.bindParams "max" ["key","default"] 0 ⟨[],[(Str.ofString "default",dv)]⟩ >>= _) _ _ s
 refine wpAny_bind (wpAny_of_eq (show Builtin.Builtins.bindParams "max" ["key","default"] 0 ⟨[],[(Str.ofString "default",dv)]⟩=pure [none,some dv] from rfl) ?_)
 refine wpAny_bind (wpAny_pure ?_)
 refine wpAny_bind (wpAny_mono h (fun it s₂ g=>?_) fun _ _ e=>e)
 obtain ⟨I,fp,wr,n,P,St,bt,rfl,W,st,bd,cm,hQ⟩:=g
 refine wpAny_bind (wpAny_newObj_type ?_)
 have nf:s₂.heap.objs.size∉fp:=fun hm=>Nat.lt_irrefl _ (bd _ hm)
 rw [nm]
 refine wpAny_pure ⟨plainId_quiet PySem.F.plain_max_loop _,?_⟩
 by_cases n0:0<n
 . exact zkb _ W bt cm s₂.heap.objs.size nf n0 (W.frame _ _ _ st fun b _ o e=>Heap.get?_push_of_some _ e) (Heap.get?_push_size _ rfl) fun v h' tk pv kp=>
    hQ v h' tk (.inl ⟨n0,pv⟩) fun b o hbw e=>kp b o hbw (Nat.ne_of_lt (Heap.lt_size e)) (Heap.get?_push_of_some _ e)
 . exact zoi _ dv W s₂.heap.objs.size nf (by lia) (W.frame _ _ _ st fun b _ o e=>Heap.get?_push_of_some _ e) (Heap.get?_push_size _ rfl) fun h' tk kp=>
    hQ dv h' tk (.inr ⟨by lia,rfl⟩) fun b o hbw e=>kp b o hbw (Nat.ne_of_lt (Heap.lt_size e)) (Heap.get?_push_of_some _ e)
variable {h₀:Heap} {L:Addr} {m:Str->Option Value} {news:List (Addr×Obj)}
theorem zol {l:Addr} {vs:List Value} {ns:List Int} {dv:Value} {Q:Value->Shared->Prop} (hh:A.handled=none) (F:Fr h₀ L s.heap m) (N:News h₀ L s.heap news) (hl:s.heap.IsList l vs.toArray) (hi:IntsAre vs ns)
  (h:∀v h' tk,Fr h₀ L h' m->News h₀ L h' news->((ns=[]/\v=dv)\/∃M t,v=.int M t/\M∈ns/\∀a,a∈ns->a<=M)->Q v { s with heap:=h',toks:=tk }) :
  wpAny (model prog w) A (call (.builtin "max") [.ref l] [(Str.ofString "default",dv)]) Q E s:=by
 obtain ⟨xs,e⟩:=hi.allInts.items
 have en:ns=xs.toList.map (·.1):=by rw [<-hi.numsOf,<-nums_intItems,<-e]
 have el:ns.length=xs.size:=by rw [en,List.length_map,Array.length_toList]
 rw [e] at hl
 refine zok (iter_intList hl fun s₂ e st bd lI=>?_)
 subst e
 refine ⟨_,_,_,_,_,_,_,rfl,Walks.list (A:=A.in1) hh _ l lI (intItems xs),st,bd,CmpOf.ints_gt (numAt xs) (fun _ _=>intItems_at),fun v h' tk pv kp=>?_⟩
 have kp':=old_kept kp
 refine h v h' tk (F.grownK kp') (N.grown kp') ?_
 rcases pv with ⟨n0,pv⟩ | ⟨n0,rfl⟩
 . right
   have n0':0<xs.size:=by simpa [intItems] using n0
   have pv':(intItems xs)[argBest (fun i j=>decide (numAt xs i > numAt xs j)) (xs.size - 1)]?=some v:=by simpa [intItems] using pv
   obtain ⟨t,rfl⟩:=intItems_at pv'
   obtain ⟨h1,h2⟩:=argBest_gt (numAt xs) (xs.size - 1)
   refine ⟨_,t,rfl,?_,fun a ha=>?_⟩
   . rw [en,numAt_eq];exact z9w (by rw [List.length_map,Array.length_toList];lia)
   . rw [en] at ha
     obtain ⟨j,hj,rfl⟩:=mem_getD ha
     rw [List.length_map,Array.length_toList] at hj
     rw [<-numAt_eq];exact h2 j (by lia)
 . left
   have:xs.size=0:=by simpa [intItems] using n0
   exact ⟨List.length_eq_zero_iff.mp (by lia),rfl⟩
end
noncomputable def mxD (d:Int):List Int->Int
 | []=>d
 | n::ns=>zfk n ns
noncomputable def zf4:List D->Option D
 | [.lst ds,.int d]=>(z11 ds).map fun ns=>.int (mxD d ns)
 | _=>none
def zom:List V->Hp->VK->Prop:=fun xs H Q=>∃p ns d,xs=[.ref p,.int d]/\H p=some (.lst (ns.map V.int))/\Q (.int (mxD d ns)) H
theorem TEd.mono' {K:Frag} {EX:XW} {fr:Bool} {f:DE->R D} {U:St} {H:Hp} {Q Q':VK} (h:TEd K EX fr f U H Q) (hq:∀v H',Q v H'->Q' v H'):TEd K EX fr f U H Q':=by
 obtain ⟨sx,ρ,H0,s,e,h⟩:=h
 exact ⟨sx,ρ,H0,s,e,h.mono fun a k v H' o=>hq _ _ (k v H' o)⟩
section
variable {X:Cx} {EX:XW} {e d:Expr} {p kp pos:Pos} {x:Str} {t1 t2:TE} {f1 f2:DE->R D}
theorem zon (hc:X.calm=true) (hg:Gl X x) (hm:X.mg x=none) (hv:bootBuiltins x=some (.builtin "max")) (ha:PE X e t1) (hd:PE X d t2) (hn:x≠"__name__":=by decide) (hdb:(x==("__debug__":Str))=false:=by decide)
  (hs:starEach [e] X.env=(false,eval e X.env)::starEach [] X.env:=by rfl) :
  PE X (.Call (.Name x p) [e] [⟨some (Str.ofString "default"),d,kp⟩] pos) (tCB zom (z4p t1 (z4p t2 zfx))):=by
 intro pins s U H Q I h
 refine wpAny_Call_Name_kw (z6x I hg hm hv ?_ hn hdb)
 refine callWith_kw ?_ (by rw [hs];rfl) (by rw [hs];rfl)
 refine thn (z2w ha pa_nil hs pos pins s U H (fun vs H1=>t2 U H1 fun u H2=>zom (vs++[u]) H2 Q) I h) fun us s1 ⟨vs,H1,I1,r1,q1⟩=>?_
 refine kws_cons (thn (hd pins s1 U H1 _ I1 q1) fun u s2 ⟨y,H2,I2,r2,q2⟩=>kws_nil ?_)
 obtain ⟨a,ns,i,e1,ea,q⟩:=q2
 obtain ⟨rfl,rfl⟩:vs=[.ref a]/\y=.int i:=by
  cases vs with
  | nil=>cases e1
  | cons b r=>
   cases r with
   | nil=>cases e1;exact ⟨rfl,rfl⟩
   | cons c r=>cases r<;>cases e1
 obtain ⟨u1,rfl,ru⟩:=z4o r1
 cases ru
 obtain ⟨t,rfl⟩:=r2
 obtain ⟨its,rv,pl,_⟩:=I2.list (.of ea)
 obtain ⟨m,hnn,_⟩:=id I2.loc
 refine zol (I2.ok.hd hc) (Att.fr_all hnn) (z53 (g:=Att.noObjs s2.heap) (L:=X.env.locals)) pl.isList (z2f rv) fun v h' tk F N hM=>?_
 rcases hM with ⟨rfl,rfl⟩ | ⟨M,t,rfl,hM,hle⟩
 . exact ⟨.int i,H2,I2.frn hnn F N,⟨_,rfl⟩,q⟩
 . cases ns with
   | nil=>cases hM
   | cons n ns=>
    obtain ⟨a1,a2⟩:=z7i ns n
    have e:M=zfk n ns:=Int.le_antisymm (a2 M hM) (hle _ a1)
    exact ⟨.int M,H2,I2.frn hnn F N,⟨t,rfl⟩,by rw [e];exact q⟩
theorem zoo {K:Frag}:z55 K false zf4 zom:=by
 intro H0 H xs ds z Q s r ho k
 unfold zf4 at ho
 split at ho<;>first | cases ho | skip
 rename_i es i
 cases hq:z11 es with
 | none=>rw [hq] at ho;cases ho
 | some ns=>
  rw [hq] at ho
  cases ho
  simp only [RDs] at r
  obtain ⟨x1,r1,rfl,q1,x2,r2,rfl,q2,rfl⟩:=r
  obtain ⟨a,ys,rfl,ha,ra⟩:=q1.lst
  have e:=z1t hq ra
  subst e
  cases q2.int
  exact ⟨a,ns,i,rfl,s _ _ ha,k _ H (.pure s (.mkInt _))⟩
theorem ztn (hc:X.calm=true) (hg:Gl X x) (hm:X.mg x=none) (hv:bootBuiltins x=some (.builtin "max")) (ha:QE X EX false e f1) (hd:QE X EX false d f2) (hn:x≠"__name__":=by decide) (hdb:(x==("__debug__":Str))=false:=by decide)
  (hs:starEach [e] X.env=(false,eval e X.env)::starEach [] X.env:=by rfl) :
  QE X EX false (.Call (.Name x p) [e] [⟨some (Str.ofString "default"),d,kp⟩] pos) (eCB zf4 (z01 f1 (z01 f2 z0h))):=
 ⟨(zon hc hg hm hv ha.h hd.h hn hdb hs).imp fun _ _ _ q=>(zgp (zxo zoo q)).mono' fun _ _ q=>(zgp q).mono' fun _ _ q=>zs7 q⟩
end
noncomputable def SR.thn (r:SR) (g:DS->SR):SR:=match r with
 | .nx ρ'=>g ρ'
 | r=>r
noncomputable def SR.out (fr:Bool) (r:SR):R D:=match r with
 | .rt d=>.ok d
 | .nx _=>if fr=true then .st else .ok .non
 | .er x=>.er x
 | _=>.st
theorem zm2 (g1 g2:DS->SR) (ρ:DS):z0z g1 g2 ρ=(g1 ρ).thn g2:=rfl
theorem zm3 (ρ:DS) (g:DS->SR):(SR.nx ρ).thn g=g ρ:=rfl
theorem zto (d:D) (g:DS->SR):(SR.rt d).thn g=.rt d:=rfl
theorem ztp (x:Ex) (g:DS->SR):(SR.er x).thn g=.er x:=rfl
theorem ztq (ρ:DS) (g:DS->SR):(SR.bk ρ).thn g=.bk ρ:=rfl
theorem ztr (ρ:DS) (g:DS->SR):(SR.ct ρ).thn g=.ct ρ:=rfl
theorem zts (g:DS->SR):(SR.st).thn g=.st:=rfl
theorem zop (c:Prop) [Decidable c] (a b:SR) (g:DS->SR):(if c then a else b).thn g=if c then a.thn g else b.thn g:=by split<;>rfl
theorem z9z (fr:Bool) (n k:Nat) (g:DS->SR) (ds:List D):mOf fr n k g ds=if ds.length=n then (g (ds.map .im++List.replicate k .em)).out fr else .st:=rfl
theorem ztt (fr:Bool) (d:D):(SR.rt d).out fr=.ok d:=rfl
theorem ztu (ρ:DS):(SR.nx ρ).out false=.ok .non:=rfl
theorem ztv (fr:Bool) (x:Ex):(SR.er x).out fr=.er x:=rfl
theorem ztw (fr:Bool):(SR.st).out fr=.st:=rfl
theorem zoq (fr:Bool) (c:Prop) [Decidable c] (a b:SR):(if c then a else b).out fr=if c then a.out fr else b.out fr:=by split<;>rfl
theorem ztx (m:List Bool) (f:DE->R D) (ρ:DS):z3o m f ρ=(f (vis m ρ)).toS fun d=>.rt d:=rfl
theorem zty (fr:Bool) (i:Nat) (m:List Bool) (f:DE->R D) (ρ:DS):z2i fr i m f ρ=(f (vis m ρ)).toS fun d=>.nx (zjr fr i d (z6e (keeps fr d) m ρ)):=rfl
theorem zyo (t:DE->R Bool) (g1 g2:DS->SR) (ρ:DS):sIf t g1 g2 ρ=(t (see ρ)).toS fun b=>if b=true then g1 ρ else g2 ρ:=rfl
theorem z59 {α:Type} (a:α) (k:α->SR):R.toS (.ok a) k=k a:=rfl
theorem ztz {α:Type} (x:Ex) (k:α->SR):R.toS (.er x:R α) k=.er x:=rfl
theorem zu0 {α:Type} (k:α->SR):R.toS (.st:R α) k=.st:=rfl
theorem zor {α:Type} (c:Prop) [Decidable c] (a b:R α) (k:α->SR):R.toS (if c then a else b) k=if c then R.toS a k else R.toS b k:=by split<;>rfl
theorem zos {α β:Type} (x:Ex) (k:α->R β):R.bind (.er x:R α) k=.er x:=rfl
theorem ze2 {α:Type} (a:α):(R.ok a).noE=.ok a:=rfl
theorem zyp (m:List Bool):vis m []=[]:=by cases m<;>rfl
theorem zyq (s:Sl) (r:DS):vis [] (s::r)=s.see false::vis [] r:=rfl
theorem zyr (b:Bool) (m:List Bool) (s:Sl) (r:DS):vis (b::m) (s::r)=s.see b::vis m r:=rfl
theorem zkc:see []=[]:=rfl
theorem zkd (s:Sl) (r:DS):see (s::r)=s.see true::see r:=rfl
theorem zu1 (b:Bool):Sl.see b .em=none:=rfl
theorem ze3 (b:Bool) (d:D):Sl.see b (.im d)=some d:=rfl
theorem za0 (d:D):Sl.see true (.ow d)=some d:=rfl
theorem zot (d:D):Sl.see false (.ow d)=none:=rfl
theorem zm4 (m:List Bool) (ρ:DS):z6e true m ρ=ρ:=rfl
theorem ze4 (fr:Bool) (i:Int):keeps fr (.int i)=true:=by cases fr<;>rfl
theorem zou (fr:Bool) (i:Bool):keeps fr (.bl i)=true:=by cases fr<;>rfl
theorem zke (fr:Bool):keeps fr .non=true:=by cases fr<;>rfl
theorem zkf (fr:Bool) (x:PySem.Str):keeps fr (.str x)=true:=by cases fr<;>rfl
theorem za1 (fr:Bool) (ds:List D):keeps fr (.tup ds)=z3q ds:=by cases fr<;>simp only [keeps,D.noL,D.shal,if_true,Bool.false_eq_true,if_false]
theorem za2 (ds:List D):keeps true (.lst ds)=z3q ds:=rfl
theorem zu2:z3q []=true:=by simp only [z3q]
theorem zu3 (d:D) (r:List D):z3q (d::r)=(d.noL&&z3q r):=by simp only [z3q]
theorem z7j (i:Int):(D.int i).noL=true:=by simp only [D.noL]
theorem zu4 (i:Bool):(D.bl i).noL=true:=by simp only [D.noL]
theorem zov (i:PySem.Str):(D.str i).noL=true:=by simp only [D.noL]
theorem zow:(D.non).noL=true:=by simp only [D.noL]
theorem zox (ds:List D):(D.tup ds).noL=z3q ds:=by simp only [D.noL]
theorem zoy (ds:List D):(D.lst ds).noL=false:=by simp only [D.noL]
theorem zys (i:Nat) (d:D) (ρ:DS):zjr false i d ρ=ρ.set i (.im d):=rfl
theorem zyt (i:Nat) (d:D) (ρ:DS):zjr true i d ρ=ρ.set i (.ow d):=rfl
theorem zyu (ρ:DE):sel [] ρ=[]:=rfl
theorem zyv (j:Nat) (r:List Nat) (ρ:DE):sel (j::r) ρ=(ρ[j]?).getD none::sel r ρ:=rfl
theorem y1p (d:D) (r:DE):z02 0 (some d::r)=.ok d:=rfl
theorem y1q (i:Nat) (d:Option D) (r:DE):z02 (i+1) (d::r)=z02 i r:=rfl
theorem zyw (g:Int->Int->D) (i j:Int):dI g (.int i) (.int j)=some (g i j):=rfl
theorem z7k (C:Int->Int->Prop) [∀i j,Decidable (C i j)] (g:Int->Int->D) (i j:Int):dIC C g (.int i) (.int j)=if C i j then some (g i j) else none:=rfl
theorem zyx (b:Bool):asB (.bl b)=some b:=rfl
theorem zm5 (b:Bool):z85 (.bl b)=some b:=rfl
theorem zu5 (ds:List D):z85 (.lst ds)=some (!ds.isEmpty):=rfl
theorem zu6 (i:Int):z85 (.int i)=some (i != 0):=rfl
theorem z5m (i j:Int):(i==j)=decide (i=j):=by rw [Bool.eq_iff_iff];simp
theorem zu7 (i j:Int):dEq (.int i) (.int j)=some (.bl (decide (i=j))):=by
 unfold dEq
 rw [if_pos (by simp [D.pl,D.dep])]
 simp only [eqD,z5m]
theorem zu8 (i j:Int):dNe (.int i) (.int j)=some (.bl (!decide (i=j))):=by
 unfold dNe
 rw [if_pos (by simp [D.pl,D.dep])]
 simp only [eqD,z5m]
theorem zu9 (i j:Bool):dEq (.bl i) (.bl j)=some (.bl (i==j)):=by
 unfold dEq
 rw [if_pos (by simp [D.pl,D.dep])]
 simp only [eqD]
theorem zua (a b c e:Int):dEq (.tup [.int a,.int b]) (.tup [.int c,.int e])=some (.bl (decide (a=c)&&decide (b=e))):=by
 unfold dEq
 rw [if_pos (by simp [D.pl,D.dep,pls,z4e])]
 simp only [eqD,z4s,z5m,Bool.and_true]
theorem zub (a b c e:Int):dNe (.tup [.int a,.int b]) (.tup [.int c,.int e])=some (.bl (!(decide (a=c)&&decide (b=e)))):=by
 unfold dNe
 rw [if_pos (by simp [D.pl,D.dep,pls,z4e])]
 simp only [eqD,z4s,z5m,Bool.and_true]
theorem zm6 (a:D) (r:List D):dIx (.tup (a::r)) (.int 0)=some a:=by simp only [dIx,dOr,zcf,y0g]
theorem zm7 (a b:D) (r:List D):dIx (.tup (a::b::r)) (.int 1)=some b:=by simp only [dIx,dOr,zcf,y0h]
theorem zuc (a b c:D) (r:List D):dIx (.tup (a::b::c::r)) (.int 2)=some c:=by simp only [dIx,dOr,zcf,show atI (a::b::c::r) 2=some c from z71 (j:=2) rfl]
theorem zud (a:D) (r:List D):dIx (.lst (a::r)) (.int 0)=some a:=by simp only [dIx,dOr,zcf,y0g]
theorem zue (a b:D) (r:List D):dIx (.lst (a::b::r)) (.int 1)=some b:=by simp only [dIx,dOr,zcf,y0h]
theorem zm8 {ds:List D} {j:Nat} {d:D} (h:ds[j]?=some d):dIx (.lst ds) (.int (j:Int))=some d:=by simp only [dIx,dOr,zcf,z71 h]
theorem zuf (ns:List Int):zbt [.scr ns]=some (.int ns.length):=rfl
theorem zm9 (ns:List D):zbt [.lst ns]=some (.int ns.length):=rfl
theorem zug (ns:List D):zbt [.tup ns]=some (.int ns.length):=rfl
theorem zyy (b c:Bool):(if b=true then R.ok true else R.ok c)=R.ok (b||c):=by cases b<;>rfl
theorem zuh (b c:Bool):(if b=true then R.ok c else R.ok false)=R.ok (b&&c):=by cases b<;>rfl
theorem zui (b c:Bool):(if b=true then R.ok (D.bl true) else R.ok (D.bl c))=R.ok (D.bl (b||c)):=by cases b<;>rfl
theorem zoz (b c:Bool):(if b=true then R.ok (D.bl c) else R.ok (D.bl false))=R.ok (D.bl (b&&c)):=by cases b<;>rfl
theorem zuj (i:Int):z4w "int" (.int i)=some (.bl true):=by simp [z4w,z3t,z4r,zc4]
theorem zuk (i:Int):z4w "bool" (.int i)=some (.bl false):=by simp [z4w,z3t,z4r,zc4]
theorem zul (i:Bool):z4w "bool" (.bl i)=some (.bl true):=by simp [z4w,z3t,z4r,zc4]
theorem zhp (ds:List D):z4w "tuple" (.tup ds)=some (.bl true):=by simp [z4w,z3t,z4r,zc4]
theorem zma (ds:List D):z4w "list" (.lst ds)=some (.bl true):=by simp [z4w,z3t,z4r,zc4]
theorem zum (tg:Tg) (g:DS->SR) (ρ:DS):zdo tg g [] ρ=.nx ρ:=rfl
noncomputable def SR.itr (r:SR) (k:DS->SR):SR:=match r with
 | .nx ρ2=>k ρ2
 | .ct ρ2=>k ρ2
 | .bk ρ2=>.nx ρ2
 | .rt d=>.rt d
 | .er x=>.er x
 | .st=>.st
theorem ze5 (ρ:DS) (k:DS->SR):(SR.nx ρ).itr k=k ρ:=rfl
theorem zun (ρ:DS) (k:DS->SR):(SR.ct ρ).itr k=k ρ:=rfl
theorem zuo (ρ:DS) (k:DS->SR):(SR.bk ρ).itr k=.nx ρ:=rfl
theorem zup (d:D) (k:DS->SR):(SR.rt d).itr k=.rt d:=rfl
theorem zp0 (c:Prop) [Decidable c] (a b:SR) (g:DS->SR):(if c then a else b).itr g=if c then a.itr g else b.itr g:=by split<;>rfl
theorem zp1 (bn:D->Option (List D)) (t:DE->R Bool) (f:DE->R D) (cs:DE):z1s bn t f cs []=.ok []:=rfl
theorem zp2 (f:DE->R D) (cs:DE) (d:D) (ds:List D):z1s b1 z52 f cs (d::ds)=(f (some d::cs)).noE.bind fun y=>(z1s b1 z52 f cs ds).bind fun ys=>.ok (y::ys):=rfl
theorem z21 {bn:D->Option (List D)} {f:DE->R D} {cs:DE} {α:Type} {en:α->D} {bs:α->List D} {g:α->D} (xs:List α) (hb:∀x∈xs,bn (en x)=some (bs x)) (hf:∀x∈xs,f ((bs x).map some++cs)=.ok (g x)):z1s bn z52 f cs (xs.map en)=.ok (xs.map g):=by
 induction xs with
 | nil=>rfl
 | cons x xs ih=>
  simp only [List.map_cons,z1s,hb x (by simp),z52,R.of_some,R.bind_ok,ze2,if_true,hf x (by simp),ih (fun y hy=>hb y (by simp [hy])) (fun y hy=>hf y (by simp [hy]))]
theorem z7l {bn:D->Option (List D)} {t:DE->R Bool} {f:DE->R D} {cs:DE} {α:Type} {en:α->D} {bs:α->List D} {p:α->Bool} {g:α->D} (xs:List α) (hb:∀x∈xs,bn (en x)=some (bs x)) (ht:∀x∈xs,t ((bs x).map some++cs)=.ok (p x)) (hf:∀x∈xs,p x=true->f ((bs x).map some++cs)=.ok (g x)):z1s bn t f cs (xs.map en)=.ok ((xs.filter p).map g):=by
 induction xs with
 | nil=>rfl
 | cons x xs ih=>
  have ih':=ih (fun y hy=>hb y (by simp [hy])) (fun y hy=>ht y (by simp [hy])) (fun y hy=>hf y (by simp [hy]))
  simp only [List.map_cons,z1s,hb x (by simp),ht x (by simp),R.of_some,R.bind_ok,ze2,ih']
  cases e:p x with
  | true=>simp only [if_true,hf x (by simp) e,ze2,R.bind_ok,List.filter_cons,e,List.map_cons]
  | false=>simp only [Bool.false_eq_true,if_false,List.filter_cons,e]
theorem zkg {tg:Tg} {g:DS->SR} {α:Type} {en:α->D} (P:List α->DS->Prop) (xs:List α) (ρ:DS) (h0:P xs ρ) (hs:∀x r ρ,P (x::r) ρ->∃ρ1 ρ2,zjs tg (en x) ρ=some ρ1/\(g ρ1=.nx ρ2\/g ρ1=.ct ρ2)/\P r ρ2):∃ρ',zdo tg g (xs.map en) ρ=.nx ρ'/\P [] ρ':=by
 induction xs generalizing ρ with
 | nil=>exact ⟨ρ,rfl,h0⟩
 | cons x r ih=>
  obtain ⟨ρ1,ρ2,e1,e2,q⟩:=hs x r ρ h0
  obtain ⟨ρ',e',p'⟩:=ih ρ2 q
  refine ⟨ρ',?_,p'⟩
  rcases e2 with e2 | e2<;>simp only [List.map_cons,zdo,e1,e2,e']
noncomputable def L (ns:List Int):D:=.lst (ns.map .int)
theorem z1u {α:Type} (f:α->D) (xs:List α) (h:∀x∈xs,(f x).noL=true):z3q (xs.map f)=true:=by
 induction xs with
 | nil=>simp only [List.map_nil,z3q]
 | cons a r ih=>simp only [List.map_cons,z3q,h a (by simp),ih fun x hx=>h x (by simp [hx]),Bool.and_self]
theorem zuq (ns:List Int):keeps true (L ns)=true:=by
 unfold L;rw [za2];exact z1u _ _ fun x _=>z7j x
theorem zyz (ns:List Int):zbt [L ns]=some (.int ns.length):=by unfold L;rw [zm9,List.length_map]
theorem zur (ns:List Int):zey [L ns]=some (L ns):=rfl
theorem zz0 (ns:List Int):z4w "list" (L ns)=some (.bl true):=zma _
theorem zp3 (ns:List Int):items (L ns)=some (ns.map .int):=rfl
theorem y0p {ns:List Int} {x:Int} (h0:0<=x) (h1:x.toNat<ns.length):dIx (L ns) (.int x)=some (.int (ns.getD x.toNat 0)):=by
 have e:(ns.map D.int)[x.toNat]?=some (.int (ns.getD x.toNat 0)):=by
  rw [List.getElem?_map,List.getElem?_eq_getElem h1,List.getD_eq_getElem?_getD,List.getElem?_eq_getElem h1];rfl
 have:=zm8 e
 rwa [show ((x.toNat:Nat):Int)=x by lia] at this
theorem zz1 {ns:List Int} {k:Nat} (h1:k<ns.length):dIx (L ns) (.int (k:Int))=some (.int (ns.getD k 0)):=y0p (x:=(k:Int)) (by lia) (by simpa using h1)
theorem zkh {ns:List Int} {x:Int} (h:ns.length<100000):zcm (L ns) [.int x]=some (L (ns++[x])):=by
 simp only [L,zcm,List.length_map,h,if_true,List.map_append,List.map_cons,List.map_nil]
theorem y1r (ns:List Int) (lo hi:Option Int):dSl (L ns) lo hi=some (L (z86 ns lo hi)):=by
 simp only [L,dSl,z86,List.length_map,List.map_take,List.map_drop]
theorem zus (ns:List Int) (lo hi:Option Int):dSl (.scr ns) lo hi=some (L (z86 ns lo hi)):=rfl
theorem zut (ns:List Int):zh3 [L ns]=some (.int ns.sum):=by simp only [L,zh3,z1m,Option.map_some]
theorem all_map {α:Type} (xs:List α) (f:α->Bool):zsx [.lst (xs.map fun x=>D.bl (f x))]=some (.bl (xs.all f)):=by
 have:xs.map (fun x=>D.bl (f x))=(xs.map f).map D.bl:=by rw [List.map_map];rfl
 rw [this];simp only [zsx,z4x,Option.map_some,List.all_map];rfl
theorem any_map {α:Type} (xs:List α) (f:α->Bool):zsy [.lst (xs.map fun x=>D.bl (f x))]=some (.bl (xs.any f)):=by
 have:xs.map (fun x=>D.bl (f x))=(xs.map f).map D.bl:=by rw [List.map_map];rfl
 rw [this];simp only [zsy,z4x,Option.map_some,List.any_map];rfl
theorem zf5 (ns:List Int):(L ns).dep<=1/\(L ns).pl=true:=by
 have:∀ns:List Int,z4e (ns.map D.int)=0/\pls (ns.map D.int)=true:=fun ns=>by
  induction ns with
  | nil=>simp only [List.map_nil,z4e,pls,and_self]
  | cons a r ih=>simp only [List.map_cons,z4e,pls,D.dep,D.pl,ih.1,ih.2,Bool.and_self,Nat.max_self,and_self]
 simp only [L,D.dep,D.pl,this];exact ⟨by lia,trivial⟩
theorem zhq:∀(a b:List Int),z4s (a.map D.int) (b.map D.int)=decide (a=b)
 | [],[]=>by simp [z4s]
 | [],_::_=>by simp [z4s]
 | _::_,[]=>by simp [z4s]
 | x::a,y::b=>by
  simp only [List.map_cons,z4s,eqD,zhq a b,List.cons.injEq,Bool.decide_and,z5m]
theorem y1s (a b:List Int):dEq (L a) (L b)=some (.bl (decide (a=b))):=by
 unfold dEq
 rw [if_pos ⟨(zf5 a).2,(zf5 b).2,by have:=(zf5 a).1;lia⟩]
 simp only [L,eqD,zhq]
theorem y1t (a b:List Int):dNe (L a) (L b)=some (.bl (!decide (a=b))):=by
 unfold dNe
 rw [if_pos ⟨(zf5 a).2,(zf5 b).2,by have:=(zf5 a).1;lia⟩]
 simp only [L,eqD,zhq]
theorem ze6 {tg:Tg} {g:DS->SR} (n:Nat) (en:Nat->D) (P:Nat->DS->Prop) (ρ:DS) (h0:P 0 ρ)
  (hs:∀i,i<n->∀ρ,P i ρ->∃ρ1 ρ2,zjs tg (en i) ρ=some ρ1/\(g ρ1=.nx ρ2\/g ρ1=.ct ρ2)/\P (i+1) ρ2) :
  ∃ρ',zdo tg g ((List.range n).map en) ρ=.nx ρ'/\P n ρ':=by
 have key:∀k s ρ,s+k=n->P s ρ->∃ρ',zdo tg g ((List.range' s k).map en) ρ=.nx ρ'/\P n ρ':=by
  intro k
  induction k with
  | zero=>intro s ρ e h;exact ⟨ρ,rfl,by rwa [<-e]⟩
  | succ k ih=>
   intro s ρ e h
   obtain ⟨ρ1,ρ2,e1,e2,q⟩:=hs s (by lia) ρ h
   obtain ⟨ρ',e',p'⟩:=ih (s+1) ρ2 (by lia) q
   refine ⟨ρ',?_,p'⟩
   rw [List.range'_succ,List.map_cons]
   rcases e2 with e2 | e2<;>simp only [zdo,e1,e2,e']
 rw [List.range_eq_range']
 exact key n 0 ρ (by lia) h0
theorem zz2 (ns:List Int):isT "list" (L ns)=true:=by simp only [L,isT,beq_self_eq_true]
theorem zuu (m:List Bool) (ρ:DS):z6e false m ρ=frz m ρ:=rfl
theorem zz3 (ρ:DS):frz [] ρ=ρ:=by cases ρ<;>rfl
theorem zz4 (m:List Bool):frz m []=[]:=by cases m<;>rfl
theorem zz5 (b:Bool) (m:List Bool) (s:Sl) (r:DS):frz (b::m) (s::r)=s.frz b::frz m r:=rfl
theorem zuv (b:Bool) (d:D):Sl.frz b (.im d)=.im d:=rfl
theorem zuw (b:Bool):Sl.frz b .em=.em:=rfl
theorem zp4 (d:D):Sl.frz false (.ow d)=.ow d:=rfl
theorem zp5 (d:D):Sl.frz true (.ow d)=.im d:=rfl
theorem zux {i j:Int} (h:-(2 ^ 64)<i/\i<2 ^ 64):zo2 (.int i) (.int j)=some (.int (i * j)):=by
 unfold zo2;rw [z7k,if_pos (show CMul i j from Or.inl h)]
theorem zuy {i j:Int} (h:-(2 ^ 64)<j/\j<2 ^ 64):zo2 (.int i) (.int j)=some (.int (i * j)):=by
 unfold zo2;rw [z7k,if_pos (show CMul i j from Or.inr h)]
theorem zcn {i j:Int} (h:0<j):zgw (.int i) (.int j)=some (.int (i % j)):=by
 unfold zgw;rw [z7k,if_pos h]
theorem zz6 {i j:Int} (h:0<j/\j<1073741824):zsk (.int i) (.int j)=some (.int (i / j)):=by
 unfold zsk;rw [z7k,if_pos (show zn4 i j from h)]
theorem zuz (i:Int):R.of (match D.int i with | .int i=>some (some i) | _=>none)=R.ok (some i):=rfl
theorem zp6 {i j:Int} (hi:-100000<=i/\i<=100000) (hj:-100000<=j/\j<=100000):-(2 ^ 62)<=i/\i<2 ^ 62/\-(2 ^ 62)<=j/\j<2 ^ 62:=by lia
theorem zp7 {j:Int} (hj:-100000<=j/\j<=100000):-(2 ^ 62)<=j/\j<2 ^ 62:=by lia
theorem zki {fs:DE->R (List D)} {ρ:DE} (i j:Int) (hi:-100000<=i/\i<=100000) (hj:-100000<=j/\j<=100000) (h:fs ρ=.ok [.int i,.int j]):zk1 fs ρ=.ok (zD i (j - i).toNat):=by
 unfold zk1;rw [h,R.bind_ok]
 show R.of (if _ then _ else _)=_
 rw [if_pos (zp6 hi hj)];rfl
theorem zz7 {fs:DE->R (List D)} {ρ:DE} (j:Int) (hj:-100000<=j/\j<=100000) (h:fs ρ=.ok [.int j]):zt5 fs ρ=.ok (zD 0 j.toNat):=by
 unfold zt5;rw [h,R.bind_ok]
 show R.of (if _ then _ else _)=_
 rw [if_pos (zp7 hj)];rfl
theorem zp8 (ds:List D):items (.lst ds)=some ds:=rfl
theorem zp9 (ds:List D):items (.tup ds)=some ds:=rfl
theorem zmb (lo:Int) (n:Nat):(zD lo n).length=n:=by simp [zD]
theorem zb6 (ds:List D):keeps false (.lst ds)=false:=by simp only [keeps,D.noL,Bool.false_eq_true,if_false]
theorem zpa (ns:List Int):keeps false (L ns)=false:=zb6 _
noncomputable def T2 (p:Int×Int):D:=.tup [.int p.1,.int p.2]
noncomputable def T3 (p:Int×Int×Int):D:=.tup [.int p.1,.int p.2.1,.int p.2.2]
theorem zb7 {l l':List D} (h:ois l'=true) (p:l.Perm l'):z3u l=z3u l':=
 z58 (z57 ((z1a l).trans p) h) (((z1a l).trans p).trans (z1a l').symm) (z2n (z57 p h)) (z2n h)
noncomputable def zqo {α:Type} (lt:α->α->Bool) (d:α):List α->List α
 | []=>[d]
 | e::r=>if lt e d=true then e::zqo lt d r else d::e::r
noncomputable def zco {α:Type} (lt:α->α->Bool):List α->List α
 | []=>[]
 | d::r=>zqo lt d (zco lt r)
section
variable {α:Type} (f:α->D)
theorem ze7 (d:α):∀l:List α,zk3 (f d) (l.map f)=(zqo (fun a b=>ltT (f a) (f b)) d l).map f
 | []=>rfl
 | e::r=>by
  simp only [List.map_cons,zk3,zqo]
  split
  . rw [List.map_cons,ze7 d r]
  . rfl
theorem z7m:∀l:List α,z3u (l.map f)=(zco (fun a b=>ltT (f a) (f b)) l).map f
 | []=>rfl
 | d::r=>by simp only [List.map_cons,z3u,zco,z7m r,ze7]
variable (lt:α->α->Bool)
theorem zb8 (d:α):∀l:List α,(zqo lt d l).Perm (d::l)
 | []=>.refl _
 | e::r=>by
  unfold zqo
  split
  . exact ((zb8 d r).cons e).trans (.swap d e r)
  . exact .refl _
theorem z5n:∀l:List α,(zco lt l).Perm l
 | []=>.refl _
 | d::r=>(zb8 lt d (zco lt r)).trans ((z5n r).cons d)
end
noncomputable def so2 (ls:List (Int×Int)):List (Int×Int):=zco (fun a b=>ltT (T2 a) (T2 b)) ls
noncomputable def so3 (ls:List (Int×Int×Int)):List (Int×Int×Int):=zco (fun a b=>ltT (T3 a) (T3 b)) ls
theorem z7n (ls:List (Int×Int)):z3u (ls.map T2)=(so2 ls).map T2:=z7m _ _
theorem zcp (ls:List (Int×Int×Int)):z3u (ls.map T3)=(so3 ls).map T3:=z7m _ _
theorem z1y (ls:List (Int×Int)):(so2 ls).Perm ls:=z5n _ _
theorem z6n (ls:List (Int×Int×Int)):(so3 ls).Perm ls:=z5n _ _
theorem z8r {α:Type} (xs:List α) (f:α->D) (p:D->Bool) (h:∀x,p (f x)=true):(xs.map f).all p=true:=by
 rw [List.all_eq_true];intro d hd;obtain ⟨x,_,rfl⟩:=List.mem_map.mp hd;exact h x
theorem z8s {α:Type} (xs:List α) (f:α->D) (h:∀x,(f x).oi=true):ois (xs.map f)=true:=
 ois_mem.mpr fun d hd=>by obtain ⟨x,_,rfl⟩:=List.mem_map.mp hd;exact h x
theorem za3 {α:Type} (xs:List α) (f:α->D) (n:Nat) (h:∀x,(f x).dep<=n):z4e (xs.map f)<=n:=by
 induction xs with
 | nil=>simp only [List.map_nil,z4e,Nat.zero_le]
 | cons a r ih=>simp only [List.map_cons,z4e];have:=h a;lia
theorem pls_of {α:Type} (xs:List α) (f:α->D) (h:∀x,(f x).pl=true):pls (xs.map f)=true:=by
 induction xs with
 | nil=>simp only [List.map_nil,pls]
 | cons a r ih=>simp only [List.map_cons,pls,h a,ih,Bool.and_self]
theorem zkj (p:Int×Int):(T2 p).oi=true:=by simp [T2,D.oi,ois]
theorem zv0 (p:Int×Int×Int):(T3 p).oi=true:=by simp [T3,D.oi,ois]
theorem zmc (p:Int×Int):(T2 p).dep<=1:=by simp [T2,D.dep,z4e]
theorem zv1 (p:Int×Int×Int):(T3 p).dep<=1:=by simp [T3,D.dep,z4e]
theorem zz8 (p:Int×Int):(T2 p).pl=true:=by simp [T2,D.pl,pls]
theorem z7o (p:Int×Int):(T2 p).noL=true:=by simp [T2,D.noL,z3q]
theorem zmd (p:Int×Int×Int):(T3 p).noL=true:=by simp [T3,D.noL,z3q]
theorem zv2 (p q:Int×Int):(z2l (T2 p) (T2 q)).isSome=true:=by
 simp only [T2,z2l,z2b];repeat (first | rfl | split)
theorem zv3 (p q:Int×Int×Int):(z2l (T3 p) (T3 q)).isSome=true:=by
 simp only [T3,z2l,z2b];repeat (first | rfl | split)
theorem zhr (ls:List (Int×Int)) (h:ls.length<64):z7f (ls.map T2)=true:=by
 unfold z7f
 rw [List.length_map,decide_eq_true h,z8s _ _ zkj,decide_eq_true (Nat.le_trans (za3 ls T2 1 zmc) (by decide)),z8r ls T2 (fun d=>(ls.map T2).all fun e=>(z2l d e).isSome) (fun x=>z8r _ _ _ fun y=>zv2 x y),z8r ls T2 zm0 (fun x=>rfl)]
 simp
theorem zhs (ls:List (Int×Int×Int)) (h:ls.length<64):z7f (ls.map T3)=true:=by
 unfold z7f
 rw [List.length_map,decide_eq_true h,z8s _ _ zv0,decide_eq_true (Nat.le_trans (za3 ls T3 1 zv1) (by decide)),z8r ls T3 (fun d=>(ls.map T3).all fun e=>(z2l d e).isSome) (fun x=>z8r _ _ _ fun y=>zv3 x y),z8r ls T3 zm0 (fun x=>rfl)]
 simp
theorem zb9 (ls:List (Int×Int)) (h:ls.length<64):z3e [.lst (ls.map T2)]=some (.lst ((so2 ls).map T2)):=by
 simp only [z3e,zhr ls h,if_true,z7n]
theorem zht (ls:List (Int×Int×Int)) (h:ls.length<64):z3e [.lst (ls.map T3)]=some (.lst ((so3 ls).map T3)):=by
 simp only [z3e,zhs ls h,if_true,zcp]
theorem zv4 {p q:Int×Int×Int} (h:T3 p=T3 q):p=q:=by
 obtain ⟨a,b,c⟩:=p;obtain ⟨a',b',c'⟩:=q
 simp only [T3,D.tup.injEq,List.cons.injEq,D.int.injEq,and_true] at h
 simp only [Prod.mk.injEq];exact h
theorem zme {p q:Int×Int} (h:T2 p=T2 q):p=q:=by
 obtain ⟨a,b⟩:=p;obtain ⟨a',b'⟩:=q
 simp only [T2,D.tup.injEq,List.cons.injEq,D.int.injEq,and_true] at h
 simp only [Prod.mk.injEq];exact h
theorem z6o {α β:Type} {f:α->β} (hf:∀x y,f x=f y->x=y):∀{a b:List α},a.map f=b.map f->a=b
 | [],[],_=>rfl
 | [],_::_,h=>by simp at h
 | _::_,[],h=>by simp at h
 | x::a,y::b,h=>by
  simp only [List.map_cons,List.cons.injEq] at h
  rw [hf _ _ h.1,z6o hf h.2]
theorem ze8 {a b:List (Int×Int×Int)} (p:a.Perm b):so3 a=so3 b:=by
 have:=zb7 (z8s b T3 zv0) (p.map T3)
 rw [zcp,zcp] at this
 exact z6o (fun _ _=>zv4) this
theorem z6p {a b:List (Int×Int)} (p:a.Perm b):so2 a=so2 b:=by
 have:=zb7 (z8s b T2 zkj) (p.map T2)
 rw [z7n,z7n] at this
 exact z6o (fun _ _=>zme) this
theorem zhu {d m:Int} {ys:List Int} (h1:∀y∈ys,y<=m) (h2:m∈ys\/(ys=[]/\d=m)):mxD d ys=m:=by
 cases ys with
 | nil=>
  rcases h2 with h2 | h2
  . cases h2
  . exact h2.2
 | cons n ns=>
  rcases h2 with h2 | h2
  . obtain ⟨a,b⟩:=z7i ns n
    exact Int.le_antisymm (h1 _ a) (b _ h2)
  . cases h2.1
theorem zz9 (ds:List D):isT "list" (.lst ds)=true:=by simp only [isT,beq_self_eq_true]
theorem zza (b:Bool):zqk [.bl b]=some (.int (if b then 1 else 0)):=rfl
theorem zzb (i:Int):zqk [.int i]=some (.int i):=rfl
theorem zv5 (ds:List D):zey [.tup ds]=some (.lst ds):=rfl
theorem zv6 (ds:List D):zey [.lst ds]=some (.lst ds):=rfl
theorem zpb (ds:List D):z7a [.lst ds]=some (.tup ds):=rfl
theorem zpc (ds:List D):z7a [.tup ds]=some (.tup ds):=rfl
theorem zkk (ls:List (Int×Int)):z3q (ls.map T2)=true:=z1u _ _ fun x _=>z7o x
theorem zkl (ls:List (Int×Int×Int)):z3q (ls.map T3)=true:=z1u _ _ fun x _=>zmd x
theorem zkm {d:D} (hp:d.pl=true) (hd:d.dep<=20):dNe d d=some (.bl false):=by
 unfold dNe;rw [if_pos ⟨hp,hp,hd⟩,z6m d hp];rfl
theorem zkn {d:D} (hp:d.pl=true) (hd:d.dep<=20):dEq d d=some (.bl true):=by
 unfold dEq;rw [if_pos ⟨hp,hp,hd⟩,z6m d hp]
theorem zv7 (p q:Int×Int):eqD (T2 p) (T2 q)=decide (p=q):=by
 obtain ⟨a,b⟩:=p;obtain ⟨c,d⟩:=q
 simp only [T2,eqD,z4s,z5m,Bool.and_true,Prod.mk.injEq,Bool.decide_and]
theorem zv8 (t:Int×Int×Int):zh3 [T3 t]=some (.int (t.1+(t.2.1+(t.2.2+0)))):=by
 simp only [T3,zh3,z11,Option.map_some,List.sum_cons,List.sum_nil]
theorem zv9 (t:Int×Int):zh3 [T2 t]=some (.int (t.1+(t.2+0))):=by
 simp only [T2,zh3,z11,Option.map_some,List.sum_cons,List.sum_nil]
theorem zva (t:Int×Int×Int):z4w "tuple" (T3 t)=some (.bl true):=zhp _
theorem zvb (t:Int×Int):z4w "tuple" (T2 t)=some (.bl true):=zhp _
theorem zvc (t:Int×Int):zbt [T2 t]=some (.int 2):=rfl
theorem zzc (t:Int×Int):dIx (T2 t) (.int 0)=some (.int t.1):=zm6 _ _
theorem zzd (t:Int×Int):dIx (T2 t) (.int 1)=some (.int t.2):=zm7 _ _ _
theorem zko (t:Int×Int×Int):items (T3 t)=some [.int t.1,.int t.2.1,.int t.2.2]:=rfl
theorem zmf (a b:List (Int×Int)) (h:a.length+b.length<=100000):zaz (.lst (a.map T2)) (.lst (b.map T2))=some (.lst ((a++b).map T2)):=by
 simp only [zaz,List.length_map,h,if_true,List.map_append]
theorem zhv {X:Cx} {EX:XW} {a:Expr} {bs:List Expr} {Ds:List Addr} {x:Str} {p pos tpos:Pos} {kt:_} {tb:String->Option Bool} {f:DE->R D} (hg:Gl X x) (hm:X.mg x=none) (hv:bootBuiltins x=some (.builtin "isinstance")) (ha:QE X EX false a f) (hb:PDs X bs Ds) (hl:Ds.length<=1000) (B:BelT X.K Ds tb) (hn:x≠"__name__":=by decide) (hdb:(x==("__debug__":Str))=false:=by decide)
 (he:starEach [a,.Tuple bs kt tpos] X.env=(false,eval a X.env)::starEach [.Tuple bs kt tpos] X.env:=by rfl) (hpl:(backTo pos (starEach [.Tuple bs kt tpos] X.env)).any (·.1)=false:=by rfl) (hs:starEach [.Tuple bs kt tpos] X.env=(false,eval (.Tuple bs kt tpos) X.env)::starEach [] X.env:=by rfl) :
 QE X EX false (.Call (.Name x p) [a,.Tuple bs kt tpos] [] pos) (eUn (zfm tb) f):=ztm hg hm hv ha hb hl B hn hdb he hpl hs
theorem z7p:∀{ds:List D} {ns:List Int},z11 ds=some ns->ds=ns.map D.int
 | [],ns,h=>by simp only [z11,Option.some.injEq] at h;subst h;rfl
 | d::ds,ns,h=>by
  cases d<;>simp only [z11] at h<;>first | (cases h;done) | skip
  cases hr:z11 ds with
  | none=>rw [hr] at h;cases h
  | some r=>rw [hr] at h;cases h;rw [z7p hr];rfl
def zvd (i j:Int):Prop:=0<j/\j<2 ^ 200
instance (i j:Int):Decidable (zvd i j):=by unfold zvd;infer_instance
mutual
noncomputable def nkD:D->Option NK
 | .int n=>some (.i n)
 | .tup ds=>(zmg ds).map .t
 | _=>none
noncomputable def zmg:List D->Option (List NK)
 | []=>some []
 | d::ds=>match nkD d,zmg ds with
  | some k,some ks=>some (k::ks)
  | _,_=>none
end
mutual
theorem zhw {K:Frag} {H:Hp}:∀{d:D} {k:NK} {x:V},nkD d=some k->RD K H d x->NKr H k x
 | .int n,k,x,e,r=>by
  simp only [nkD,Option.some.injEq] at e;subst e
  cases r.int;simp only [NKr]
 | .tup ds,k,x,e,r=>by
  simp only [nkD,Option.map_eq_some_iff] at e
  obtain ⟨ks,e,rfl⟩:=e
  obtain ⟨a,xs,rfl,ha,ra⟩:=r.tup
  simp only [NKr]
  exact ⟨a,xs,rfl,ha,zhx e ra⟩
 | .non,_,_,e,_=>by simp [nkD] at e
 | .bl _,_,_,e,_=>by simp [nkD] at e
 | .str _,_,_,e,_=>by simp [nkD] at e
 | .lst _,_,_,e,_=>by simp [nkD] at e
 | .dk _ _,_,_,e,_=>by simp [nkD] at e
 | .dt _ _,_,_,e,_=>by simp [nkD] at e
 | .dn _ _,_,_,e,_=>by simp [nkD] at e
 | .scr _,_,_,e,_=>by simp [nkD] at e
 | .exc _ _,_,_,e,_=>by simp [nkD] at e
theorem zhx {K:Frag} {H:Hp}:∀{ds:List D} {ks:List NK} {xs:List V},zmg ds=some ks->RDs K H ds xs->NKrs H ks xs
 | [],ks,xs,e,r=>by
  simp only [zmg,Option.some.injEq] at e;subst e
  simp only [RDs] at r;subst r;simp only [NKrs]
 | d::ds,ks,xs,e,r=>by
  simp only [RDs] at r
  obtain ⟨x,r,rfl,r1,r2⟩:=r
  simp only [zmg] at e
  split at e
  . rename_i k ks' e1 e2
    cases e
    simp only [NKrs]
    exact ⟨x,_,rfl,zhw e1 r1,zhx e2 r2⟩
  . cases e
end
noncomputable def z3 (qs:List (NK×Addr)) (vs:List Value):List (NK×Addr×Value):=(qs.zip vs).map fun q=>(q.1.1,q.1.2,q.2)
theorem zmh:∀(qs:List (NK×Addr)) (vs:List Value),qs.length=vs.length->(z3 qs vs).map (·.1)=qs.map (·.1)
 | [],_,_=>rfl
 | q::qs,[],h=>by simp at h
 | q::qs,v::vs,h=>by
  have:=zmh qs vs (by simpa using h)
  simp only [z3,List.zip_cons_cons,List.map_cons] at this ⊢
  rw [this]
theorem zpd {α:Type} (xs:List (NK×Addr×α)) (k:NK):((xs.find? fun x=>decide (x.1=k)).map (·.2)).isSome=decide (k∈xs.map (·.1)):=by
 rw [Option.isSome_map,Bool.eq_iff_iff,List.find?_isSome,decide_eq_true_eq,List.mem_map]
 constructor
 . rintro ⟨x,hx,e⟩;exact ⟨x,hx,by simpa using e⟩
 . rintro ⟨x,hx,e⟩;exact ⟨x,hx,by simpa using e⟩
section
variable {X:Cx} {pins:List (Addr×Obj)} {U:St} {H:Hp} {s:Shared}
theorem zpe (I:Inv X pins U H s) {a:Addr} {qs:List (NK×Addr)} {xs:List V} {ob:Obj} (e:H a=some (.ext (dnP a qs xs ob))) (n:DN H a qs):s.heap.get? a=some ob/\∃vs,Vals xs vs/\qs.length=vs.length/\Heap.DictOfH (deepKind X.prog X.w) s.heap a (z3 qs vs):=by
 obtain ⟨p,_,_⟩:=(show ObjOk X.prog X.w H s.heap a (.ext (dnP a qs xs ob)) from I.hok a _ e)
 obtain ⟨p3,vs,es,ep,p1,p2,p4,p5,p6⟩:=p
 refine ⟨p3,vs,p1,p2,ob,es,ep,p3,p4,p5,p6,fun x hx=>?_,by rw [zmh qs vs p2];exact n.1⟩
 obtain ⟨q,hq,rfl⟩:=List.mem_map.mp hx
 have hq':=(List.of_mem_zip hq).1
 exact ⟨zjq I (n.2.1 _ hq').1 rfl,(n.2.1 _ hq').2⟩
end
def zcq (i j:Int):Prop:=Builtin.Int.intBits i<=2 ^ 20/\Builtin.Int.intBits j<=2 ^ 20
instance (i j:Int):Decidable (zcq i j):=by unfold zcq;infer_instance
noncomputable def zba:D->D->Option D:=dIC zcq fun i j=>.int (i * j)
theorem za4 {K:Frag}:OpD K false zba (cIC zcq fun i j=>.int (i * j)):=zew fun _ _ _=>.mkInt _
theorem op_mulG {X:Cx}:OpR X (binaryOp .Mult) (rI zcq fun i j=>.int (i * j)):=opI fun _ _ _ _ _ _ _ hc q=>mul_int q (IntMulOk.of_bits hc.1 hc.2)
theorem ze9 {X:Cx}:OpR X (binaryOp .Mult) (cIC zcq fun i j=>.int (i * j)):=op_mulG.cIC
theorem zze {i j:Int} (hi:Builtin.Int.intBits i<=2 ^ 20) (hj:Builtin.Int.intBits j<=2 ^ 20):zba (.int i) (.int j)=some (.int (i * j)):=by
 unfold zba;rw [z7k,if_pos (show zcq i j from ⟨hi,hj⟩)]
section
open PySem.SeqAt
open PySem.AutoSeq1 (wpAny_loadPart')
open PySem.MeetsSeq PySem.MeetsSeq2 PySem.MeetsSeq3
theorem zkp (l b:Addr) (items items2:Array Value) (n n2:Nat) (dd dd2:Option Addr) (sl sl2:Array (Option Value)) (r:Bool) (k:Nat) :
  ∀i:Nat,items.size - i=k->i<=items.size->i<=items2.size->Meets (Builtin.«list.__eq__.loop» ⟨[.ref l,.ref b,rawInt i,rawInt 0],[]⟩)
   (fun A R s=>s.heap.get? l=some { cls:=.type "list",dict:=dd,data:=.seq items n,slots:=sl }/\s.heap.get? b=some { cls:=.type "list",dict:=dd2,data:=.seq items2 n2,slots:=sl2 } /\
    LexR A.in1 s (items.toList.drop i) (items2.toList.drop i) r/\R (.ok (.ret (.bool r))) s):=by
 induction k with
 | zero=>
  intro i hk hi hi2 prog w A R s h
  obtain ⟨hp,g,d,tk,os⟩:=s;obtain ⟨hl,hb,hL,h⟩:=h
  wp_walk using wpAny_loadPart' hl,wpAny_loadPart' hb
  have hi1:items[((i:Nat):Int).toNat]?=none:=by simp;lia
  have hd:items.toList.drop i=[]:=by simp;lia
  rw [hd] at hL
  rw [hi1]
  wp_walk using wpAny_loadPart' hl,wpAny_loadPart' hb
  show R (.ok (.ret (.bool (decide (items.size<items2.size))))) _
  have e:r=decide (items.size<items2.size):=by
   generalize hw:items2.toList.drop i=ws at hL
   have hlen:ws.length=items2.size - i:=by rw [<-hw];simp
   cases hL with
   | nn=>rw [List.length_nil] at hlen;exact (decide_eq_false (by lia)).symm
   | nc=>rw [List.length_cons] at hlen;exact (decide_eq_true (by lia)).symm
  rw [<-e];exact h
 | succ k ih=>
  intro i hk hi hi2 prog w A R s h
  obtain ⟨hp,g,d,tk,os⟩:=s;obtain ⟨hl,hb,hL,h⟩:=h
  have hlt:i<items.size:=by lia
  have hi1:items[((i:Nat):Int).toNat]?=some items[i]:=by simp [hlt]
  have hd:items.toList.drop i=items[i]::items.toList.drop (i+1):=by rw [List.drop_eq_getElem_cons (by simpa using hlt)];simp
  have hc:((i:Int)+1)=((i+1:Nat):Int):=by push_cast;rfl
  by_cases hlt2:i<items2.size
  . have hi2':items2[((i:Nat):Int).toNat]?=some items2[i]:=by simp [hlt2]
    have hd2:items2.toList.drop i=items2[i]::items2.toList.drop (i+1):=by rw [List.drop_eq_getElem_cons (by simpa using hlt2)];simp
    rw [hd,hd2] at hL
    wp_walk using wpAny_loadPart' hl,wpAny_loadPart' hb
    rw [hi1,hi2']
    generalize hx:items[i]=x at *
    generalize hy:items2[i]=y at *
    cases hL with
    | eq he hr=>
     refine wpAny_bind (he prog w _ _ ?_)
     wp_walk
     rw [hc]
     exact ⟨plainId_quiet plain_eq_loop _,codeAny_builtin entry_eq_loop (by
      rw [Around.under_plainId plain_eq_loop _]
      exact ih (i+1) (by lia) (by lia) (by lia) prog w A R _ ⟨hl,hb,hr,h⟩)⟩
    | lt he hr=>
     refine wpAny_bind (he prog w _ _ ?_)
     wp_walk using wpAny_loadPart' hl,wpAny_loadPart' hb
     rw [hi1,hi2']
     have hri:=hr prog w
     wp_walk using hri
     exact h
  . have hi2':items2[((i:Nat):Int).toNat]?=none:=by simp;lia
    have hd2:items2.toList.drop i=[]:=by simp;lia
    rw [hd,hd2] at hL
    wp_walk using wpAny_loadPart' hl,wpAny_loadPart' hb
    rw [hi1,hi2']
    wp_walk using wpAny_loadPart' hl,wpAny_loadPart' hb
    show R (.ok (.ret (.bool (decide (items.size<items2.size))))) _
    cases hL
    rw [decide_eq_false (by lia)];exact h
theorem zhy (l b:Addr) (items items2:Array Value) (n n2:Nat) (dd dd2:Option Addr) (sl sl2:Array (Option Value)) (r:Bool) :
  Meets (Builtin.«list.__lt__» ⟨[.ref l,.ref b],[]⟩)
   (fun A R s=>s.heap.get? l=some { cls:=.type "list",dict:=dd,data:=.seq items n,slots:=sl }/\s.heap.get? b=some { cls:=.type "list",dict:=dd2,data:=.seq items2 n2,slots:=sl2 } /\
    LexR A.in1 s items.toList items2.toList r/\R (.ok (.ret (.bool r))) s):=by
 intro prog w A R s h
 obtain ⟨hp,g,d,tk,os⟩:=s;obtain ⟨hl,hb,hL,h⟩:=h
 have f3:=AutoSeq1.sub_list_list
 wp_walk using wpAny_loadPart' hl,wpAny_loadPart' hb
 exact ⟨plainId_quiet plain_eq_loop _,codeAny_builtin entry_eq_loop (by
  rw [Around.under_plainId plain_eq_loop _]
  exact zkp l b items items2 n n2 dd dd2 sl sl2 r _ 0 rfl (Nat.zero_le _) (Nat.zero_le _) prog w A R _ ⟨hl,hb,hL,h⟩)⟩
end
theorem z6q:∀ns:List Int,ois (ns.map D.int)=true/\z4e (ns.map D.int)=0
 | []=>by simp [ois,z4e]
 | n::ns=>by
  have:=z6q ns
  simp only [List.map_cons,ois,z4e,D.oi,D.dep,this.1,this.2,Bool.and_self,Nat.max_self,and_self]
end L2
namespace L2
open PySem PySem.Spec PyProof.Rows
noncomputable def zzf (T:String) (mt:D->List D->Option D) (i:Nat) (m:List Bool) (f:DE->R D):DS->SR:=fun ρ=>match ρ[i]? with
 | some (.ow d0)=>if isT T d0=true then (f (vis m ρ)).toS fun d=>match (z6e (keeps true d) m ρ)[i]? with
  | some (.ow dx)=>(R.of (mt dx [d])).toS fun d'=>.nx ((z6e (keeps true d) m ρ).set i (.ow d'))
  | _=>.st
  else .st
 | _=>.st
section
open PySem.SeqAt
open PySem.AutoSeq1 (wpAny_loadPart')
end
end L2
namespace L2
open PySem PySem.Spec PyProof.Rows
noncomputable def z65 (TI TO:Addr) (f0:Value):Obj:={ cls:=.type "zip",data:=.fields #[f0,.bool false,.bool false,.ref TI,.ref TO] }
noncomputable def z0i (a b:Value):Obj:={ cls:=.type "tuple",data:=.seq #[a,b] }
noncomputable def z07 (l:Addr) (i:Nat):Obj:={ cls:=.type "tuple_iterator",data:=.fields #[.ref l,.int i 0] }
abbrev up1 (i:Nat):Obj->Obj:=Obj.mapFields (·.setIfInBounds 1 (rawInt ((i:Int)+1)))
def zcr (i:Addr) (x:Value) (f:Obj->Obj) (A:Around) (s:Shared):Prop:=∀(prog:Program) (w:World) (E:Value->Shared->Prop) (Q:Value->Shared->Prop),Q x { s with heap:=s.heap.update i f }->wpAny (model prog w) A (Builtin.SmallTypes.nextOf (.ref i)) Q E s
def zhz (i:Addr) (A:Around) (s:Shared):Prop:=∀(prog:Program) (w:World) (E:Value->Shared->Prop) (Q:Value->Shared->Prop),
 (∀h' e,(∀c o,c≠i->s.heap.get? c=some o->h'.get? c=some o)->(∃o,h'.get? e=some o/\o.cls=.type "StopIteration")->E (.ref e) { s with heap:=h' })->wpAny (model prog w) A (Builtin.SmallTypes.nextOf (.ref i)) Q E s
section
open PySem.SeqAt
open PySem.AutoSeq1 (wpAny_loadPart')
theorem zi0 (it l:Addr) (items:Array Value) (i n:Nat) (dd:Option Addr) (sl:Array (Option Value)) (x:Value) (hx:items[i]?=some x) :
  Meets (Builtin.«tuple_iterator.__next__» ⟨[.ref it],[]⟩) (fun _ R s=>s.heap.get? it=some (z07 l i)/\s.heap.get? l=some { cls:=.type "tuple",dict:=dd,data:=.seq items n,slots:=sl }/\R (.ok (.ret x)) { s with heap:=s.heap.update it (up1 i) }):=
 .of_wp fun prog w A R s h=>by
  obtain ⟨hp,g,dr,tk,os⟩:=s;obtain ⟨hl,hd,h⟩:=h
  unfold z07 at hl
  have hat:items[((i:Nat):Int).toNat]?=some x:=by simpa using hx
  wp_walk using wpAny_loadPart' hl,wpAny_loadPart' hd
  rw [hat]
  wp_walk using wpAny_loadPart' hl,wpAny_loadPart' hd
  exact ⟨_,rfl,h⟩
theorem zkq (it l:Addr) (items:Array Value) (i n:Nat) (dd:Option Addr) (sl:Array (Option Value)) (hx:items[i]?=none) :
  Meets (Builtin.«tuple_iterator.__next__» ⟨[.ref it],[]⟩) (fun A R s=>s.heap.get? it=some (z07 l i)/\s.heap.get? l=some { cls:=.type "tuple",dict:=dd,data:=.seq items n,slots:=sl }/\A.in1.handled=none /\
   ∀h' e,(∀c o,c≠it->s.heap.get? c=some o->h'.get? c=some o)->(∃o,h'.get? e=some o/\o.cls=.type "StopIteration")->R (.error (.ref e)) { s with heap:=h' }):=
 .of_wp fun prog w A R s h=>by
  obtain ⟨hp,g,dr,tk,os⟩:=s;obtain ⟨hl,hd,hh,h⟩:=h
  unfold z07 at hl
  have hat:items[((i:Nat):Int).toNat]?=none:=by simpa using hx
  wp_walk using wpAny_loadPart' hl,wpAny_loadPart' hd
  rw [hat]
  wp_walk using wpAny_loadPart' hl,wpAny_loadPart' hd
  unfold raiseNew
  refine wpAny_bind (wpAny_handled ?_)
  rw [hh]
  refine wpAny_bind (wpAny_pure (wpAny_throw (h _ _ (fun c o hc e=>?_) ⟨_,Heap.get?_push_size _ rfl,rfl⟩)))
  refine Heap.get?_push_of_some _ (Heap.get?_push_of_some _ ?_)
  rw [Heap.get?_update_ne _ _ _ _ hc]
  exact e
theorem z7q {it l:Addr} {items:Array Value} {i:Nat} {x:Value} {A:Around} {s:Shared} (hit:s.heap.get? it=some (z07 l i)) (hl:s.heap.IsTuple l items) (hx:items[i]?=some x):zcr it x (up1 i) A s:=fun prog w E Q q=>by
 obtain ⟨⟨cl,dd,da,sl⟩,ho,hc,n,hd⟩:=hl
 simp only at hc hd
 subst hc hd
 unfold Builtin.SmallTypes.nextOf
 exact wpAny_bind (wpAny_callSpecial?_slot (name:=Str.ofString "__next__") ⟨_,hit,rfl⟩ F.slot_tuple_iterator_next (call_meets F.slot_tuple_iterator_next ⟨_,hit,rfl⟩ F.entry_tuple_iterator_next (F.args_tuple_iterator_next_1 _) (zi0 it l items i n dd sl x hx) ⟨hit,ho,wpAny_pure q⟩))
theorem zea {it l:Addr} {items:Array Value} {i:Nat} {A:Around} {s:Shared} (hh:A.handled=none) (hit:s.heap.get? it=some (z07 l i)) (hl:s.heap.IsTuple l items) (hx:items[i]?=none):zhz it A s:=fun prog w E Q q=>by
 obtain ⟨⟨cl,dd,da,sl⟩,ho,hc,n,hd⟩:=hl
 simp only at hc hd
 subst hc hd
 unfold Builtin.SmallTypes.nextOf
 exact wpAny_bind (wpAny_callSpecial?_slot (name:=Str.ofString "__next__") ⟨_,hit,rfl⟩ F.slot_tuple_iterator_next (call_meets F.slot_tuple_iterator_next ⟨_,hit,rfl⟩ F.entry_tuple_iterator_next (F.args_tuple_iterator_next_1 _) (zkq it l items i n dd sl hx) ⟨hit,ho,hh,q⟩))
noncomputable def zH1 (hp:Heap) (z:Addr):Heap:=hp.update z (Obj.mapFields (·.setIfInBounds 0 .ellipsis))
noncomputable def zH4 (hp:Heap) (z TO i1 i2:Addr) (x:Value) (f1 f2:Obj->Obj):Heap:=(((zH1 hp z).update i1 f1).update TO (Obj.mapSeq (·.setIfInBounds 0 x))).update i2 f2
noncomputable def zHF (hp:Heap) (z TO i1 i2:Addr) (x y:Value) (f1 f2:Obj->Obj):Heap:=((((zH4 hp z TO i1 i2 x f1 f2).update TO (Obj.mapSeq (·.setIfInBounds 1 y))).push (z0i x y)).update z (Obj.mapFields (·.setIfInBounds 0 (rawInt hp.objs.size)))).update z (Obj.mapFields (·.setIfInBounds 1 (.bool false)))
def zj3 (p:Prop):Prop:=p
theorem zi1 (z TI TO i1 i2:Addr) (a b x y:Value) (f1 f2:Obj->Obj) (n2:TO≠z) (n3:TO≠i1) (n4:TO≠i2) (n5:i1≠z) (n6:i2≠z) :
  Meets (Builtin.«zip.__next__» ⟨[.ref z],[]⟩) (fun A R s=>s.heap.get? z=some (z65 TI TO .none)/\s.heap.get? TI=some (z0i (.ref i1) (.ref i2))/\s.heap.get? TO=some (z0i a b) /\
   zcr i1 x f1 A.in1 { s with heap:=zH1 s.heap z }/\zcr i2 y f2 A.in1 { s with heap:=((zH1 s.heap z).update i1 f1).update TO (Obj.mapSeq (·.setIfInBounds 0 x)) } /\
   R (.ok (.ret (.ref s.heap.objs.size))) { s with heap:=zHF s.heap z TO i1 i2 x y f1 f2 }):=
 .of_wp fun prog w A R s h=>by
  obtain ⟨hp,g,dr,tk,os⟩:=s;obtain ⟨hz,hTI,hTO,g1,g2,h⟩:=h
  unfold z65 at hz
  unfold z0i at hTI hTO
  have g1':=g1 prog w
  have g2':=g2 prog w
  simp only [zH1] at g1' g2'
  have g1s:∀(E:Value->Shared->Prop) (Q:Value->Shared->Prop),zj3 (Q x { heap:=(hp.update z (Obj.mapFields (·.setIfInBounds 0 .ellipsis))).update i1 f1,gens:=g,drawn:=dr,toks:=tk,os:=os })->wpAny (model prog w) A.in1 (Builtin.SmallTypes.nextOf (.ref i1)) Q E { heap:=hp.update z (Obj.mapFields (·.setIfInBounds 0 .ellipsis)),gens:=g,drawn:=dr,toks:=tk,os:=os }:=fun E Q h=>g1' E Q h
  wp_walk using wpAny_onRaise,wpAny_loadPart' hz,wpAny_loadPart' hTI,wpAny_loadPart' hTO,(g1s _ _)
  unfold zj3
  have hTO2:((hp.update z (Obj.mapFields (·.setIfInBounds 0 .ellipsis))).update i1 f1).get? TO=some { cls:=.type "tuple",data:=.seq #[a,b] }:=by
   rw [Heap.get?_update_ne _ _ _ _ n3,Heap.get?_update_ne _ _ _ _ n2];exact hTO
  have hTO3:(((hp.update z (Obj.mapFields (·.setIfInBounds 0 .ellipsis))).update i1 f1).update TO (Obj.mapSeq (·.setIfInBounds 0 x))).get? TO=some { cls:=.type "tuple",data:=.seq #[x,b] }:=by
   rw [Heap.get?_update_self _ hTO2 rfl];rfl
  have g2s:∀(E:Value->Shared->Prop) (Q:Value->Shared->Prop),zj3 (Q y { heap:=(((hp.update z (Obj.mapFields (·.setIfInBounds 0 .ellipsis))).update i1 f1).update TO (Obj.mapSeq (·.setIfInBounds 0 x))).update i2 f2,gens:=g,drawn:=dr,toks:=tk,os:=os })->wpAny (model prog w) A.in1 (Builtin.SmallTypes.nextOf (.ref i2)) Q E { heap:=((hp.update z (Obj.mapFields (·.setIfInBounds 0 .ellipsis))).update i1 f1).update TO (Obj.mapSeq (·.setIfInBounds 0 x)),gens:=g,drawn:=dr,toks:=tk,os:=os }:=fun E Q h=>g2' E Q h
  wp_walk using wpAny_onRaise,(g2s _ _),wpAny_loadPart' (s:={ heap:=(hp.update z (Obj.mapFields (·.setIfInBounds 0 .ellipsis))).update i1 f1,gens:=g,drawn:=dr,toks:=tk,os:=os }) hTO2,(wpAny_updateSeq (s:={ heap:=(hp.update z (Obj.mapFields (·.setIfInBounds 0 .ellipsis))).update i1 f1,gens:=g,drawn:=dr,toks:=tk,os:=os }) hTO2 rfl)
  unfold zj3
  have e4:zH4 hp z TO i1 i2 x f1 f2=((((hp.update z (Obj.mapFields (·.setIfInBounds 0 .ellipsis))).update i1 f1).update TO (Obj.mapSeq (·.setIfInBounds 0 x))).update i2 f2):=rfl
  unfold zHF at h
  rw [e4] at h
  generalize hH4:((((hp.update z (Obj.mapFields (·.setIfInBounds 0 .ellipsis))).update i1 f1).update TO (Obj.mapSeq (·.setIfInBounds 0 x))).update i2 f2)=H4 at h
  have hTO4:H4.get? TO=some { cls:=.type "tuple",data:=.seq #[x,b] }:=by
   rw [<-hH4,Heap.get?_update_ne _ _ _ _ n4];exact hTO3
  have hTO5:(H4.update TO (Obj.mapSeq (·.setIfInBounds 1 y))).get? TO=some { cls:=.type "tuple",data:=.seq #[x,y] }:=by
   rw [Heap.get?_update_self _ hTO4 rfl];rfl
  have hz5:(H4.update TO (Obj.mapSeq (·.setIfInBounds 1 y))).get? z=some { cls:=.type "zip",data:=.fields #[.ellipsis,.bool false,.bool false,.ref TI,.ref TO] }:=by
   rw [Heap.get?_update_ne _ _ _ _ n2.symm,<-hH4,Heap.get?_update_ne _ _ _ _ n6.symm,Heap.get?_update_ne _ _ _ _ n2.symm,Heap.get?_update_ne _ _ _ _ n5.symm,Heap.get?_update_self _ hz rfl];rfl
  wp_walk using wpAny_loadPart' (s:={ heap:=H4,gens:=g,drawn:=dr,toks:=tk,os:=os }) hTO4,(wpAny_updateSeq (s:={ heap:=H4,gens:=g,drawn:=dr,toks:=tk,os:=os }) hTO4 rfl),wpAny_loadPart' (s:={ heap:=H4.update TO (Obj.mapSeq (·.setIfInBounds 1 y)),gens:=g,drawn:=dr,toks:=tk,os:=os }) hTO5
  have hsz:(H4.update TO (Obj.mapSeq (·.setIfInBounds (0+1) y))).objs.size=hp.objs.size:=by
   rw [Heap.size_update,<-hH4,Heap.size_update,Heap.size_update,Heap.size_update,Heap.size_update]
  refine ⟨_,rfl,?_⟩
  show R (.ok (.ret (.ref (H4.update TO (Obj.mapSeq (·.setIfInBounds (0+1) y))).objs.size))) { heap:=(((H4.update TO (Obj.mapSeq (·.setIfInBounds (0+1) y))).push { cls:=.type "tuple",data:=.seq #[x,y].toList.toArray }).update z (Obj.mapFields (·.setIfInBounds 0 (rawInt ((H4.update TO (Obj.mapSeq (·.setIfInBounds (0+1) y))).objs.size:Nat))))).update z (Obj.mapFields (·.setIfInBounds 1 (.bool false))),gens:=g,drawn:=dr,toks:=tk,os:=os }
  rw [hsz]
  exact h
theorem zkr (z TI TO i1 i2:Addr) (a b:Value) (n5:i1≠z) :
  Meets (Builtin.«zip.__next__» ⟨[.ref z],[]⟩) (fun A R s=>s.heap.get? z=some (z65 TI TO .none)/\s.heap.get? TI=some (z0i (.ref i1) (.ref i2))/\s.heap.get? TO=some (z0i a b) /\
   zhz i1 A.in1 { s with heap:=zH1 s.heap z }/\∀h' e,(∀c o,c≠z->c≠i1->s.heap.get? c=some o->h'.get? c=some o)->(∃o,h'.get? e=some o/\o.cls=.type "StopIteration")->R (.error (.ref e)) { s with heap:=h' }):=
 .of_wp fun prog w A R s h=>by
  obtain ⟨hp,g,dr,tk,os⟩:=s;obtain ⟨hz,hTI,hTO,g1,h⟩:=h
  unfold z65 at hz
  unfold z0i at hTI hTO
  have g1':=g1 prog w
  simp only [zH1] at g1'
  have g1s:∀(E:Value->Shared->Prop) (Q:Value->Shared->Prop),zj3 (∀h' e,(∀c o,c≠i1->(hp.update z (Obj.mapFields (·.setIfInBounds 0 .ellipsis))).get? c=some o->h'.get? c=some o)->(∃o,h'.get? e=some o/\o.cls=.type "StopIteration")->E (.ref e) { heap:=h',gens:=g,drawn:=dr,toks:=tk,os:=os })->wpAny (model prog w) A.in1 (Builtin.SmallTypes.nextOf (.ref i1)) Q E { heap:=hp.update z (Obj.mapFields (·.setIfInBounds 0 .ellipsis)),gens:=g,drawn:=dr,toks:=tk,os:=os }:=fun E Q h=>g1' E Q h
  wp_walk using wpAny_onRaise,wpAny_loadPart' hz,wpAny_loadPart' hTI,wpAny_loadPart' hTO,(g1s _ _)
  unfold zj3
  intro h' e kp he
  obtain ⟨oe,hoe,hce⟩:=he
  have hz':h'.get? z=some { cls:=.type "zip",data:=.fields #[.ellipsis,.bool false,.bool false,.ref TI,.ref TO] }:=kp z _ n5.symm (by rw [Heap.get?_update_self _ hz rfl];rfl)
  have hez:e≠z:=fun q=>by rw [q,hz'] at hoe;cases hoe;simp at hce
  refine wpAny_setField hz' rfl (by simp) (h _ e (fun c o c1 c2 q=>?_) ⟨oe,by rw [Heap.get?_update_ne _ _ _ _ hez];exact hoe,hce⟩)
  rw [Heap.get?_update_ne _ _ _ _ c1]
  exact kp c o c2 (by rw [Heap.get?_update_ne _ _ _ _ c1];exact q)
end
end L2
namespace L2
open PySem PySem.Spec PyProof.Rows
section
variable {hp:Heap} {z TI TO i1 i2 l1 l2:Addr} {b x y:Value}
theorem z22 {h:Heap} {c e:Addr} {f:Obj->Obj} (n:c≠e):(h.update e f).get? c=h.get? c:=Heap.get?_update_ne _ _ _ _ n
theorem zzg {H4:Heap} {o1 o2:Obj} (D:ZipApart z TI TO i1 i2 l1 l2) (u1:H4.get? i1=some o1) (u2:H4.get? i2=some o2) (u3:H4.get? TO=some (z0i x b)) (u4:H4.get? z=some (z65 TI TO .ellipsis))
  (u5:∀c o,c≠z->c≠TO->c≠i1->c≠i2->hp.get? c=some o->H4.get? c=some o) (sz:(H4.update TO (Obj.mapSeq (·.setIfInBounds 1 y))).objs.size=hp.objs.size) (nz:hp.objs.size≠z) :
  (((((H4.update TO (Obj.mapSeq (·.setIfInBounds 1 y))).push (z0i x y)).update z (Obj.mapFields (·.setIfInBounds 0 (rawInt hp.objs.size)))).update z (Obj.mapFields (·.setIfInBounds 1 (.bool false)))).get? z=some (z65 TI TO (rawInt hp.objs.size))) /\
  (((((H4.update TO (Obj.mapSeq (·.setIfInBounds 1 y))).push (z0i x y)).update z (Obj.mapFields (·.setIfInBounds 0 (rawInt hp.objs.size)))).update z (Obj.mapFields (·.setIfInBounds 1 (.bool false)))).get? TO=some (z0i x y)) /\
  (((((H4.update TO (Obj.mapSeq (·.setIfInBounds 1 y))).push (z0i x y)).update z (Obj.mapFields (·.setIfInBounds 0 (rawInt hp.objs.size)))).update z (Obj.mapFields (·.setIfInBounds 1 (.bool false)))).get? hp.objs.size=some (z0i x y)) /\
  (((((H4.update TO (Obj.mapSeq (·.setIfInBounds 1 y))).push (z0i x y)).update z (Obj.mapFields (·.setIfInBounds 0 (rawInt hp.objs.size)))).update z (Obj.mapFields (·.setIfInBounds 1 (.bool false)))).get? i1=some o1) /\
  (((((H4.update TO (Obj.mapSeq (·.setIfInBounds 1 y))).push (z0i x y)).update z (Obj.mapFields (·.setIfInBounds 0 (rawInt hp.objs.size)))).update z (Obj.mapFields (·.setIfInBounds 1 (.bool false)))).get? i2=some o2) /\
  ∀c o,c≠z->c≠TO->c≠i1->c≠i2->hp.get? c=some o->((((H4.update TO (Obj.mapSeq (·.setIfInBounds 1 y))).push (z0i x y)).update z (Obj.mapFields (·.setIfInBounds 0 (rawInt hp.objs.size)))).update z (Obj.mapFields (·.setIfInBounds 1 (.bool false)))).get? c=some o:=by
 have t5:(H4.update TO (Obj.mapSeq (·.setIfInBounds 1 y))).get? TO=some (z0i x y):=by rw [Heap.get?_update_self _ u3 rfl];rfl
 have z5:(H4.update TO (Obj.mapSeq (·.setIfInBounds 1 y))).get? z=some (z65 TI TO .ellipsis):=by rw [z22 D.TOz.symm];exact u4
 have a5:(H4.update TO (Obj.mapSeq (·.setIfInBounds 1 y))).get? i1=some o1:=by rw [z22 D.TOi1.symm];exact u1
 have b5:(H4.update TO (Obj.mapSeq (·.setIfInBounds 1 y))).get? i2=some o2:=by rw [z22 D.TOi2.symm];exact u2
 have c5:∀c o,c≠z->c≠TO->c≠i1->c≠i2->hp.get? c=some o->(H4.update TO (Obj.mapSeq (·.setIfInBounds 1 y))).get? c=some o:=fun c o c1 c2 c3 c4 e=>by rw [z22 c2];exact u5 c o c1 c2 c3 c4 e
 generalize H4.update TO (Obj.mapSeq (·.setIfInBounds 1 y))=H5 at *
 have z6:(H5.push (z0i x y)).get? z=some (z65 TI TO .ellipsis):=Heap.get?_push_of_some _ z5
 have z7:((H5.push (z0i x y)).update z (Obj.mapFields (·.setIfInBounds 0 (rawInt hp.objs.size)))).get? z=some (z65 TI TO (rawInt hp.objs.size)):=by rw [Heap.get?_update_self _ z6 rfl];rfl
 have two:∀{c:Addr},c≠z->(((H5.push (z0i x y)).update z (Obj.mapFields (·.setIfInBounds 0 (rawInt hp.objs.size)))).update z (Obj.mapFields (·.setIfInBounds 1 (.bool false)))).get? c=(H5.push (z0i x y)).get? c:=fun n=>by rw [z22 n,z22 n]
 refine ⟨?_,?_,?_,?_,?_,fun c o c1 c2 c3 c4 e=>?_⟩
 . rw [Heap.get?_update_self _ z7 rfl];rfl
 . rw [two D.TOz];exact Heap.get?_push_of_some _ t5
 . rw [two nz,<-sz];exact Heap.get?_push_size _ rfl
 . rw [two D.i1z];exact Heap.get?_push_of_some _ a5
 . rw [two D.i2z];exact Heap.get?_push_of_some _ b5
 . rw [two c1];exact Heap.get?_push_of_some _ (c5 c o c1 c2 c3 c4 e)
end
noncomputable def zN (h:Heap) (os:List Obj):Heap:=os.foldl Heap.push h
theorem zi2:∀(os:List Obj) (h:Heap),(zN h os).objs.size=h.objs.size+os.length
 | [],h=>rfl
 | o::os,h=>by
  show (zN (h.push o) os).objs.size=_
  rw [zi2 os,Heap.size_push,List.length_cons];lia
theorem zcs:∀(os:List Obj) {h:Heap} {c:Addr} {o:Obj},h.get? c=some o->(zN h os).get? c=some o
 | [],_,_,_,e=>e
 | o::os,h,c,u,e=>zcs os (h:=h.push o) (Heap.get?_push_of_some _ e)
theorem zi3 (os:List Obj) (o:Obj) (rest:List Obj) (h:Heap) (hf:o.isFreed=false):(zN h (os++o::rest)).get? (h.objs.size+os.length)=some o:=by
 have e:zN h (os++o::rest)=zN ((zN h os).push o) rest:=by unfold zN;rw [List.foldl_append];rfl
 rw [e,<-zi2]
 exact zcs rest (Heap.get?_push_size _ hf)
section
open PySem.SeqAt
open PySem.AutoSeq1 (wpAny_loadPart')
end
end L2
namespace L2
open PySem PySem.Spec PyProof.Rows
noncomputable def LL (nss:List (List Int)):D:=.lst (nss.map L)
def y1u (H:Hp) (nss:List (List Int)) (v:V) (H':Hp):Prop:=Same H H'/\∃p bs,v=.ref p/\H p=none/\(p::bs).Nodup/\(∀b∈bs,H b=none)/\H' p=some (.lst (bs.map V.ref))/\bs.length=nss.length /\
 ∀(i:Nat) b ns,bs[i]?=some b->nss[i]?=some ns->H' b=some (.lst (ns.map V.int))
theorem zi4 {f:DE->R D} {cs:DE} {d:D} {ds:List D} {zs:List D} (h:z1s b1 z52 f cs (d::ds)=.ok zs):∃y ys,f (some d::cs)=.ok y/\z1s b1 z52 f cs ds=.ok ys/\zs=y::ys:=by
 have h:(f (some d::cs)).noE.bind (fun y=>(z1s b1 z52 f cs ds).bind fun ys=>.ok (y::ys))=.ok zs:=h
 cases q:f (some d::cs) with
 | er x=>rw [q] at h;cases h
 | st=>rw [q] at h;cases h
 | ok y=>
  rw [q] at h
  have h:((z1s b1 z52 f cs ds).bind fun ys=>.ok (y::ys))=.ok zs:=h
  cases q2:z1s b1 z52 f cs ds with
  | er x=>rw [q2] at h;cases h
  | st=>rw [q2] at h;cases h
  | ok ys=>rw [q2] at h;cases h;exact ⟨y,ys,rfl,rfl,rfl⟩
theorem zbb {f:DE->R D} {cs:DE}:∀{ds zs:List D},z1s b1 z52 f cs ds=.ok zs->zs.length=ds.length
 | [],zs,h=>by cases h;rfl
 | d::ds,zs,h=>by
  obtain ⟨y,ys,_,h2,rfl⟩:=zi4 h
  rw [List.length_cons,List.length_cons,zbb h2]
theorem zpf {K:Frag} {EX:XW} {U:St} {H:Hp} {kp:Bool} {fi:DE->R (List D)} {ix:List Nat} {f:DE->R D} {Q:VK} {tt:TT} (htt:∀U H Q,TTd K F0 z52 U H Q->tt U H Q)
  (h:Same EX.hb H/\∃ρ H0,Same H0 H/\RE K H0 ρ U/\Rk EX.at (fi ρ) fun ds=>ds.length<=100000/\∃nss:List (List Int),z1s b1 z52 f (L2.sel ix ρ) ds=.ok (nss.map L)/\∀v H',y1u H nss v H'->Q v H') :
  z6c (TId K EX kp fi) cB1 ix tt (TEd K F0 true f) U H Q:=by
 obtain ⟨sx,ρ,H0,s,e,h⟩:=h
 refine ⟨sx,ρ,H0,s,e,h.mono fun ds h J H1 H1' s1 e1 it D hD=>?_⟩
 obtain ⟨hsz,nss,hc,h⟩:=h
 have it':zli K J H1' ds:=by
  cases kp with
  | true=>rw [if_pos rfl] at it;exact ⟨fun i d q H H1 a b=>it.1 i d q H H1 (fun _ _ z=>nomatch z) b,fun H a=>it.2 H fun _ _ z=>nomatch z⟩
  | false=>rw [if_neg Bool.false_ne_true] at it;exact it
 have e':=e.mono e1.1
 have hDn:H1' D=none:=e1.2.1.none hD
 have hlen:nss.length=ds.length:=by have:=zbb hc;rwa [List.length_map] at this
 refine ⟨fun i mm ys H2=>mm=ds.length - i/\i<=ds.length/\∃bs H2',ys=bs.map V.ref/\bs.length=i/\Same H1 H2/\H2 D=some (.lst ys)/\Ext H1' H1 H2' H2/\H2' D=none/\(D::bs).Nodup/\(∀b∈bs,H1 b=none/\H2 b≠none) /\
   (∀(j:Nat) b ns,bs[j]?=some b->nss[j]?=some ns->H2 b=some (.lst (ns.map V.int)))/\z1s b1 z52 f (L2.sel ix ρ) (ds.drop i)=.ok ((nss.drop i).map L),
  ⟨ds.length,by simp,Nat.zero_le _,[],H1',rfl,rfl,Same.upd_new hD,z0d,(Ext.refl e1.2.1).grow (Same.upd_new hD),hDn,by simp,by simp,by simp,hc⟩,?_⟩
 rintro i mm ys H2 ⟨rfl,hi,bs,H2',rfl,hb,s2,hd2,e2,hdn2,nd,frs,hv,hc⟩
 refine ⟨hd2,?_⟩
 by_cases hlt:i<ds.length
 . have hd:ds[i]?=some ds[i]:=by simp [hlt]
   obtain ⟨hgo,hy⟩:=it'.1 i _ hd H2 H2' e2.1 e2.2.1
   have hdr:ds.drop i=ds[i]::ds.drop (i+1):=List.drop_eq_getElem_cons hlt
   rw [hdr] at hc
   obtain ⟨y,zs,hf,hc',ez⟩:=zi4 hc
   have hni:i<nss.length:=by rw [hlen];exact hlt
   rw [List.drop_eq_getElem_cons hni,List.map_cons] at ez
   injection ez with ey ezs
   refine .inr ⟨hgo,fun x H3 yy=>?_⟩
   obtain ⟨s3,H3',e3,r3⟩:=hy x H3 yy
   refine zy3 (K:=K) H3' H3 x _ [ds[i]] _ e3.2.1 r3 rfl fun vs rvs=>?_
   have en:=(e'.mono (e2.1.trans e3.1)).sel rvs ix
   have e23:=e2.trans s2 e3
   refine htt _ _ _ ⟨F0.same _,_,H3',e3.2.1,en,fun H4 s4=>?_⟩
   have s14:=s2.trans (s3.trans s4)
   have hd4:H4 D=some (.lst (bs.map V.ref)):=s4 _ _ (s3 _ _ hd2)
   have hdn3:H3' D=none:=e3.2.2 D (z4t hd2) hdn2
   have e14:Ext H1' H1 H3' H4:=e23.grow s4
   dsimp only
   rw [if_pos rfl]
   refine ⟨F0.same _,_,H3',e14.2.1,en,?_⟩
   rw [show f (List.map some [ds[i]]++L2.sel ix ρ)=.ok y from hf]
   intro w H5 o5
   obtain ⟨s5,H5',e5,r5⟩:=o5
   rw [if_pos rfl] at r5
   obtain ⟨p,rfl,hp4,hp5,ob⟩:=r5
   have hpv:H5 p=some (.lst (nss[i].map V.int)):=by
    rw [<-ey] at ob
    simp only [OB,L] at ob
    obtain ⟨xs,hx,rx⟩:=ob
    rw [hx,z1t (z1m _) rx]
   have hd5:H5 D=some (.lst (bs.map V.ref)):=s5 _ _ hd4
   have hdn5:H5' D=none:=e5.2.2 D (z4t hd4) hdn3
   have e15:=e14.trans s14 e5
   have hpD:p≠D:=fun z=>by rw [z,hd4] at hp4;cases hp4
   have s25:Same H2 H5:=s3.trans (s4.trans s5)
   have hpb:p∉bs:=fun z=>(s3.trans s4).ne (frs p z).2 hp4
   have nd':=List.nodup_cons.mp nd
   have bD:∀b∈bs,b≠D:=fun b hb' z=>nd'.1 (by rw [<-z];exact hb')
   refine ⟨hd5,z56 (by rw [List.length_map];lia),ds.length - (i+1),by lia,rfl,hlt,bs++[p],H5',by simp,by simp [hb],(s14.trans s5).upd_at hD,z0d,⟨e15.1,e15.2.1.upd_at hdn5,e15.2.2⟩,hdn5,?_,?_,?_,?_⟩
   . refine List.nodup_cons.mpr ⟨fun z=>?_,List.nodup_append.mpr ⟨nd'.2,by simp,fun a ha b hb' ee=>?_⟩⟩
     . rcases List.mem_append.mp z with z | z
       . exact nd'.1 z
       . exact hpD (List.mem_singleton.mp z).symm
     . rw [List.mem_singleton.mp hb'] at ee
       exact hpb (by rw [<-ee];exact ha)
   . intro b hb'
     rcases List.mem_append.mp hb' with z | z
     . exact ⟨(frs b z).1,by rw [z08 (bD b z)];exact s25.ne (frs b z).2⟩
     . rw [List.mem_singleton.mp z]
       exact ⟨s14.none hp4,by rw [z08 hpD,hpv];exact fun z=>nomatch z⟩
   . intro j b ns hj hns
     by_cases hjl:j<bs.length
     . rw [List.getElem?_append_left hjl] at hj
       rw [z08 (bD b (List.mem_of_getElem? hj))]
       exact s25 _ _ (hv j b ns hj hns)
     . rw [List.getElem?_append_right (by lia)] at hj
       have hj0:j - bs.length=0:=by
        apply Classical.byContradiction;intro hn
        rw [List.getElem?_eq_none (by simp only [List.length_cons,List.length_nil];lia)] at hj;cases hj
       rw [hj0] at hj
       have hbp:p=b:=by simpa using hj
       have hji:j=i:=by lia
       subst hbp hji
       rw [List.getElem?_eq_getElem hni] at hns
       rw [z08 hpD,hpv,Option.some.inj hns]
   . rw [ezs];exact hc'
 . have ei:i=ds.length:=by lia
   subst ei
   exact .inl ⟨it'.2 H2 (e2.1.trans e2.2.1),h _ H2 ⟨s1.trans s2,D,bs,rfl,s1.none hD,nd,fun b hb'=>s1.none (frs b hb').1,hd2,by rw [hb,hlen],hv⟩⟩
theorem RD.ofInts {K:Frag} {H:Hp} {a:Addr} {ns:List Int} (h:H a=some (.lst (ns.map V.int))):RD K H (L ns) (.ref a):=by
 simp only [L,RD]
 exact ⟨a,_,rfl,h,RDs.ofInts _⟩
theorem RDs.ofLists {K:Frag} {H:Hp}:∀{bs:List Addr} {nss:List (List Int)},bs.length=nss.length->(∀(i:Nat) b ns,bs[i]?=some b->nss[i]?=some ns->H b=some (.lst (ns.map V.int)))->RDs K H (nss.map L) (bs.map V.ref)
 | [],[],_,_=>.nil
 | [],_::_,h,_=>by simp at h
 | _::_,[],h,_=>by simp at h
 | b::bs,ns::nss,h,k=>.cons (RD.ofInts (k 0 b ns rfl rfl)) (RDs.ofLists (by simpa using h) fun i b' ns' h1 h2=>k (i+1) b' ns' (by simpa using h1) (by simpa using h2))
theorem RD.ofLL {K:Frag} {H:Hp} {p:Addr} {bs:List Addr} {nss:List (List Int)} (h:H p=some (.lst (bs.map V.ref))) (hl:bs.length=nss.length) (hv:∀(i:Nat) b ns,bs[i]?=some b->nss[i]?=some ns->H b=some (.lst (ns.map V.int))):RD K H (LL nss) (.ref p):=by
 simp only [LL,RD]
 exact ⟨p,_,rfl,h,RDs.ofLists hl hv⟩
section
open PySem.SeqAt
open PySem.AutoSeq1 (wpAny_loadPart')
end
section
open PySem.SeqAt
open PySem.AutoSeq1 (wpAny_loadPart')
end
end L2
namespace L2
open PySem PySem.Spec PyProof.Rows
noncomputable def zct (g:Int->Int->Int) (i:Nat) (m:List Bool) (fv:DE->R D):DS->SR:=fun ρ=>match ρ[i]? with
 | some (.im (.int a))=>(fv (vis m ρ)).toS fun d=>match d with
  | .int b=>.nx (ρ.set i (.im (.int (g a b))))
  | _=>.st
 | _=>.st
section
variable {X:Cx} {K:Frag} {EX:XW} {fr:Bool} {m:List Bool} {De:Ends} {U:St} {H:Hp}
theorem zve {g:Int->Int->Int} {i:Nat} {fv:DE->R D} (h:TSd K EX fr (zct g i m fv) De U H):y01 i (TEd K EX false fv) (ipI g) De U H:=by
 obtain ⟨Hc,Hb,H0,ρ,sb,I,h⟩:=h
 unfold zct at h
 split at h
 . rename_i a q
   obtain ⟨v,e1,rv⟩:=I.im i (.int a) q
   cases rv.int
   refine ⟨.int a,e1,?_⟩
   rw [SK.toS] at h
   refine I.te sb h fun d h y H1 H1n I1 ap=>?_
   split at h
   . rename_i b
     cases ap.rd.int
     rw [ze4,zm4] at I1
     exact ⟨a,b,rfl,rfl,h _ H1 H1n (I1.put (fr:=false) (d:=.int (g a b)) (v:=.int (g a b)) (by unfold Apt;rw [if_neg Bool.false_ne_true];exact .mkInt _) i)⟩
   . exact h.elim
 . exact h.elim
theorem zmi {g:Int->Int->Int} {i:Nat} {x:Str} {e:Expr} {op:Operator} {pos pos':Pos} {fv:DE->R D} (hp:PIp X op (ipI g)) (hN:X.N.Nodup) (hi:X.N[i]?=some x) (hx:Loc X.env.scope x) (hv:QE X EX false e fv) (hf:X.fn x=true\/X.env.scope.names.lookup x=some .local:=by first | exact .inl rfl | exact .inr rfl | assumption) :
 QS X EX fr (.AugAssign (.Name x pos') op e pos) (zct g i m fv):=⟨(zr4 hN hi hx hv.h hp hf).imp fun _ _ _ q=>zve q⟩
end
def zcu (i j:Int):Prop:=0<j/\j.natAbs<2 ^ 9000
noncomputable instance (i j:Int):Decidable (zcu i j):=Classical.propDecidable _
theorem zzh {i j:Int} (h:zcu i j):Builtin.divisionGoesByPylong i j=false:=by
 unfold Builtin.divisionGoesByPylong
 have h0:j.natAbs≠0:=by have:=h.1;lia
 have h2:j.natAbs.log2<9000:=(Nat.log2_lt h0).mpr h.2
 have h3:(j==0)=false:=by simp;have:=h.1;lia
 simp only [h3,Bool.false_eq_true,if_false]
 rw [decide_eq_false (by lia),Bool.false_and]
noncomputable def dDivH:D->D->Option D:=dIC zcu fun i j=>.int (i / j)
section
variable {X:Cx} {K:Frag}
theorem op_fdivH:OpR X (binaryOp .FloorDiv) (rI zcu fun i j=>.int (i / j)):=opI fun i j _ _ _ _ _ hc q=>by
 have h1:(0:Int)<j:=hc.1
 exact floordiv_int (by lia) (by rw [Int.fdiv_eq_ediv_of_nonneg i (by lia)];exact q) (.inl (zzh hc))
theorem zpg:OpR X (binaryOp .FloorDiv) (cIC zcu fun i j=>.int (i / j)):=op_fdivH.cIC
theorem zph:OpD K false dDivH (cIC zcu fun i j=>.int (i / j)):=zew fun _ _ _=>.mkInt _
end
theorem zvf {i j:Int} (h0:0<j) (h:j.natAbs<2 ^ 9000):dDivH (.int i) (.int j)=some (.int (i / j)):=by
 unfold dDivH;rw [z7k,if_pos (show zcu i j from ⟨h0,h⟩)]
section
open PySem.SeqAt
open PySem.AutoSeq1 (wpAny_loadPart')
end
end L2
namespace L2
open PySem PySem.Spec PyProof.Rows
noncomputable def valN {α:Type} (ks:List NK) (xs:List α) (k:NK):Option α:=((ks.zip xs).find? fun p=>decide (p.1=k)).map (·.2)
theorem zpi:typeLookup (.type "list") "keys"=pure none:=am_miss_of_fast (by kernel_rfl)
section
variable {prog:Program} {w:World} {A:Around} {E:Value->Shared->Prop} {s:Shared}
theorem zpj {a:Addr} {o:Obj} {xs:Array Value} {k:Nat} {Q:Option Value->Shared->Prop}
  (hx:s.heap.get? a=some o) (hc:o.cls=.type "list") (hdat:o.data=.seq xs k) (hd:o.dict=none) (hA:A.handled=none)
  (h:∀h' tk,(∀b o,s.heap.get? b=some o->h'.get? b=some o)->Q none { s with heap:=h',toks:=tk }) :
  wpAny (model prog w) A (getAttr? (.ref a) "keys") Q E s:=by
 obtain ⟨c,dct,dat,sl⟩:=o
 simp only at hc hdat hd
 subst hc hdat hd
 obtain ⟨hp,g,d,tk,os⟩:=s
 have hT:∀tk',(⟨hp,g,d,tk',os⟩:Shared).TypeIs (.ref a) "list":=fun _=>⟨_,hx,rfl⟩
 have f1:=sub_AttributeError
 have f3:=F.slot_list_getattribute.lookup
 have f4:=F.slot_list_getattribute.bind (.ref a)
 have f5:=am_list_getattr_none
 unfold getAttr? getAttrBy? getAttrBy
 repeat (any_goals (first | assumption | exact hT _ | ((with_reducible show wpAny _ _ (call (Value.builtin "list.__getattribute__") _ _) _ _ _);refine call_meets F.slot_list_getattribute (hT _) am_entry_list_getattribute (F.args_list_getattribute_2 _ _) (meets_getattribute_miss_list a xs k sl "keys" _ zpi (by decide +kernel)) ⟨hx,hA,fun h' tk' e hx'=>?_⟩) | wp_step))
 obtain ⟨t',u',he⟩:=hx'.there
 show wpAny _ _ (getattributeRaised _ _ _ _ _ _ _) _ _ _
 unfold getattributeRaised
 repeat (any_goals (first | assumption | wp_step))
 exact h _ _ hx'.keeps
end
theorem zeb:entryFor table "dict.update.loop"=some Builtin.«dict.update.loop»:=entryFor_of_tree (by kernel_rfl)
theorem z6r:plainId "dict.update.loop"=true:=by decide +kernel
def Keep (h h':Heap):Prop:=∀b o,h.get? b=some o->h'.get? b=some o
theorem Keep.trans {a b c:Heap} (x:Keep a b) (y:Keep b c):Keep a c:=fun q o e=>y q o (x q o e)
theorem Keep.tuple {h h':Heap} (x:Keep h h') {a:Addr} {its:Array Value} (t:h.IsTuple a its):h'.IsTuple a its:=let ⟨o,e,c⟩:=t;⟨o,x a o e,c⟩
theorem Keep.list {h h':Heap} (x:Keep h h') {a:Addr} {its:Array Value} (t:h.IsList a its):h'.IsList a its:=let ⟨o,e,c⟩:=t;⟨o,x a o e,c⟩
section
variable {prog:Program} {w:World}
theorem z8t {h h':Heap} {d it l:Addr} {i:Nat} {acc:List (NK×Addr×Value)} (hd:h.DictOfH (deepKind prog w) d acc) (hi:h.IsListIter it l i) (hne:d≠it) (kp:∀b o,b≠it->h.get? b=some o->h'.get? b=some o):h'.DictOfH (deepKind prog w) d acc:=by
 obtain ⟨o,es,ep,d1,d2,d3,d4,d5,d6⟩:=hd
 refine ⟨o,es,ep,kp d o hne d1,d2,d3,d4,fun x hx=>⟨NKv.stay (fun a its t=>?_) (d5 x hx).1,(d5 x hx).2⟩,d6⟩
 obtain ⟨ot,et,ct,n,dt⟩:=t
 obtain ⟨oi,ei,ci,_⟩:=hi
 refine ⟨ot,kp a ot (fun z=>?_) et,ct,n,dt⟩
 subst z
 rw [et] at ei;cases ei
 rw [ct] at ci;exact absurd (Value.type.inj ci) (by decide)
theorem zpk {h₀:Heap} {l it d:Addr} {items:Array Value} {A:Around} {R:Result->Shared->Prop} (hd0:h₀.get? d=none) (hit0:h₀.get? it=none) (hne:d≠it) (hl:h₀.IsList l items) (hh:A.handled=none) (hu:A.units+16<cLine) :
  ∀(rest:List (Addr×NK×Addr×Value)) (i:Nat) (acc:List (NK×Addr×Value)) (s:Shared),Keep h₀ s.heap->s.heap.IsListIter it l i->s.heap.DictOfH (deepKind prog w) d acc ->
   items.toList.drop i=rest.map (fun r=>Value.ref r.1)->(∀r∈rest,h₀.IsTuple r.1 #[.ref r.2.2.1,r.2.2.2]/\NKv h₀ r.2.1 (.ref r.2.2.1)/\r.2.1.dep<=8)->acc.length+rest.length<=sizeLine ->
   (∀h' tk,h'.DictOfH (deepKind prog w) d (rest.foldl (fun a r=>storedH a r.2.1 r.2.2.1 r.2.2.2) acc)->Keep h₀ h'->R (.ok (.ret .none)) { s with heap:=h',toks:=tk }) ->
   codeAny (model prog w) A (.builtin "dict.update.loop" ⟨[.ref d,.ref it,rawInt i,.none],[]⟩) R s:=by
 intro rest
 induction rest with
 | nil=>
  intro i acc s kp hi hd hr hf hz k
  refine codeAny_builtin zeb ?_
  rw [Around.under_plainId z6r _]
  show wpAny _ A.in1 (pyNext (.ref it) >>= _) _ _ s
  have hx:items[i]?=none:=by
   have:items.toList[i]?=none:=by
    rw [List.getElem?_eq_none_iff]
    exact List.drop_eq_nil_iff.mp hr
   simpa using this
  refine wpAny_bind (wpAny_pyNext_list_end hh hi (kp.list hl) hx fun h' ex=>?_)
  show wpAny _ _ (Builtin.Dict.addKeywords d [] >>= _) _ _ _
  refine wpAny_bind (wpAny_pure (wpAny_pure ?_))
  refine k h' s.toks ?_ ?_
  . exact z8t hd hi hne fun b o hb e=>ex b o hb e
  . exact fun b o e=>ex b o (fun z=>by rw [z,hit0] at e;cases e) (kp b o e)
 | cons r rest ih=>
  intro i acc s kp hi hd hr hf hz k
  refine codeAny_builtin zeb ?_
  rw [Around.under_plainId z6r _]
  show wpAny _ A.in1 (pyNext (.ref it) >>= _) _ _ s
  have hx:items[i]?=some (.ref r.1):=by
   have:items.toList[i]?=some (.ref r.1):=by
    have e:=congrArg List.head? hr
    rw [List.head?_drop] at e
    rw [e];rfl
   simpa using this
  obtain ⟨ht,hk,hdp⟩:=hf r (by simp)
  refine wpAny_bind (wpAny_pyNext_list_item hi (kp.list hl) hx fun h' hi' sb=>?_)
  have kp':Keep h₀ h':=fun b o e=>by
   have hb:b≠it:=fun z=>by rw [z,hit0] at e;cases e
   rw [sb.2 b hb];exact kp b o e
  have hd':h'.DictOfH (deepKind prog w) d acc:=z8t hd hi hne fun b o hb e=>by rw [sb.2 b hb];exact e
  have tt:=kp'.tuple ht
  obtain ⟨ot,et,ct,nt,dt⟩:=tt
  show wpAny _ _ (holding [Value.ref r.1] _ >>= _) _ _ _
  refine wpAny_bind (wpAny_holding ?_)
  refine wpAny_bind (wpAny_tryCatch ?_)
  unfold Builtin.Dict.pairItems
  refine wpAny_bind (wpAny_typeOf (T:="tuple") ⟨ot,et,ct⟩ ?_)
  show wpAny _ _ (seqItems? (.ref r.1) >>= _) _ _ _
  refine wpAny_bind (wpAny_seqItems et dt (wpAny_pure ?_))
  show wpAny _ _ (holding [Value.ref r.2.2.1,r.2.2.2] (dictSet d (.ref r.2.2.1) r.2.2.2)) _ _ _
  refine wpAny_holding (wpAny_dictSet_heap (knd:=deepKind prog w) (hsz:=by simp only [List.length_cons] at hz;lia) (by show A.units+1+8<cLine;lia) ⟨NKv.stay (fun a its t=>kp'.tuple t) hk,hdp⟩ hd' fun h'' hd'' sb''=>?_)
  refine wpAny_pure ⟨plainId_quiet z6r _,?_⟩
  have e1:rawInt ((i:Int)+1)=rawInt ((i+1:Nat):Int):=by simp
  show codeAny _ _ (.builtin "dict.update.loop" ⟨[.ref d,.ref it,rawInt ((i:Int)+1),.none],[]⟩) _ _
  rw [e1]
  refine ih (i+1) _ { s with heap:=h'',toks:=_ } (fun b o e=>?_) ?_ hd'' ?_ (fun q hq=>hf q (by simp [hq])) ?_ k
  . have hb:b≠d:=fun z=>by rw [z,hd0] at e;cases e
    show h''.get? b=some o
    rw [sb''.2 b hb];exact kp' b o e
  . obtain ⟨o,eo,c⟩:=hi'
    exact ⟨o,by show h''.get? it=some o;rw [sb''.2 it (Ne.symm hne)];exact eo,c⟩
  . have e:=congrArg List.tail hr
    rw [List.tail_drop] at e
    exact e
  . have:(storedH acc r.2.1 r.2.2.1 r.2.2.2).length<=acc.length+1:=by
     unfold storedH;split
     . rw [List.length_map];lia
     . rw [List.length_append];simp
    simp only [List.length_cons] at hz;lia
end
section
variable {prog:Program} {w:World}
theorem zpl {A:Around} {E:Value->Shared->Prop} {s:Shared} {l:Addr} {its:Array Value} {Q:Value->Shared->Prop} (hl:PlainL s.heap l its) (hh:A.handled=none) (hu:A.units+32<cLine)
  (rest:List (Addr×NK×Addr×Value)) (hr:its.toList=rest.map (fun r=>Value.ref r.1)) (hf:∀r∈rest,s.heap.IsTuple r.1 #[.ref r.2.2.1,r.2.2.2]/\NKv s.heap r.2.1 (.ref r.2.2.1)/\r.2.1.dep<=8) (hz:rest.length<=sizeLine)
  (k:∀h' tk,h'.DictOfH (deepKind prog w) s.heap.objs.size (rest.foldl (fun a r=>storedH a r.2.1 r.2.2.1 r.2.2.2) [])->Keep s.heap h'->Q (.ref s.heap.objs.size) { s with heap:=h',toks:=tk }) :
  wpAny (model prog w) A (call (.type "dict") [.ref l]) Q E s:=by
 obtain ⟨o,n,e,hc,hdi,hda⟩:=hl
 have hlt:l<s.heap.objs.size:=Heap.lt_size e
 refine callType_codes (Q₁:=fun obj s₁=>obj=.ref s.heap.objs.size/\s₁={ s with heap:=s.heap.push { cls:=.type "dict",data:=.dict #[] } }) PySem.F.kt_called_dict (PySem.F.kt_typeCall_dict_1 _) PySem.F.entry_dict_init (kt_code_dict_new _ ⟨rfl,rfl⟩) ?_
 rintro obj s₁ ⟨rfl,rfl⟩
 have hn:(s.heap.push { cls:=.type "dict",data:=.dict #[] }).get? s.heap.objs.size=some { cls:=.type "dict",data:=.dict #[] }:=Heap.get?_push_size _ rfl
 have e':(s.heap.push { cls:=.type "dict",data:=.dict #[] }).get? l=some o:=Heap.get?_push_of_some _ e
 refine ⟨⟨_,hn,rfl⟩,PySem.F.args_dict_init_2 _ _,?_⟩
 unfold Builtin.«dict.__init__»
 refine wpAny_bind ?_
 unfold Builtin.Dict.selfAndRest
 refine wpAny_bind (wpAny_notOrdered_dict ⟨_,hn,rfl⟩ ?_)
 show wpAny _ _ (pure (s.heap.objs.size,[Value.ref l])) _ _ _
 refine wpAny_pure ?_
 show wpAny _ _ (Builtin.Dict.updateFrom "dict.__init__" s.heap.objs.size (.ref l) [] .none) _ _ _
 unfold Builtin.Dict.updateFrom
 refine wpAny_bind (wpAny_typeOf (T:="list") ⟨o,e',hc⟩ ?_)
 rw [if_pos (by decide)]
 refine wpAny_bind (zpj (A:=A.in1.in1) e' hc hda hdi hh fun h1 tk1 kp1=>?_)
 rw [if_pos (by rfl)]
 refine wpAny_bind (wpAny_rule ?_)
 refine wpAny_bind (wpAny_pyIter_list (items:=its) ⟨o,kp1 _ _ e',hc,n,hda⟩ ?_)
 refine wpAny_pure ⟨plainId_quiet z6r _,?_⟩
 have kp0:Keep s.heap (h1.push { cls:=.type "list_iterator",data:=.fields #[.ref l,.int 0 0] }):=fun b ob q=>Heap.get?_push_of_some _ (kp1 _ _ (Heap.get?_push_of_some _ q))
 have hlt1:s.heap.objs.size<h1.objs.size:=Heap.lt_size (kp1 _ _ hn)
 show codeAny _ _ (.builtin "dict.update.loop" ⟨[.ref s.heap.objs.size,.ref h1.objs.size,rawInt ((0:Nat):Int),.none],[]⟩) _ _
 refine zpk (A:=A.in1) (h₀:=s.heap) (l:=l) (items:=its) (Heap.get?_none_of_le (Nat.le_refl _)) (Heap.get?_none_of_le (Nat.le_of_lt hlt1)) (Nat.ne_of_lt hlt1) ⟨o,e,hc,n,hda⟩ hh (by show A.units+1+16<cLine;lia) rest 0 [] _ kp0 ⟨_,Heap.get?_push_size _ rfl,rfl,rfl⟩ ?_ (by simpa using hr) hf (by simpa using hz) fun h' tk dd kp'=>?_
 . exact ⟨_,#[],0,Heap.get?_push_of_some _ (kp1 _ _ hn),⟨rfl,rfl,rfl⟩,rfl,rfl,fun x hx=>by simp at hx,List.nodup_nil⟩
 . exact ⟨rfl,k h' tk dd kp'⟩
end
theorem zi5:∀(rest:List (Addr×NK×Addr×Value)) (acc:List (NK×Addr×Value)),(acc.map (·.1)++rest.map (·.2.1)).Nodup->rest.foldl (fun a r=>storedH a r.2.1 r.2.2.1 r.2.2.2) acc=acc++rest.map (·.2)
 | [],acc,_=>by simp
 | r::rest,acc,h=>by
  have hn:r.2.1∉acc.map (·.1):=fun hm=>by
   rw [List.nodup_append] at h
   exact h.2.2 _ hm _ (by simp) rfl
  have e:storedH acc r.2.1 r.2.2.1 r.2.2.2=acc++[(r.2.1,r.2.2.1,r.2.2.2)]:=by
   refine storedH_new ?_ _ _
   cases ha:atKey acc r.2.1 with
   | none=>rfl
   | some p=>
    have:=zpd acc r.2.1
    rw [show ((acc.find? fun x=>decide (x.1=r.2.1)).map (·.2)).isSome=(atKey acc r.2.1).isSome from rfl,ha] at this
    exact absurd (of_decide_eq_true this.symm) hn
  rw [List.foldl_cons,e,zi5 rest _ (by simpa using h)]
  simp
theorem zvg:∀(rest:List (Addr×NK×Addr×Value)),z3 (rest.map fun r=>(r.2.1,r.2.2.1)) (rest.map (·.2.2.2))=rest.map (·.2)
 | []=>rfl
 | r::rest=>by
  have ih:=zvg rest
  simp only [z3,List.map_cons,List.zip_cons_cons] at ih ⊢
  rw [ih]
def DoR (H:Hp) (rest:List (Addr×NK×Addr×V)):Prop:=∀r∈rest,H r.1=some (.tup [.ref r.2.2.1,r.2.2.2])/\NKr H r.2.1 (.ref r.2.2.1)/\r.2.1.dep<=8
section
variable {X:Cx} {pins:List (Addr×Obj)} {U:St} {H:Hp} {s:Shared}
theorem zi6 (I:Inv X pins U H s):∀(rest:List (Addr×NK×Addr×V)),DoR H rest->∃rest':List (Addr×NK×Addr×Value),rest'.map (fun r=>(r.1,r.2.1,r.2.2.1))=rest.map (fun r=>(r.1,r.2.1,r.2.2.1))/\Vals (rest.map (·.2.2.2)) (rest'.map (·.2.2.2))/\∀r∈rest',s.heap.IsTuple r.1 #[.ref r.2.2.1,r.2.2.2]/\NKv s.heap r.2.1 (.ref r.2.2.1)/\r.2.1.dep<=8
 | [],_=>⟨[],rfl,.nil,fun r hr=>by simp at hr⟩
 | r::rest,h=>by
  obtain ⟨rs,e1,e2,e3⟩:=zi6 I rest fun q hq=>h q (by simp [hq])
  obtain ⟨h1,h2,h3⟩:=h r (by simp)
  obtain ⟨its,r1,t1,_⟩:=I.tuple (.of h1)
  cases r1 with
  | cons a1 a2=>
   cases a2 with
   | cons b1 b2=>
    cases b2
    cases a1
    rename_i u
    refine ⟨(r.1,r.2.1,r.2.2.1,u)::rs,by simp [e1],?_,fun q hq=>?_⟩
    . simp only [List.map_cons];exact .cons b1 e2
    . rcases List.mem_cons.mp hq with rfl | hq
      . exact ⟨t1,zjq I h2 rfl,h3⟩
      . exact e3 q hq
end
def zmj:List V->Hp->VK->Prop:=fun xs H Q=>∃(l:Addr) (rest:List (Addr×NK×Addr×V)),xs=[V.ref l]/\H l=some (.lst (rest.map fun r=>V.ref r.1))/\DoR H rest/\(rest.map (·.2.1)).Nodup/\rest.length<=sizeLine /\
 ∀p ob,H p=none->(p==sysModules)=false->Q (.ref p) (upd H p (.ext (dnP p (rest.map fun r=>(r.2.1,r.2.2.1)) (rest.map (·.2.2.2)) ob)))
theorem zpm {X:Cx} (hc:X.calm=true) (hu:X.A.units+64<cLine):CallR X (.type "dict") zmj:=by
 intro pins s U H xs us Q I r h
 obtain ⟨l,rest,rfl,hl,hr,hn,hz,q⟩:=h
 obtain ⟨u,rfl,ru⟩:=z4o r
 cases ru
 obtain ⟨its,v1,pl,_⟩:=I.list (.of hl)
 obtain ⟨rs,e1,e2,e3⟩:=zi6 I rest hr
 have m1:rs.map (·.1)=rest.map (·.1):=by
  have:=congrArg (List.map fun z:Addr×NK×Addr=>z.1) e1
  simpa [List.map_map,Function.comp_def] using this
 have m2:rs.map (·.2.1)=rest.map (·.2.1):=by
  have:=congrArg (List.map fun z:Addr×NK×Addr=>z.2.1) e1
  simpa [List.map_map,Function.comp_def] using this
 have m3:rs.map (fun r=>(r.2.1,r.2.2.1))=rest.map (fun r=>(r.2.1,r.2.2.1)):=by
  have:=congrArg (List.map fun z:Addr×NK×Addr=>z.2) e1
  simpa [List.map_map,Function.comp_def] using this
 have hlen:rs.length=rest.length:=by have:=congrArg List.length m1;simpa using this
 have hits:its=rs.map fun r=>Value.ref r.1:=by
  have key:∀(ts:List Addr) (us:List Value),Vals (ts.map V.ref) us->us=ts.map Value.ref:=by
   intro ts
   induction ts with
   | nil=>intro us h;cases h;rfl
   | cons t ts ih=>intro us h;cases h with | cons a b=>cases a;rw [ih _ b];rfl
  have:=key (rest.map (·.1)) its (by rw [List.map_map];exact v1)
  rw [this,<-m1,List.map_map];rfl
 refine zpl pl (I.ok.hd hc) (by lia) rs (by simpa using hits) e3 (by lia) fun h' tk dd kp=>?_
 rw [zi5 rs [] (by simpa [m2] using hn),List.nil_append,<-zvg,m3] at dd
 obtain ⟨o',es,ep,d1,d2,d3,d4,_⟩:=dd
 have pp:dnP s.heap.objs.size (rest.map fun r=>(r.2.1,r.2.2.1)) (rest.map (·.2.2.2)) o' h':=⟨d1,(rs.map fun r:Addr×NK×Addr×Value=>r.2.2.2),es,ep,e2,by simp [hlen],d2,d3,d4⟩
 exact ⟨.ref s.heap.objs.size,_,I.laid (t':=tk) (o:=.ext (dnP s.heap.objs.size (rest.map fun r=>(r.2.1,r.2.2.1)) (rest.map (·.2.2.2)) o')) kp (Nat.le_refl _)
  ⟨pp,⟨o',d1⟩,dnP.stay⟩,rfl,q _ _ (I.hok.fresh (Nat.le_refl _)) (beq_eq_false_iff_ne.mpr (Ne.symm (Nat.ne_of_lt I.big)))⟩
noncomputable def pairsD:List D->Option (List NK×List D)
 | []=>some ([],[])
 | .tup [.tup es,v]::ds=>match nkD (.tup es),pairsD ds with
  | some k,some (ks,vs)=>some (k::ks,v::vs)
  | _,_=>none
 | _=>none
open Classical in
noncomputable def dDictL:List D->Option D
 | [.lst ds]=>match pairsD ds with
  | some (ks,vs)=>if ks.Nodup/\ds.length<=100000/\∀k∈ks,k.dep<=8 then some (.dn ks vs) else none
  | none=>none
 | _=>none
theorem zec {K:Frag} {H:Hp}:∀{ds:List D} {xs:List V} {ks:List NK} {vs:List D},pairsD ds=some (ks,vs)->RDs K H ds xs->(∀k∈ks,k.dep<=8)->∃rest:List (Addr×NK×Addr×V),xs=rest.map (fun r=>V.ref r.1)/\DoR H rest/\rest.map (·.2.1)=ks/\RDs K H vs (rest.map (·.2.2.2))/\rest.length=ds.length
 | [],xs,ks,vs,e,r,hd=>by
  simp only [pairsD,Option.some.injEq,Prod.mk.injEq] at e
  obtain ⟨rfl,rfl⟩:=e
  simp only [RDs] at r;subst r
  exact ⟨[],rfl,fun r hr=>by simp at hr,rfl,by simp only [List.map_nil,RDs],rfl⟩
 | d::ds,xs,ks,vs,e,r,hd=>by
  unfold pairsD at e
  split at e<;>first | (cases e;done) | skip
  . rename_i hcons;cases hcons
  . rename_i es v ds' hcons
    cases hcons
    split at e<;>first | (cases e;done) | skip
    rename_i k ks' vs' hk hp
    cases e
    simp only [RDs] at r
    obtain ⟨x,r',rfl,r1,r2⟩:=r
    obtain ⟨rest,e1,e2,e3,e4,e5⟩:=zec hp r2 fun q hq=>hd q (by simp [hq])
    obtain ⟨a,ys,rfl,ha,ra⟩:=r1.tup
    simp only [RDs] at ra
    obtain ⟨y1,r3,rfl,q1,y2,r4,rfl,q2,rfl⟩:=ra
    have nk:=zhw hk q1
    obtain ⟨b,zs,rfl,hb,rb⟩:=q1.tup
    refine ⟨(a,k,b,y2)::rest,by simp [e1],fun q hq=>?_,by simp [e3],?_,by simp [e5]⟩
    . rcases List.mem_cons.mp hq with rfl | hq
      . exact ⟨ha,nk,hd _ (by simp)⟩
      . exact e2 q hq
    . simp only [List.map_cons,RDs]
      exact ⟨_,_,rfl,q2,e4⟩
theorem DoR.mono {H H':Hp} {rest:List (Addr×NK×Addr×V)} (st:∀a ys,H a=some (.tup ys)->H' a=some (.tup ys)) (h:DoR H rest):DoR H' rest:=fun r hr=>⟨st _ _ (h r hr).1,NKr.mono st (h r hr).2.1,(h r hr).2.2⟩
theorem zks {K:Frag}:z55 K true dDictL zmj:=by
 intro H0 H xs ds z Q s r ho k
 unfold dDictL at ho
 split at ho<;>first | (cases ho;done) | skip
 rename_i ds
 split at ho<;>first | (cases ho;done) | skip
 rename_i ks vs hp
 split at ho<;>first | (cases ho;done) | skip
 rename_i hc
 cases ho
 obtain ⟨x,rfl,q1⟩:=r.uno
 simp only [RD] at q1
 obtain ⟨a,ys,rfl,h1,ra⟩:=q1
 obtain ⟨rest,rfl,e2,e3,e4,e5⟩:=zec hp ra hc.2.2
 have hz:rest.length<=sizeLine:=by rw [e5];exact Nat.le_trans hc.2.1 (by rw [sizeLine_eq];decide)
 refine ⟨a,rest,rfl,s _ _ h1,e2.mono fun b ys q=>s _ _ q,by rw [e3];exact hc.1,hz,fun p ob hp hq=>k _ _ (.new s hp fun H' hH=>?_)⟩
 simp only [OB]
 refine ⟨_,_,ob,hH,by rw [List.map_map];exact e3,⟨by rw [List.map_map];exact e3 ▸ hc.1,fun q hq'=>?_,hq,by rw [List.length_map];exact hz⟩,e4⟩
 obtain ⟨r',hr',rfl⟩:=List.mem_map.mp hq'
 exact (e2 r' hr').2
theorem RE.agree {K:Frag} {H:Hp} {e:DE} {U σ':St} (h:RE K H e U) (hl:σ'.length=U.length) (hs:∀(i:Nat) d,e[i]?=some (some d)->σ'[i]?=U[i]?):RE K H e σ':=⟨by rw [hl];exact h.1,fun i d q=>by
 rw [hs i d q];exact h.2 i d q⟩
theorem RE.put {K:Frag} {H:Hp} {e:DE} {U:St} {i:Nat} {d:D} {v:V} (h:RE K H e U) (hv:U[i]?=some (some v)) (r:RD K H d v):RE K H (e.set i (some d)) U:=⟨by rw [List.length_set];exact h.1,fun j d' q=>by
 by_cases hj:i=j
 . subst hj
   have hi:i<e.length:=by rw [h.1];exact (List.getElem?_eq_some_iff.mp hv).1
   rw [List.getElem?_set_self hi] at q
   cases q
   exact ⟨v,hv,r⟩
 . rw [List.getElem?_set_ne hj] at q
   exact h.2 j d' q⟩
noncomputable def z5o:List Int->List Int->Bool
 | [],[]=>true
 | [],_::_=>false
 | _::_,[]=>true
 | x::xs,y::ys=>if x=y then z5o xs ys else decide (y<=x)
theorem z8u (x y:Int) (xs ys:List Int):z5o (x::xs) (y::ys)=if x=y then z5o xs ys else decide (y<=x):=rfl
def zqp (m r:Bool):List (Value×Value)->Prop
 | []=>r=m
 | p::ps=>∃a t c u,p=(.int a t,.int c u)/\if a=c then zqp m r ps else r=decide (c<=a)
theorem zkt {vs:List Value} {ns:List Int} (h:IntsAre vs ns):∀{ws:List Value} {ms:List Int},IntsAre ws ms->∀m,m=decide (ws.length<=vs.length)->zqp m (z5o ns ms) (vs.zip ws):=by
 induction h with
 | nil=>intro ws ms g m hm;cases g<;>simp [zqp,z5o,hm]
 | cons a t _ ih=>
  intro ws ms g m hm
  cases g with
  | nil=>simp [zqp,z5o,hm]
  | cons c u g'=>
   refine ⟨a,t,c,u,rfl,?_⟩
   have:=ih g' m (by rw [hm];simp)
   by_cases e:a=c
   . rw [if_pos e,show z5o (a::_) (c::_)=_ from if_pos e];exact this
   . rw [if_neg e];simp [z5o,e]
theorem zku (A:Around) (s:Shared) (a:Int) (t:Tok) (c:Int) (u:Tok) (prog:Program) (w:World) (E:Value->Shared->Prop) (Q:Value->Shared->Prop) (h:Q (.bool (decide (c<=a))) s) :
  wpAny (model prog w) A (richCompare .GtE (.int a t) (.int c u)) Q E s:=
 (PyProof.Rows.ge_int h:wpAny (model prog w) A (compareOp .GtE (.int a t) (.int c u)) Q E s)
section
open HT
open PySem.SeqAt
open PySem.AutoSeq1 (wpAny_loadPart')
open PySem.MeetsSeq PySem.MeetsSeq2 PySem.MeetsSeq3
theorem za5 (l b:Addr) (o o2:Obj) (items items2:Array Value) (n n2:Nat) (r:Bool) (h1:o.cls=.type "tuple") (h2:o2.cls=.type "tuple") (e1:o.data=.seq items n) (e2:o2.data=.seq items2 n2)
  (hr:zqp (decide (items2.size<=items.size)) r (items.toList.zip items2.toList)) :
  Meets (Builtin.«tuple.__ge__» ⟨[.ref l,.ref b],[]⟩) (fun _ R s=>(s.heap.get? l=some o/\s.heap.get? b=some o2)/\R (.ok (.ret (.bool r))) s):=
 .of_wp fun prog w A R s ⟨⟨q1,q2⟩,k⟩=>by
  cases o;cases o2;cases h1;cases h2;cases e1;cases e2
  have tt:=AutoSeq1.sub_tuple_tuple
  wp_walk using wpAny_loadPart' q1,wpAny_loadPart' q2,wpAny_forIn_list _ (fun rest b s'=>(b.1=none/\s'=s)/\zqp (decide (items2.size<=items.size)) r rest) _
  case turn=>
   rintro p rest b s' ⟨⟨hb,rfl⟩,a,t,c,u,rfl,hp⟩
   obtain ⟨e,he,hiff⟩:=zj8 A.in1 s' a t c u
   refine wpAny_bind (he prog w _ _ ?_)
   by_cases q:a=c
   . cases hiff.mpr q
     rw [if_pos q] at hp
     wp_walk
     exact ⟨⟨rfl,rfl⟩,hp⟩
   . have:e=false:=by cases e with | false=>rfl | true=>exact absurd (hiff.mp rfl) q
     cases this
     rw [if_neg q] at hp
     have lt:=zku A.in1 s' a t c u prog w
     wp_walk using lt
     exact ⟨_,rfl,by subst hp;simpa using k⟩
  case fin=>
   rintro ⟨x,y⟩ s' ⟨⟨hx,rfl⟩,hp⟩
   cases hx
   cases hp
   wp_walk
   refine ⟨_,rfl,?_⟩
   simpa [Builtin.Tuple.tupleCompareSizes] using k
  case h=>exact ⟨⟨rfl,rfl⟩,hr⟩
end
theorem zf6 {prog:Program} {w:World} {A:Around} {s:Shared} {E Q:Value->Shared->Prop} {l b:Addr} {vs ws:Array Value} {ns ms:List Int} (hl:IsTup s.heap l vs) (hb:IsTup s.heap b ws)
  (hi:IntsAre vs.toList ns) (hj:IntsAre ws.toList ms) (hu:A.units<cLine) (h:Q (.bool (z5o ns ms)) s):wpAny (model prog w) A (compareOp .GtE (.ref l) (.ref b)) Q E s:=by
 obtain ⟨o,ho,c1,_,d1⟩:=hl
 obtain ⟨o2,ho2,c2,_,d2⟩:=hb
 have t:=za5 l b o o2 vs ws _ _ _ c1 c2 d1 d2 (zkt hi hj _ (by simp))
 exact richCompare_meets_room (op:=.GtE) ⟨o,ho,c1⟩ ⟨o2,ho2,c2⟩ PySem.F.slot_tuple_ge PySem.F.entry_tuple_ge (PySem.F.args_tuple_ge_2 _ _) t ⟨⟨ho,ho2⟩,⟨(fun x=>nomatch x),h⟩⟩ hu
noncomputable def y0q (K:Frag):R2:=fun x y H Q=>∃a b ns ms,x=.ref a/\y=.ref b/\SqT K H a (ns.map V.int)/\SqT K H b (ms.map V.int)/\Q (.bl (z5o ns ms)) H
theorem zzi {X:Cx} (hu:X.A.units+64<cLine):OpR X (compareOp .GtE) (y0q X.K):=by
 intro pins s U H x y v u Q I rx ry h
 obtain ⟨a,b,ns,ms,rfl,rfl,ha,hb,q⟩:=h
 cases rx
 cases ry
 obtain ⟨its,r1,p1,_⟩:=I.tuple ha
 obtain ⟨its2,r2,p2,_⟩:=I.tuple hb
 have i1:IntsAre its.toArray.toList ns:=z2f r1
 have i2:IntsAre its2.toArray.toList ms:=z2f r2
 exact zf6 p1 p2 i1 i2 (by lia) ⟨.bl (z5o ns ms),H,I,rfl,q⟩
noncomputable def zpn:D->D->Option D
 | .tup ds,.tup es=>match z11 ds,z11 es with
  | some ns,some ms=>some (.bl (z5o ns ms))
  | _,_=>none
 | _,_=>none
theorem zvh {K:Frag}:OpD K false zpn (y0q K):=by
 intro H0 H x y d e z Q s rx ry ho k
 unfold zpn at ho
 split at ho<;>first | (cases ho;done) | skip
 split at ho<;>first | (cases ho;done) | skip
 rename_i ns ms h1 h2
 cases ho
 obtain ⟨a,xs,rfl,ha,ra⟩:=rx.tup
 obtain ⟨b,ys,rfl,hb,rb⟩:=ry.tup
 have e1:=z1t h1 ra
 have e2:=z1t h2 rb
 subst e1 e2
 exact ⟨a,b,ns,ms,rfl,rfl,.of (s _ _ ha),.of (s _ _ hb),k _ H (.pure s (.mkBl _))⟩
end L2
namespace L2
open PySem PySem.Spec PyProof.Rows
structure FnAt (K:Frag) (x:Str) (st:Stmt) (f:Addr):Prop where
 ns:nsIn K mainGlobals x=some (some (.ref f))
 fn:∃fd,Fun K x x st f fd
section
variable {P:Program} {w:World} {K:Frag} {mg:Str->Option Value} {base h:Heap} {x:Str} {st:Stmt} {f:Addr} {ps:List Str} {k:Nat} {sp:Sp}
theorem fat {oc:Value} {od an:Option Addr} {osl:Array (Option Value)} {kV doc pm cdv ct:Value} (a:nsIn K mainGlobals x=some (some (.ref f))) (l:K.lookup f=some ⟨oc,od,.func (PySem.W.fnOf x x (z3a st) (z24 st) (z03 st) .none kV doc pm an cdv ct),osl⟩)
 (c:codeIn K cdv x=true) (k:keepIn K (.ref f)=true):FnAt K x st f:=⟨a,_,zrl l c k⟩
def BP:List Str->(List Value->Prop)->Prop
 | [],P=>P []
 | _::r,P=>∀u,BP r fun us=>P (u::us)
theorem BP.all {Q:List Value->Prop} (h:BP ps Q) (us:List Value) (hl:us.length=ps.length):Q us:=by
 induction ps generalizing Q us with
 | nil=>rw [List.eq_nil_of_length_eq_zero hl];exact h
 | cons p r ih=>
  cases us with
  | nil=>cases hl
  | cons u us=>exact ih (h u) us (Nat.succ.inj hl)
theorem got (X:K.In h) (G:h.Ns mainGlobals mg) (A:FnAt K x st f) (ok:∀{fd},Fun K x x st f fd->FnOk P w K mg base (CX1 P w) k f fd ps sp)
  (hb:∀(kV doc pm:Value) (an:Option Addr) (cdv ct:Value),BP ps fun us=>bindArgs (PySem.W.fnOf x x (z3a st) (z24 st) (z03 st) .none kV doc pm an cdv ct) ⟨us,[]⟩=pure (ps.zip us):=by (repeat intro _);exact rfl):z4f P w K mg base x ps k sp:=by
 obtain ⟨fd,F⟩:=A.fn
 exact ⟨f,fd,ok F,F.binds fun kV doc pm an cdv ct=>(hb kV doc pm an cdv ct).all,PySem.W.mg_of X G A.ns,F.kp⟩
theorem zvi {fa:Addr} {z:Str} (X:K.In h) (G:h.Ns mainGlobals mg) (hfa:mg x=some (.ref fa)) (A:FnAt K x st f) (hb:∀(s:Shared) (v kV doc pm:Value) (an:Option Addr) (cdv ct:Value),BindsTo s (PySem.W.fnOf x x (z3a st) (z24 st) (z03 st) .none kV doc pm an cdv ct) ⟨[v],[]⟩ [(z,v)])
  (ok:∀base:Heap,K.In base->base.Ns mainGlobals mg->∀{fd},Fun K x x st f fd->FnOk P w K mg base (CX1 P w) k f fd ps sp) :
  ∃fd:FuncData,(∀(s:Shared) (v:Value),BindsTo s fd ⟨[v],[]⟩ [(z,v)])/\∀base:Heap,K.In base->base.Ns mainGlobals mg->FnOk P w K mg base (CX1 P w) k fa fd ps sp:=by
 have e:=hfa.symm.trans (PySem.W.mg_of X G A.ns)
 cases e
 obtain ⟨fd,F⟩:=A.fn
 have F':=F
 obtain ⟨oc,od,kV,doc,pm,an,cdv,ct,osl,rfl,lk,hcd⟩:=F'.ex
 exact ⟨_,fun s v=>hb s v _ _ _ _ _ _,fun base kb nb=>ok base kb nb F⟩
theorem fsc {N ps:List Str} {sc:Scope} (a:sc.kind=.function:=by rfl) (b:sc.isCoroutine=false:=by rfl) (c:sc.isGenerator=false:=by rfl) (d:N.Nodup:=by decide +kernel) (e:N.take ps.length=ps:=by rfl)
 (f:∀x∈ps,sc.names.lookup x=some .local\/sc.names.lookup x=some .cell:=by decide +kernel) (g:∀y∈sc.names,y.2≠.free:=by decide +kernel):FnScope N ps sc:=⟨a,b,c,d,e,f,g⟩
end
section
variable {X:Cx} {EX:XW} {fr fr':Bool} {a b e:Expr} {f g:DE->R D} {pos p:Pos} {m:List Bool} {j:Nat}
theorem qI (hr:Room j X.A) (ha:QE X EX false a f) (hb:QE X EX false b g) (hs:zc0 b:=by exact fun _ _=>rfl):QE X EX false (.Subscript a b pos) (eOp dIx f g):=y0n (y1f hr.units) zyc ha hb hs
theorem qL (hm:X.mg "len"=none) (ha:QE X EX false e f) (hg:Gl X "len":=by rfl) (he:starEach [e] X.env=(false,eval e X.env)::starEach [] X.env:=by rfl) (hpl:(backTo pos (starEach [] X.env)).any (·.1)=false:=by rfl) :
 QE X EX false (.Call (.Name "len" p) [e] [] pos) (eCB zbt (z01 f z0h)):=zk0 zt0 zt1 hg hm PySem.boot_len (z00 ha z04 he) (he:=he) (hpl:=hpl)
theorem sA (i:Nat) {x:Str} {pos':Pos} (hN:X.N.Nodup) (he:QE X EX fr' e f) (hi:X.N[i]?=some x:=by rfl) (hx:Loc X.env.scope x:=by first | exact .inl rfl | exact .inr rfl) (hs:swapsWith e (some (.Name x pos')) pos.line X.env=pure false:=by rfl) (hf:X.fn x=true\/X.env.scope.names.lookup x=some .local:=by exact .inl rfl) :
 QS X EX fr (.Assign [.Name x pos'] e pos) (z2i fr' i m f):=zyi hN hi hx he hs hf
theorem tE (hr:Room j X.A) (ha:QE X EX false a f) (hb:QE X EX false b g) (hm:behindInMarks .Eq b=false):QT X EX (.Compare a [.Eq] [b] pos) (z2r asB (eOp dEq f g)):=z6g (z9i hr.units) z9j ha hb hm
theorem tN (hr:Room j X.A) (ha:QE X EX false a f) (hb:QE X EX false b g) (hm:behindInMarks .NotEq b=false):QT X EX (.Compare a [.NotEq] [b] pos) (z2r asB (eOp dNe f g)):=z6g (zsp hr.units) zsq ha hb hm
end
noncomputable def z89 (fr:Bool) (n k:Nat) (g:(List D->R D)->DS->SR):Nat->List D->R D
 | 0=>fun _=>.st
 | d+1=>mOf fr n k (g (z89 fr n k g d))
theorem z6s {fr:Bool} {n k:Nat} {g:(List D->R D)->DS->SR}:∀(d:Nat) (ds:List D),ds.length≠n->z89 fr n k g d ds=.st
 | 0,_,_=>rfl
 | _+1,ds,h=>zca ds h
section
variable {X:Cx} {EX:XW} {x:Str} {e:Expr} {es:List Expr} {fs:DE->R (List D)} {p pos:Pos} {fr:Bool}
theorem zkv {ps:List Str} {k j n:Nat} {M:List D->R D} (hl:∀ds,ds.length≠n->M ds=.st) (L:Lnd X EX) (G:z4f X.prog X.w X.K X.mg X.base x ps k (spD X.K X.mg fr M n)) (hr:Room j X.A) (hg:Gl X x) (ha:QA X EX (e::es) fs) (hkj:k<=j:=by omega) (hdb:(x==("__debug__":Str))=false:=by decide)
  (he:starEach (e::es) X.env=(false,eval e X.env)::starEach es X.env:=by rfl) (hpl:(backTo pos (starEach es X.env)).any (·.1)=false:=by rfl):QE X EX fr (.Call (.Name x p) (e::es) [] pos) (z0v M fs):=
 ⟨(zgv G L.on hr hg ha.h hkj hdb he hpl).imp fun _ _ _ q=>zlk hl (fun x H z=>by obtain ⟨C,hC⟩:=L.nm x H z;exact ⟨C,hC,fun od xf=>⟨x,z,hC,xf⟩⟩) q⟩
end
theorem zi7 {P:Program} {w:World} {K:Frag} {mg:Str->Option Value} {base h:Heap} {x:Str} {st:Stmt} {f:Addr} {ps:List Str} {b n k:Nat} {fr:Bool} {g:(List D->R D)->DS->SR} (X:K.In h) (G:h.Ns mainGlobals mg) (A:FnAt K x st f)
  (ok:∀{d:Nat},z4f P w K mg base x ps (b+d) (spD K mg fr (z89 fr n k g d) n)->∀fd,Fun K x x st f fd->FnOk P w K mg base (CX1 P w) (b+d+1) f fd ps (spD K mg fr (z89 fr n k g (d+1)) n)) (d:Nat)
  (hb:∀(kV doc pm:Value) (an:Option Addr) (cdv ct:Value),BP ps fun us=>bindArgs (PySem.W.fnOf x x (z3a st) (z24 st) (z03 st) .none kV doc pm an cdv ct) ⟨us,[]⟩=pure (ps.zip us):=by (repeat intro _);exact rfl):z4f P w K mg base x ps (b+d) (spD K mg fr (z89 fr n k g d) n):=by
 induction d with
 | zero=>exact got X G A (fun {fd} _=>⟨fun vs H Q E ⟨_,_,_,_,_,z⟩=>z.elim,fun _ _ _ _ _ _ _ _ _ _ _ _ _ ⟨_,_,_,_,_,z⟩=>z.elim⟩) hb
 | succ d ih=>exact got X G A (fun {fd} F=>ok ih fd F) hb
noncomputable def zf7 (i:Nat) (tg:Tg):DS->SR:=fun ρ=>match ρ[i]? with
 | some (.ow (.lst ds))=>(match ds.getLast? with
  | some d=>(match zjs tg d (ρ.set i (.ow (.lst ds.dropLast))) with
   | some ρ'=>.nx ρ'
   | none=>.st)
  | none=>.st)
 | _=>.st
theorem RDs.last {K:Frag} {H:Hp}:∀{ds:List D} {xs:List V},RDs K H ds xs->∀d,ds.getLast?=some d->∃y,xs[xs.length - 1]?=some y/\RD K H d y/\RDs K H ds.dropLast xs.dropLast:=fun {ds xs} r d e=>by
 rw [List.getLast?_eq_getElem?] at e
 have hl:=r.length
 obtain ⟨y,h1,h2⟩:=r.get' e
 refine ⟨y,by rw [<-hl];exact h1,h2,?_⟩
 rw [List.dropLast_eq_take,List.dropLast_eq_take,<-hl]
 exact r.take _
section
variable {K:Frag} {EX:XW} {fr:Bool} {De:Ends} {U:St} {H:Hp}
theorem zvj {i:Nat} {tg:Tg} (h:TSd K EX fr (zf7 i tg) De U H):zft (zxa K "list" y08 (z6l i)) (TGd K tg) De U H:=by
 obtain ⟨Hc,Hb,H0,ρ,sb,R,h⟩:=h
 unfold zf7 at h
 split at h
 . rename_i ds qi
   split at h
   . rename_i d hd
     split at h
     . rename_i ρ' q
       obtain ⟨a,i1,i2,i3,i4⟩:=R.ow i _ qi
       unfold zft zxa z6l
       rw [i1]
       have o:=i4
       simp only [OB] at o
       obtain ⟨us,hu,ru⟩:=o
       obtain ⟨y,y1,y2,y3⟩:=ru.last d hd
       refine ⟨z3d H0 H a _ i4 rfl,a,us,y,rfl,rfl,hu,y1,?_⟩
       have R1:=R.mutate (d':=.lst ds.dropLast) (o:=.lst us.dropLast) qi i1 (by simp only [OB];exact ⟨_,z0d,y3⟩)
       exact ⟨Hc,Hb,H0,_,d,ρ',R1,y2,q,fun σ' I2=>h σ' _ H0 I2⟩
     . exact h.elim
   . exact h.elim
 . exact h.elim
end
section
variable {X:Cx} {EX:XW} {fr:Bool}
theorem zvk {i:Nat} {x:Str} {xp apos cpos pos:Pos} {tg:Expr} {tt:Tg} (hx:PE X (.Name x xp) (z6l i)) (hg:QG X tg tt)
  (hbase:attributeBase (.Name x xp) "pop" X.env (eval (.Name x xp) X.env)=eval (.Name x xp) X.env:=by rfl) (hline:(apos.endLine==cpos.line)=true:=by rfl)
  (hs:swapsWithSole [tg] (.Call (.Attribute (.Name x xp) "pop" apos) [] [] cpos) pos.line X.env=pure false:=by rfl) (hw:swappedStores [tg] (.Call (.Attribute (.Name x xp) "pop" apos) [] [] cpos) X.env=pure none:=by rfl)
  (h1:(assignEach [tg] X.env).map (·.2)=[assign tg X.env]:=by rfl):QS X EX fr (.Assign [tg] (.Call (.Attribute (.Name x xp) "pop" apos) [] [] cpos) pos) (zf7 i tt):=
 ⟨(zr2 (zrg PySem.F.plainAttrs_list PySem.F.slot_list_pop PySem.F.type_list_pop zri hx hbase hline) hg.h hs hw h1).imp fun _ _ _ q=>zvj q⟩
end
abbrev Kp (is:List Nat) (U σ':St):Prop:=∀i∈is,σ'[i]?=U[i]?
theorem Kp.trans {is:List Nat} {a b c:St} (h:Kp is a b) (k:Kp is b c):Kp is a c:=fun i hi=>(k i hi).trans (h i hi)
theorem Kp.set {is:List Nat} {U:St} {i:Nat} {v:Option V} (h:i∉is):Kp is U (U.set i v):=fun j hj=>List.getElem?_set_ne (fun e:i=j=>h (by rw [e];exact hj))
noncomputable def zpo (e:DE):DS:=e.map fun o=>match o with | some d=>.im d | none=>.em
theorem zed {e:DE} {i:Nat}:(zpo e)[i]?=(e[i]?).map fun o=>match o with | some d=>Sl.im d | none=>.em:=by unfold zpo;rw [List.getElem?_map]
theorem RE.rs {K:Frag} {Hc Hb B H:Hp} {e:DE} {U:St} (r:RE K B e U) (sb:Same Hb H) (x:Ext Hc Hb B H):RS K Hc Hb B (zpo e) U H:=by
 have no:∀(i:Nat) d,(zpo e)[i]?≠some (.ow d):=fun i d q=>by
  rw [zed] at q
  cases h:e[i]? with
  | none=>rw [h] at q;cases q
  | some o=>rw [h] at q;cases o<;>cases q
 refine ⟨sb,x,by unfold zpo;rw [List.length_map];exact r.1,fun i d q=>?_,fun i d q=>absurd q (no i d),fun i j d d' a q=>absurd q (no i d)⟩
 rw [zed] at q
 cases h:e[i]? with
 | none=>rw [h] at q;cases q
 | some o=>
  rw [h] at q
  cases o with
  | none=>cases q
  | some d'=>cases q;exact r.2 i d h
noncomputable def z2z (nss:List (List Int)) (prs:List (Int×Int)):List (List Int):=prs.foldl (fun s q=>s.modify q.1.toNat (·++[q.2])) nss
theorem z5a (prs:List (Int×Int)):∀nss,(z2z nss prs).length=nss.length:=by
 induction prs with
 | nil=>exact fun _=>rfl
 | cons q r ih=>exact fun nss=>(ih _).trans (List.length_modify _ _ _)
theorem zf8 (nss:List (List Int)) (prs:List (Int×Int)) (q:Int×Int):z2z nss (prs++[q])=(z2z nss prs).modify q.1.toNat (·++[q.2]):=by unfold z2z;rw [List.foldl_append];rfl
noncomputable def P2D (q:Int×Int):D:=.tup [.int q.1,.int q.2]
noncomputable def zqq:List D->Option (List Int)
 | []=>some []
 | .int i::r=>(zqq r).map (i::·)
 | _=>none
noncomputable def zpp:List D->Option (List (List Int))
 | []=>some []
 | .lst ds::r=>(zqq ds).bind fun ns=>(zpp r).map (ns::·)
 | _=>none
noncomputable def zpq:List D->Option (List (Int×Int))
 | []=>some []
 | .tup [.int a,.int b]::r=>(zpq r).map ((a,b)::·)
 | _=>none
theorem zmk:∀{ds:List D} {ns:List Int},zqq ds=some ns->ds=ns.map D.int
 | [],ns,h=>by cases h;rfl
 | d::r,ns,h=>by
  cases d<;>simp only [zqq] at h<;>first | (cases h;done) | skip
  obtain ⟨m,e,rfl⟩:=Option.map_eq_some_iff.mp h
  rw [zmk e];rfl
theorem zml:∀{ds:List D} {nss:List (List Int)},zpp ds=some nss->ds=nss.map L
 | [],ns,h=>by cases h;rfl
 | d::r,ns,h=>by
  cases d<;>simp only [zpp] at h<;>first | (cases h;done) | skip
  obtain ⟨m,e,h⟩:=Option.bind_eq_some_iff.mp h
  obtain ⟨mm,e2,rfl⟩:=Option.map_eq_some_iff.mp h
  rw [zml e2,zmk e];rfl
theorem zmm:∀{ds:List D} {prs:List (Int×Int)},zpq ds=some prs->ds=prs.map P2D
 | [],ns,h=>by cases h;rfl
 | d::r,ns,h=>by
  unfold zpq at h
  split at h
  . rename_i q;cases q
  . rename_i q
    cases q
    obtain ⟨m,e,rfl⟩:=Option.map_eq_some_iff.mp h
    rw [zmm e];rfl
  . cases h
theorem zvl (ns:List Int):zqq (ns.map D.int)=some ns:=by
 induction ns with
 | nil=>rfl
 | cons n r ih=>rw [List.map_cons,zqq,ih];rfl
theorem zvm (nss:List (List Int)):zpp (nss.map L)=some nss:=by
 induction nss with
 | nil=>rfl
 | cons n r ih=>rw [List.map_cons,L,zpp,zvl,ih];rfl
theorem zvn (prs:List (Int×Int)):zpq (prs.map P2D)=some prs:=by
 induction prs with
 | nil=>rfl
 | cons n r ih=>rw [List.map_cons,P2D,zpq,ih];rfl
noncomputable def zwv (F A B:Nat) (e:DE) (nss:List (List Int)) (prs:List (Int×Int)):DE:=match prs.getLast? with
 | some q=>((e.set F (some (LL (z2z nss prs)))).set A (some (.int q.1))).set B (some (.int q.2))
 | none=>e.set F (some (LL (z2z nss prs)))
noncomputable def zpr (F A B:Nat) (m:List Bool) (fi:DE->R (List D)) (ix:List Nat) (f:DE->R D) (fj:DE->R (List D)):DS->SR:=fun ρ=>match ρ[F]?,ρ[A]?,ρ[B]?,fi (vis m ρ),fj (vis m ρ) with
 | some .em,some .em,some .em,.ok its,.ok ps=>(match z1s b1 z52 f (L2.sel ix (vis m ρ)) its,zpq ps with
  | .ok zs,some prs=>(match zpp zs with
   | some nss=>if F≠A/\F≠B/\A≠B/\its.length<=100000/\prs.length<=1000/\(∀q∈prs,0<=q.1/\q.1<(nss.length:Int))/\∀ns∈nss,ns.length<=1000 then .nx (zpo (zwv F A B (vis m ρ) nss prs)) else .st
   | none=>.st)
  | _,_=>.st)
 | _,_,_,_,_=>.st
theorem zvo {F A B:Nat} {m:List Bool} {fi fj:DE->R (List D)} {ix:List Nat} {f:DE->R D} {ρ:DS} {e:DE} {its:List D} {nss:List (List Int)} {prs:List (Int×Int)} (hv:vis m ρ=e) (h1:ρ[F]?=some .em) (h2:ρ[A]?=some .em) (h3:ρ[B]?=some .em) (hi:fi e=.ok its) (hj:fj e=.ok (prs.map P2D))
  (hc:z1s b1 z52 f (L2.sel ix e) its=.ok (nss.map L)) (n1:F≠A) (n2:F≠B) (n3:A≠B) (l1:its.length<=100000) (l2:prs.length<=1000) (bd:∀q∈prs,0<=q.1/\q.1<(nss.length:Int)) (l3:∀ns∈nss,ns.length<=1000):zpr F A B m fi ix f fj ρ=.nx (zpo (zwv F A B e nss prs)):=by
 have d1:=zvn prs
 have d2:=zvm nss
 unfold zpr
 rw [hv]
 generalize ρ[F]?=x at *
 generalize ρ[A]?=y at *
 generalize ρ[B]?=z at *
 generalize fi e=u at *
 generalize fj e=w at *
 subst h1 h2 h3 hi hj
 dsimp only
 generalize z1s b1 z52 f (L2.sel ix e) its=q at *
 generalize zpq (prs.map P2D)=p at *
 subst hc d1
 dsimp only
 generalize zpp (nss.map L)=o at *
 subst d2
 dsimp only
 exact if_pos ⟨n1,n2,n3,l1,l2,bd,l3⟩
section
variable {X:Cx} {EX:XW} {fr:Bool} {F A B:Nat} {st1 st2:Stmt} {rest:List Stmt} {m:List Bool} {f:DE->R D} {fi fj:DE->R (List D)} {ix:List Nat} {g:DS->SR} {kp kq:Bool} {tt:TT}
theorem zzj (htt:∀U H Q,TTd X.K F0 z52 U H Q->tt U H Q) (h1:PS X st1 (zft (z6c (TId X.K EX kp fi) cB1 ix tt (TEd X.K F0 true f)) (z2v F)))
  (h2:PS X st2 (zjk (TId X.K EX kq fj) (zau 2 (z8m [A,B])) (zaf (tBM X.K "list" z5h (tOp (zqe X.K) (z6l F) (z6l A)) (z4p (z6l B) zfx)))))
  (h3:QB X EX fr rest g):QB X EX fr (st1::st2::rest) (z0z (zpr F A B m fi ix f fj) g):=by
 refine ⟨(z91 h1 (z91 h2 h3.h)).imp fun De U H q=>?_⟩
 obtain ⟨Hc,Hb,H0,ρ,sb,R,h⟩:=zsf q
 unfold zpr at h
 split at h
 . rename_i its ps eF eA eB pI pJ
   split at h
   . rename_i zs prs pC hp
     split at h
     . rename_i nss hz
       split at h
       . rename_i hc
         obtain ⟨nFA,nFB,nAB,lI,lP,bd,lN⟩:=hc
         obtain rfl:=zmm hp
         obtain rfl:=zml hz
         clear hp hz
         have xE:=R.extE m
         generalize hB:HeOf m ρ U H0 H=G at xE
         have sGH:Same G H:=by rw [<-hB];exact R.heH m
         have re:RE X.K G (vis m ρ) U:=by rw [<-hB];exact R.re m
         have none_of:∀{k:Nat},ρ[k]?=some .em->∀d,(vis m ρ)[k]?≠some (some d):=fun {k} z d w=>by rw [z9c,z] at w;cases w
         have vF:=none_of eF
         have vA:=none_of eA
         have vB:=none_of eB
         have hF:F<U.length:=by rw [<-R.len];exact (List.getElem?_eq_some_iff.mp eF).1
         have hA:A<U.length:=by rw [<-R.len];exact (List.getElem?_eq_some_iff.mp eA).1
         have hBl:B<U.length:=by rw [<-R.len];exact (List.getElem?_eq_some_iff.mp eB).1
         generalize vis m ρ=e at re pI pJ pC h vF vA vB
         have bH:Same Hb H:=R.sb
         clear R hB none_of
         show z6c (TId X.K EX kp fi) cB1 ix tt (TEd X.K F0 true f) U H _
         refine zpf htt ⟨sb.trans bH,e,G,sGH,re,?_⟩
         rw [pI]
         refine ⟨lI,nss,pC,fun v H1 o1=>?_⟩
         obtain ⟨s1,p,bs,rfl,hp0,nd,hb0,hp1,lb,hv⟩:=o1
         rw [List.nodup_cons] at nd
         show zjk (TId X.K EX kq fj) (zau 2 (z8m [A,B])) (zaf (tBM X.K "list" z5h (tOp (zqe X.K) (z6l F) (z6l A)) (z4p (z6l B) zfx))) { De with nx:=TSd X.K EX fr g De } (U.set F (some (V.ref p))) H1
         have gF:(U.set F (some (V.ref p)))[F]?=some (some (V.ref p)):=List.getElem?_set_self hF
         have re1:RE X.K G e (U.set F (some (V.ref p))):=re.agree (List.length_set ..) fun i d hd=>List.getElem?_set_ne fun z=>by rw [<-z] at hd;exact vF d hd
         have sl1:(U.set F (some (V.ref p))).length=U.length:=List.length_set ..
         have a1:∀i,i≠F->(U.set F (some (V.ref p)))[i]?=U[i]?:=fun i z=>List.getElem?_set_ne (Ne.symm z)
         generalize U.set F (some (V.ref p))=σ1 at gF re1 sl1 a1 ⊢
         generalize hbd:zaf (tBM X.K "list" z5h (tOp (zqe X.K) (z6l F) (z6l A)) (z4p (z6l B) zfx))=bdy
         refine ⟨(sb.trans bH).trans s1,e,G,sGH.trans s1,re1,?_⟩
         rw [pJ]
         intro J H2 G2 s2 x2 it
         have it':zli X.K J G2 (prs.map P2D):=by
          cases kq with
          | true=>rw [if_pos rfl] at it;exact ⟨fun i d q H H1 a b=>it.1 i d q H H1 (fun _ _ z=>nomatch z) b,fun H a=>it.2 H fun _ _ z=>nomatch z⟩
          | false=>rw [if_neg Bool.false_ne_true] at it;exact it
         have h1n:∀c,c=p\/c∈bs->G c=none/\H c=none/\H1 c≠none:=fun c hc=>by
          have hn:H c=none:=by
           rcases hc with rfl | hc
           . exact hp0
           . exact hb0 c hc
          refine ⟨sGH.none hn,hn,?_⟩
          rcases hc with rfl | hc
          . rw [hp1];exact fun z=>nomatch z
          . obtain ⟨k,hk,hkc⟩:=List.mem_iff_getElem.mp hc
            rw [hv k c nss[k] (by rw [List.getElem?_eq_getElem hk,hkc]) (List.getElem?_eq_getElem (by omega))];exact fun z=>nomatch z
         have h2n:∀c,c=p\/c∈bs->G2 c=none:=fun c hc=>x2.2.2 c (h1n c hc).2.2 (h1n c hc).1
         refine ⟨fun i mm σ' H'=>mm=prs.length - i/\i<=prs.length/\σ'.length=U.length/\(∀j,j≠A->j≠B->σ'[j]?=σ1[j]?)/\(∀q,(prs.take i).getLast?=some q->σ'[A]?=some (some (V.int q.1))/\σ'[B]?=some (some (V.int q.2))) /\
           (∀c o,c∉bs->H2 c=some o->H' c=some o)/\∀(k:Nat) b ns,bs[k]?=some b->(z2z nss (prs.take i))[k]?=some ns->H' b=some (.lst (ns.map V.int))/\ns.length<=1000+i,
          ⟨prs.length,rfl,Nat.zero_le _,sl1,fun _ _ _=>rfl,fun q hq=>by simp at hq,fun c o _ hc=>hc,fun k b ns hk hn=>⟨s2 _ _ (hv k b ns hk hn),lN ns (List.mem_of_getElem? hn)⟩⟩,?_⟩
         rintro i mm σ' H' ⟨rfl,hi,sl,ag,ab,ho,hw⟩
         have sG':Same G2 H':=fun c o z=>ho c o (fun hc=>by rw [h2n c (.inr hc)] at z;cases z) (x2.2.1 c o z)
         by_cases hlt:i<prs.length
         . refine .inr ?_
           have hq:prs[i]?=some prs[i]:=List.getElem?_eq_getElem hlt
           obtain ⟨hgo,hy⟩:=it'.1 i (P2D prs[i]) (by rw [List.getElem?_map,hq];rfl) H' G2 (Same.refl _) sG'
           have bq:=bd _ (List.getElem_mem hlt)
           have tk:prs.take (i+1)=prs.take i++[prs[i]]:=by rw [List.take_add_one,hq];rfl
           generalize prs[i]=q at *
           refine ⟨hgo,fun σ3 H3=>i+1<=prs.length/\σ3.length=U.length/\(∀j,j≠A->j≠B->σ3[j]?=σ1[j]?)/\(∀q,(prs.take (i+1)).getLast?=some q->σ3[A]?=some (some (V.int q.1))/\σ3[B]?=some (some (V.int q.2))) /\
            (∀c o,c∉bs->H2 c=some o->H3 c=some o)/\∀(k:Nat) b ns,bs[k]?=some b->(z2z nss (prs.take (i+1)))[k]?=some ns->H3 b=some (.lst (ns.map V.int))/\ns.length<=1000+(i+1),fun σ3 H3 z=>⟨prs.length - (i+1),by omega,rfl,z⟩,fun x H3 hx=>?_⟩
           obtain ⟨s3,G3,x3,r3⟩:=hy x H3 hx
           obtain ⟨a,b⟩:=q
           simp only [P2D,RD,RDs] at r3
           obtain ⟨t,xs,rfl,ht,x0,r0,rfl,rfl,x1,r1,rfl,rfl,rfl⟩:=r3
           have ht3:=x3.2.1 _ _ ht
           have jl:a.toNat<nss.length:=by dsimp only at bq;omega
           have hbk:bs[a.toNat]?=some bs[a.toNat]:=List.getElem?_eq_getElem (by omega)
           obtain ⟨ns,hns⟩:∃ns,(z2z nss (prs.take i))[a.toNat]?=some ns:=⟨_,List.getElem?_eq_getElem (by rw [z5a];exact jl)⟩
           have hcell:=hw _ _ _ hbk hns
           generalize hc:bs[a.toNat]'(by omega)=c at hbk hcell
           have hcb:c∈bs:=List.mem_of_getElem? hbk
           have hp3:H3 p=some (.lst (bs.map V.ref)):=s3 _ _ (ho p _ nd.1 (s2 _ _ hp1))
           have hc3:=s3 _ _ hcell.1
           unfold zau
           dsimp only
           rw [ht3]
           refine ⟨rfl,?_⟩
           show bdy _ ((σ'.set A (some (V.int a))).set B (some (V.int b))) H3
           have zA:((σ'.set A (some (V.int a))).set B (some (V.int b)))[A]?=some (some (V.int a)):=by rw [List.getElem?_set_ne (Ne.symm nAB),List.getElem?_set_self (by omega)]
           have zB:((σ'.set A (some (V.int a))).set B (some (V.int b)))[B]?=some (some (V.int b)):=List.getElem?_set_self (by rw [List.length_set];omega)
           have zF:((σ'.set A (some (V.int a))).set B (some (V.int b)))[F]?=some (some (V.ref p)):=by rw [List.getElem?_set_ne (Ne.symm nFB),List.getElem?_set_ne (Ne.symm nFA),ag F nFA nFB];exact gF
           have zO:∀j,j≠A->j≠B->((σ'.set A (some (V.int a))).set B (some (V.int b)))[j]?=σ1[j]?:=fun j j1 j2=>by rw [List.getElem?_set_ne (Ne.symm j2),List.getElem?_set_ne (Ne.symm j1)];exact ag j j1 j2
           have zl:((σ'.set A (some (V.int a))).set B (some (V.int b))).length=U.length:=by rw [List.length_set,List.length_set];exact sl
           generalize (σ'.set A (some (V.int a))).set B (some (V.int b))=σ4 at *
           rw [<-hbd]
           unfold zaf tBM tOp z6l
           rw [zF]
           dsimp only
           rw [zA]
           dsimp only
           refine ⟨p,bs.map V.ref,a,.ref c,rfl,rfl,.of hp3,?_,.inl ⟨rfl,_,.of hc3⟩,?_⟩
           . have:=z71 (xs:=bs.map V.ref) (j:=a.toNat) (v:=V.ref c) (by rw [List.getElem?_map,hbk];rfl)
             rwa [Int.toNat_of_nonneg bq.1] at this
           unfold z4p zfx
           dsimp only
           rw [zB]
           dsimp only
           refine ⟨c,_,.int b,rfl,rfl,hc3,z56 (by rw [List.length_map];have:=hcell.2;omega),?_⟩
           refine ⟨hlt,zl,zO,fun q hq=>?_,fun d o hd hH=>?_,fun k b' ns' hk hn=>?_⟩
           . rw [tk,List.getLast?_concat] at hq;cases hq;exact ⟨rfl,rfl⟩
           . rw [z08 (fun z=>hd (by rw [z];exact hcb))];exact s3 _ _ (ho d o hd hH)
           . rw [tk,zf8,List.getElem?_modify] at hn
             by_cases hka:a.toNat=k
             . subst hka
               rw [hbk] at hk;cases hk
               rw [hns] at hn
               simp only [if_true,Option.map_eq_map,Option.map_some,Option.some.injEq] at hn
               subst hn
               exact ⟨by rw [z0d,List.map_append];rfl,by rw [List.length_append,List.length_singleton];have:=hcell.2;omega⟩
             . simp only [if_neg hka,Option.map_eq_map,Option.map_id',id] at hn
               obtain ⟨w1,w2⟩:=hw k b' ns' hk hn
               have nb:b'≠c:=fun z=>by
                subst z
                exact hka ((List.getElem_inj (h₀:=by omega) (h₁:=(List.getElem?_eq_some_iff.mp hk).1) nd.2).mp (by rw [hc];exact (List.getElem?_eq_some_iff.mp hk).2.symm))
               exact ⟨by rw [z08 nb];exact s3 _ _ w1,by omega⟩
         . obtain rfl:i=prs.length:=by omega
           rw [List.take_length] at ab hw
           refine .inl ⟨?_,?_⟩
           . have:=it'.2 H' sG'
             rwa [List.length_map] at this
           . open Classical in
             let G3:Hp:=fun c=>if c=p\/c∈bs then H' c else G2 c
             have gin:∀c,(c=p\/c∈bs)->G3 c=H' c:=fun c hc=>if_pos hc
             have gout:∀c,¬(c=p\/c∈bs)->G3 c=G2 c:=fun c hc=>if_neg hc
             have s33:Same G3 H':=fun c o z=>by
              by_cases hc:c=p\/c∈bs
              . rw [gin c hc] at z;exact z
              . rw [gout c hc] at z;exact sG' c o z
             have s23:Same G2 G3:=fun c o z=>by
              rw [gout c fun hc=>by rw [h2n c hc] at z;cases z];exact z
             have hp':G3 p=some (.lst (bs.map V.ref)):=by rw [gin p (.inl rfl)];exact ho p _ nd.1 (s2 _ _ hp1)
             have rL:RD X.K G3 (LL (z2z nss prs)) (.ref p):=RD.ofLL hp' (by rw [z5a];exact lb) fun k b ns hk hn=>by
              rw [gin b (.inr (List.mem_of_getElem? hk))];exact (hw k b ns hk hn).1
             have sGG:Same G G3:=x2.1.trans s23
             have re3:RE X.K G3 e σ':=(re.mono sGG).agree sl fun i d hd=>by
              have nA:i≠A:=fun z=>by rw [z] at hd;exact vA d hd
              have nB:i≠B:=fun z=>by rw [z] at hd;exact vB d hd
              have nF:i≠F:=fun z=>by rw [z] at hd;exact vF d hd
              rw [ag i nA nB,a1 i nF]
             have reF:=re3.put (i:=F) (by rw [ag F nFA nFB];exact gF) rL
             have sb':Same Hb H':=fun c o z=>ho c o (fun hc=>by
              have:=(h1n c (.inr hc)).2.1
              rw [bH c o z] at this;cases this) (s2 _ _ (s1 _ _ (bH c o z)))
             have xt:Ext Hc Hb G3 H':=⟨xE.1.trans sGG,s33,fun a ha hc=>by
              have na:¬(a=p\/a∈bs):=fun z=>(bH.ne ha) (h1n a z).2.1
              rw [gout a na]
              exact x2.2.2 a (s1.ne (bH.ne ha)) (xE.2.2 a ha hc)⟩
             refine h σ' H' G3 (RE.rs ?_ sb' xt)
             unfold zwv
             cases hl:prs.getLast? with
             | none=>exact reF
             | some q=>
              obtain ⟨y1,y2⟩:=ab q hl
              exact (reF.put y1 (by simp only [RD])).put y2 (by simp only [RD])
       . exact h.elim
     . exact h.elim
   . exact h.elim
 . exact h.elim
theorem zvp {caps:List Str} {sc:Scope} {x v:Str} {px pv pos pos2 pos3 pt spos:Pos} {elt iter iter2 call:Expr} {ts:List Expr} {k:Nat} (hNX:X.N.Nodup) (hk:X.N[F]?=some v) (hv:X.env.scope.names.lookup v=some .local) (C:CompOk X sc caps ix) (hN:([x]++caps).Nodup) (hx:sc.names.lookup x=some .local) (hi:QI X EX kp (.Name x px) iter fi) (ht:PTq X sc ([x]++caps) [] z52)
  (he:∀fp s H,QE (z0n X sc ([x]++caps) fp s H) F0 true elt f)
  (hp:PassesOwn (model X.prog X.w) X.A X.env X.xe) (hc:X.calm=true) (hj:QI X EX kq (.Tuple ts k pt) iter2 fj) (hg:QGs X ts [A,B]) (ha:PE X call (tBM X.K "list" z5h (tOp (zqe X.K) (z6l F) (z6l A)) (z4p (z6l B) zfx))) (h3:QB X EX fr rest g)
  (hsw1:swapsWith (.ListComp elt [⟨.Name x px,iter,[],0⟩] sc pos) (some (.Name v pv)) spos.line X.env=pure true:=by rfl) (hs:∀x,foldedSetIterable iter X.env x=pure x:=by intro _;rfl) (hn:(assignEach ts X.env).length=2:=by rfl) (hst:(assignEach ts X.env).findIdx? (·.1)=none:=by rfl) (hsw:swapsWith call none pos2.line X.env=pure false:=by rfl)
  (hs2:∀x,foldedSetIterable iter2 X.env x=pure x:=by intro _;rfl) :
  QB X EX fr (.Assign [.Name v pv] (.ListComp elt [⟨.Name x px,iter,[],0⟩] sc pos) spos::.For (.Tuple ts k pt) iter2 [.Expr call pos2] [] pos3::rest) (z0z (zpr F A B m fi ix f fj) g):=by
 obtain ⟨tt,t1,t2⟩:=ht.run
 exact zzj t2 (zdj hNX hk hv C hN hx hi.h t1 (fun fp s H=>(he fp s H).h) hsw1 hs) (zge hp hc hj.h (zgi hc hg.h hn hst) (zfr (zbx ha hsw)) hs2) h3
end
section
variable {X:Cx} {K:Frag}
noncomputable def dIxN:D->D->Option D
 | .dn ks ds,.tup es=>match nkD (.tup es) with
  | some k=>if k.dep<=8 then valN ks ds k else none
  | none=>none
 | _,_=>none
noncomputable def rIxN:R2:=fun x y H Q=>∃(a:Addr) (qs:List (NK×Addr)) (xs:List V) (ob:Obj) (k:NK) (b:Addr) (w:V),x=.ref a/\y=.ref b/\H a=some (.ext (dnP a qs xs ob))/\DN H a qs/\NKr H k (.ref b)/\k.dep<=8/\valN (qs.map (·.1)) xs k=some w/\Q w H
theorem zi8 {k:NK}:∀{qs:List (NK×Addr)} {xs:List V} {vs:List Value} {w:V},Vals xs vs->qs.length=vs.length->valN (qs.map (·.1)) xs k=some w->∃p:Addr×Value,atKey (z3 qs vs) k=some p/\RelV w p.2
 | [],xs,vs,w,r,hl,h=>by
  unfold valN at h;rw [List.map_nil,List.zip_nil_left] at h;cases h
 | q::qs,_,_,w,.nil,hl,h=>by simp at hl
 | q::qs,_,_,w,.cons (a:=x) (b:=v) (l₁:=xs) (l₂:=vs) r rr,hl,hw=>by
  by_cases h:q.1=k
  . unfold valN at hw
    rw [List.map_cons,List.zip_cons_cons,List.find?_cons_of_pos (by simpa using h)] at hw
    cases hw
    refine ⟨(q.2,v),?_,r⟩
    show ((z3 (q::qs) (v::vs)).find? fun x=>decide (x.1=k)).map (·.2)=_
    unfold z3
    rw [List.zip_cons_cons,List.map_cons,List.find?_cons_of_pos (by simpa using h)];rfl
  . unfold valN at hw
    rw [List.map_cons,List.zip_cons_cons,List.find?_cons_of_neg (by simpa using h)] at hw
    obtain ⟨p,e,rp⟩:=zi8 (qs:=qs) rr (by simpa using hl) hw
    refine ⟨p,?_,rp⟩
    show ((z3 (q::qs) (v::vs)).find? fun x=>decide (x.1=k)).map (·.2)=_
    unfold z3
    rw [List.zip_cons_cons,List.map_cons,List.find?_cons_of_neg (by simpa using h)]
    exact e
theorem zzk (hu:X.A.units+64<cLine):IxR X rIxN:=by
 intro value slice pins s U H x y v u Q I rx ry h hs
 obtain ⟨a,qs,xs,ob,k,b,w,rfl,rfl,e,n,hk,hd,hv,q⟩:=h
 cases rx;cases ry
 obtain ⟨_,vs,p1,p2,dd⟩:=zpe I e n
 obtain ⟨p,hp,rp⟩:=zi8 p1 p2 hv
 exact tail_any (ops:=[.ref a,.ref b]) dd.typeIs PySem.F.slot_dict_getitem.lookup (wpAny_getItem_heap (knd:=deepKind X.prog X.w) (by show X.A.units+1+8<cLine;lia) ⟨zjq I hk rfl,hd⟩ dd hp ⟨w,H,I.tok _,rp,q⟩) hs
theorem zee {K:Frag} {H:Hp} {k:NK} {z:D}:∀{ks:List NK} {ds:List D} {xs:List V},RDs K H ds xs->valN ks ds k=some z->∃w,valN ks xs k=some w/\RD K H z w
 | [],ds,xs,r,h=>by unfold valN at h;rw [List.zip_nil_left] at h;cases h
 | k'::ks,[],xs,r,h=>by unfold valN at h;rw [List.zip_nil_right] at h;cases h
 | k'::ks,d::ds,xs,r,hz=>by
  simp only [RDs] at r
  obtain ⟨x,r',rfl,r1,r2⟩:=r
  by_cases h:k'=k
  . unfold valN at hz ⊢
    rw [List.zip_cons_cons,List.find?_cons_of_pos (by simpa using h)] at hz ⊢
    cases hz
    exact ⟨x,rfl,r1⟩
  . unfold valN at hz ⊢
    rw [List.zip_cons_cons,List.find?_cons_of_neg (by simpa using h)] at hz ⊢
    exact zee r2 hz
theorem zvq:OpD K false dIxN rIxN:=by
 intro H0 H x y d e z Q s rx ry ho k
 cases d<;>simp only [dIxN] at ho<;>first | (cases ho;done) | skip
 cases e<;>simp only [dIxN] at ho<;>first | (cases ho;done) | skip
 rename_i ks ds es
 split at ho<;>first | (cases ho;done) | skip
 rename_i kk hkk
 split at ho<;>first | (cases ho;done) | skip
 rename_i hd
 have nk:=zhw hkk ry
 obtain ⟨b,ys,rfl,hb,rb⟩:=ry.tup
 simp only [RD] at rx
 obtain ⟨a,qs,xs,ob,rfl,h1,hk,n,ra⟩:=rx
 rw [<-hk] at ho
 obtain ⟨w,hw,rw'⟩:=zee ra ho
 exact ⟨a,qs,xs,ob,kk,b,w,rfl,rfl,s _ _ h1,n.tk fun b zs q=>s _ _ q,NKr.mono (fun b zs q=>s _ _ q) nk,hd,hw,k _ H (.pure s rw')⟩
end
section
variable {hp:Heap} {z TI TO i1 i2 l1 l2:Addr} {a b x y:Value} {k:Nat}
theorem zkw (D:ZipApart z TI TO i1 i2 l1 l2) (hz:hp.get? z=some (z65 TI TO .none)) (hTO:hp.get? TO=some (z0i a b)) (h1:hp.get? i1=some (z07 l1 k)) (h2:hp.get? i2=some (z07 l2 k)) :
  (zHF hp z TO i1 i2 x y (up1 k) (up1 k)).get? z=some (z65 TI TO (rawInt hp.objs.size))/\(zHF hp z TO i1 i2 x y (up1 k) (up1 k)).get? TO=some (z0i x y)/\(zHF hp z TO i1 i2 x y (up1 k) (up1 k)).get? hp.objs.size=some (z0i x y) /\
  (zHF hp z TO i1 i2 x y (up1 k) (up1 k)).get? i1=some (z07 l1 (k+1))/\(zHF hp z TO i1 i2 x y (up1 k) (up1 k)).get? i2=some (z07 l2 (k+1)) /\
  ∀c o,c≠z->c≠TO->c≠i1->c≠i2->hp.get? c=some o->(zHF hp z TO i1 i2 x y (up1 k) (up1 k)).get? c=some o:=by
 have z1:(zH1 hp z).get? z=some (z65 TI TO .ellipsis):=by unfold zH1;rw [Heap.get?_update_self _ hz rfl];rfl
 have zn:∀{c},c≠z->(zH1 hp z).get? c=hp.get? c:=fun n=>z22 n
 have t2:((zH1 hp z).update i1 (up1 k)).get? TO=some (z0i a b):=by rw [z22 D.TOi1,zn D.TOz];exact hTO
 have t3:(((zH1 hp z).update i1 (up1 k)).update TO (Obj.mapSeq (·.setIfInBounds 0 x))).get? TO=some (z0i x b):=by rw [Heap.get?_update_self _ t2 rfl];rfl
 have i2':(((zH1 hp z).update i1 (up1 k)).update TO (Obj.mapSeq (·.setIfInBounds 0 x))).get? i2=some (z07 l2 k):=by rw [z22 D.TOi2.symm,z22 D.i12.symm,zn D.i2z];exact h2
 have u2:(zH4 hp z TO i1 i2 x (up1 k) (up1 k)).get? i2=some (z07 l2 (k+1)):=by
  unfold zH4;rw [Heap.get?_update_self _ i2' rfl];simp [z07,Obj.mapFields,rawInt]
 have u1:(zH4 hp z TO i1 i2 x (up1 k) (up1 k)).get? i1=some (z07 l1 (k+1)):=by
  unfold zH4
  rw [z22 D.i12,z22 D.TOi1.symm,Heap.get?_update_self _ (show (zH1 hp z).get? i1=some (z07 l1 k) by rw [zn D.i1z];exact h1) rfl]
  simp [z07,Obj.mapFields,rawInt]
 have u3:(zH4 hp z TO i1 i2 x (up1 k) (up1 k)).get? TO=some (z0i x b):=by unfold zH4;rw [z22 D.TOi2];exact t3
 have u4:(zH4 hp z TO i1 i2 x (up1 k) (up1 k)).get? z=some (z65 TI TO .ellipsis):=by unfold zH4;rw [z22 D.i2z.symm,z22 D.TOz.symm,z22 D.i1z.symm];exact z1
 have u5:∀c o,c≠z->c≠TO->c≠i1->c≠i2->hp.get? c=some o->(zH4 hp z TO i1 i2 x (up1 k) (up1 k)).get? c=some o:=fun c o c1 c2 c3 c4 e=>by
  unfold zH4;rw [z22 c4,z22 c2,z22 c3,zn c1];exact e
 have sz:((zH4 hp z TO i1 i2 x (up1 k) (up1 k)).update TO (Obj.mapSeq (·.setIfInBounds 1 y))).objs.size=hp.objs.size:=by
  unfold zH4 zH1;rw [Heap.size_update,Heap.size_update,Heap.size_update,Heap.size_update,Heap.size_update]
 have nz:hp.objs.size≠z:=Nat.ne_of_gt (Heap.lt_size hz)
 exact zzg D u1 u2 u3 u4 u5 sz nz
end
section
variable {prog:Program} {w:World} {A:Around} {E:Value->Shared->Prop} {s:Shared} {z TI TO i1 i2 l1 l2:Addr} {a b x y:Value} {k:Nat} {xs ys:Array Value}
theorem zf9 {Q:Option Value->Shared->Prop} (D:ZipApart z TI TO i1 i2 l1 l2) (hz:s.heap.get? z=some (z65 TI TO .none)) (hTI:s.heap.get? TI=some (z0i (.ref i1) (.ref i2))) (hTO:s.heap.get? TO=some (z0i a b))
  (h1:s.heap.get? i1=some (z07 l1 k)) (h2:s.heap.get? i2=some (z07 l2 k)) (hl1:s.heap.IsTuple l1 xs) (hl2:s.heap.IsTuple l2 ys) (hx:xs[k]?=some x) (hy:ys[k]?=some y)
  (hQ:Q (some (.ref s.heap.objs.size)) { s with heap:=zHF s.heap z TO i1 i2 x y (up1 k) (up1 k) }):wpAny (model prog w) A (pyNext (.ref z)) Q E s:=by
 have hT:s.TypeIs (.ref z) "zip":=⟨_,hz,rfl⟩
 have k1:∀{c o},c≠z->s.heap.get? c=some o->(zH1 s.heap z).get? c=some o:=fun n e=>by unfold zH1;rw [z22 n];exact e
 have g1:zcr i1 x (up1 k) A.in1 { s with heap:=zH1 s.heap z }:=z7q (k1 D.i1z h1) (let ⟨o,ho,r⟩:=hl1;⟨o,k1 D.l1z ho,r⟩) hx
 have k3:∀{c o},c≠z->c≠i1->c≠TO->s.heap.get? c=some o->(((zH1 s.heap z).update i1 (up1 k)).update TO (Obj.mapSeq (·.setIfInBounds 0 x))).get? c=some o:=fun n1 n2 n3 e=>by rw [z22 n3,z22 n2];exact k1 n1 e
 have g2:zcr i2 y (up1 k) A.in1 { s with heap:=((zH1 s.heap z).update i1 (up1 k)).update TO (Obj.mapSeq (·.setIfInBounds 0 x)) }:=z7q (k3 D.i2z D.i12.symm D.TOi2.symm h2) (let ⟨o,ho,r⟩:=hl2;⟨o,k3 D.l2z D.l2i1 D.l2TO ho,r⟩) hy
 unfold pyNext
 exact wpAny_bind (wpAny_attempt (wpAny_callSpecial?_slot (name:=Str.ofString "__next__") hT F.slot_zip_next
  (call_meets F.slot_zip_next hT F.entry_zip_next (F.args_zip_next_1 _) (zi1 z TI TO i1 i2 a b x y (up1 k) (up1 k) D.TOz D.TOi1 D.TOi2 D.i1z D.i2z) ⟨hz,hTI,hTO,g1,g2,wpAny_pure hQ⟩)))
theorem zi9 {Q:Option Value->Shared->Prop} (hh:A.handled=none) (D:ZipApart z TI TO i1 i2 l1 l2) (hz:s.heap.get? z=some (z65 TI TO .none)) (hTI:s.heap.get? TI=some (z0i (.ref i1) (.ref i2))) (hTO:s.heap.get? TO=some (z0i a b))
  (h1:s.heap.get? i1=some (z07 l1 k)) (hl1:s.heap.IsTuple l1 xs) (hx:xs[k]?=none) (hQ:∀h',(∀c o,c≠z->c≠i1->s.heap.get? c=some o->h'.get? c=some o)->Q none { s with heap:=h' }):wpAny (model prog w) A (pyNext (.ref z)) Q E s:=by
 have hT:s.TypeIs (.ref z) "zip":=⟨_,hz,rfl⟩
 have k1:∀{c o},c≠z->s.heap.get? c=some o->(zH1 s.heap z).get? c=some o:=fun n e=>by unfold zH1;rw [z22 n];exact e
 have g1:zhz i1 A.in1 { s with heap:=zH1 s.heap z }:=zea hh (k1 D.i1z h1) (let ⟨o,ho,r⟩:=hl1;⟨o,k1 D.l1z ho,r⟩) hx
 unfold pyNext
 refine wpAny_bind (wpAny_attempt (wpAny_callSpecial?_slot (name:=Str.ofString "__next__") hT F.slot_zip_next
  (call_meets F.slot_zip_next hT F.entry_zip_next (F.args_zip_next_1 _) (zkr z TI TO i1 i2 a b D.i1z) ⟨hz,hTI,hTO,g1,fun h' e kp he=>?_⟩)))
 obtain ⟨o,ho,hc⟩:=he
 exact wpAny_bind (wpAny_isInstance (T:="StopIteration") (b:=true) ⟨o,ho,hc⟩ isSubtype_stop (wpAny_pure (hQ h' kp)))
end
noncomputable def zvr (n:Nat) (l1 l2:Addr):List Obj:=[z07 l1 0,z07 l2 0,z0i (.ref n) (.ref (n+1)),z0i .none .none,z65 (n+2) (n+3) .none]
section
open PySem.SeqAt
open PySem.AutoSeq1 (wpAny_loadPart')
theorem zfa (l1 l2:Addr) (xs ys:Array Value) :
  Meets (Builtin.«zip.__new__» ⟨[.type "zip",.ref l1,.ref l2],[]⟩) (fun _ R s=>s.heap.IsTuple l1 xs/\s.heap.IsTuple l2 ys/\R (.ok (.ret (.ref (s.heap.objs.size+4)))) { s with heap:=zN s.heap (zvr s.heap.objs.size l1 l2) }):=
 .of_wp fun prog w A R s h=>by
  obtain ⟨hp,g,dr,tk,os⟩:=s;obtain ⟨q1,q2,h⟩:=h
  have f0:=sub_zip
  have a1:Heap.IsTuple (Shared.heap ⟨hp,g,dr,tk,os⟩) l1 xs:=q1
  have a2:Heap.IsTuple (Shared.heap ⟨hp.push { cls:=.type "tuple_iterator",data:=.fields #[.ref l1,.int 0 0] },g,dr,tk,os⟩) l2 ys:=Heap.IsTuple.push q2 _
  wp_walk using wpAny_pyIter_tuple a1,wpAny_pyIter_tuple a2
  refine ⟨_,rfl,?_⟩
  have s1:(hp.push (z07 l1 0)).objs.size=hp.objs.size+1:=Heap.size_push ..
  have s2:((hp.push (z07 l1 0)).push (z07 l2 0)).objs.size=hp.objs.size+2:=by rw [Heap.size_push,s1]
  have s3:(((hp.push (z07 l1 0)).push (z07 l2 0)).push (z0i (.ref hp.objs.size) (.ref (hp.push (z07 l1 0)).objs.size))).objs.size=hp.objs.size+3:=by rw [Heap.size_push,s2]
  have s4:((((hp.push (z07 l1 0)).push (z07 l2 0)).push (z0i (.ref hp.objs.size) (.ref (hp.push (z07 l1 0)).objs.size))).push (z0i .none .none)).objs.size=hp.objs.size+4:=by rw [Heap.size_push,s3]
  show R (.ok (.ret (.ref ((((hp.push (z07 l1 0)).push (z07 l2 0)).push (z0i (.ref hp.objs.size) (.ref (hp.push (z07 l1 0)).objs.size))).push (z0i .none .none)).objs.size))) { heap:=((((hp.push (z07 l1 0)).push (z07 l2 0)).push (z0i (.ref hp.objs.size) (.ref (hp.push (z07 l1 0)).objs.size))).push (z0i .none .none)).push (z65 ((hp.push (z07 l1 0)).push (z07 l2 0)).objs.size (((hp.push (z07 l1 0)).push (z07 l2 0)).push (z0i (.ref hp.objs.size) (.ref (hp.push (z07 l1 0)).objs.size))).objs.size .none),gens:=g,drawn:=dr,toks:=tk,os:=os }
  rw [s4,s3,s2,s1]
  exact h
end
end L2
namespace L2
open PySem PySem.Spec PyProof.Rows
section
theorem zia (z TI TO i1 i2:Addr) (a b x:Value) (f1:Obj->Obj) (n2:TO≠z) (n3:TO≠i1) (n4:TO≠i2) (n5:i1≠z) (n6:i2≠z) :
  Meets (Builtin.«zip.__next__» ⟨[.ref z],[]⟩) (fun A R s=>s.heap.get? z=some (z65 TI TO .none)/\s.heap.get? TI=some (z0i (.ref i1) (.ref i2))/\s.heap.get? TO=some (z0i a b) /\
   zcr i1 x f1 A.in1 { s with heap:=zH1 s.heap z }/\zhz i2 A.in1 { s with heap:=((zH1 s.heap z).update i1 f1).update TO (Obj.mapSeq (·.setIfInBounds 0 x)) } /\
   ∀h' e,(∀c o,c≠z->c≠TO->c≠i1->c≠i2->s.heap.get? c=some o->h'.get? c=some o)->(∃o,h'.get? e=some o/\o.cls=.type "StopIteration")->R (.error (.ref e)) { s with heap:=h' }):=
 .of_wp fun prog w A R s h=>by
  obtain ⟨hp,g,dr,tk,os⟩:=s;obtain ⟨hz,hTI,hTO,g1,g2,h⟩:=h
  unfold z65 at hz
  unfold z0i at hTI hTO
  have g1':=g1 prog w
  have g2':=g2 prog w
  simp only [zH1] at g1' g2'
  have g1s:∀(E:Value->Shared->Prop) (Q:Value->Shared->Prop),zj3 (Q x { heap:=(hp.update z (Obj.mapFields (·.setIfInBounds 0 .ellipsis))).update i1 f1,gens:=g,drawn:=dr,toks:=tk,os:=os })->wpAny (model prog w) A.in1 (Builtin.SmallTypes.nextOf (.ref i1)) Q E { heap:=hp.update z (Obj.mapFields (·.setIfInBounds 0 .ellipsis)),gens:=g,drawn:=dr,toks:=tk,os:=os }:=fun E Q h=>g1' E Q h
  wp_walk using wpAny_onRaise,wpAny_loadPart' hz,wpAny_loadPart' hTI,wpAny_loadPart' hTO,(g1s _ _)
  unfold zj3
  have hTO2:((hp.update z (Obj.mapFields (·.setIfInBounds 0 .ellipsis))).update i1 f1).get? TO=some { cls:=.type "tuple",data:=.seq #[a,b] }:=by
   rw [Heap.get?_update_ne _ _ _ _ n3,Heap.get?_update_ne _ _ _ _ n2];exact hTO
  generalize hH3:((hp.update z (Obj.mapFields (·.setIfInBounds 0 .ellipsis))).update i1 f1).update TO (Obj.mapSeq (·.setIfInBounds 0 x))=H3 at g2'
  have hz3:H3.get? z=some { cls:=.type "zip",data:=.fields #[.ellipsis,.bool false,.bool false,.ref TI,.ref TO] }:=by
   rw [<-hH3,Heap.get?_update_ne _ _ _ _ n2.symm,Heap.get?_update_ne _ _ _ _ n5.symm,Heap.get?_update_self _ hz rfl];rfl
  have g2s:∀(E:Value->Shared->Prop) (Q:Value->Shared->Prop),zj3 (∀h' e,(∀c o,c≠i2->H3.get? c=some o->h'.get? c=some o)->(∃o,h'.get? e=some o/\o.cls=.type "StopIteration")->E (.ref e) { heap:=h',gens:=g,drawn:=dr,toks:=tk,os:=os })->wpAny (model prog w) A.in1 (Builtin.SmallTypes.nextOf (.ref i2)) Q E { heap:=((hp.update z (Obj.mapFields (·.setIfInBounds 0 .ellipsis))).update i1 f1).update TO (Obj.mapSeq (·.setIfInBounds 0 x)),gens:=g,drawn:=dr,toks:=tk,os:=os }:=fun E Q h=>by rw [hH3];exact g2' E Q h
  wp_walk using wpAny_onRaise,(g2s _ _),wpAny_loadPart' (s:={ heap:=(hp.update z (Obj.mapFields (·.setIfInBounds 0 .ellipsis))).update i1 f1,gens:=g,drawn:=dr,toks:=tk,os:=os }) hTO2,(wpAny_updateSeq (s:={ heap:=(hp.update z (Obj.mapFields (·.setIfInBounds 0 .ellipsis))).update i1 f1,gens:=g,drawn:=dr,toks:=tk,os:=os }) hTO2 rfl)
  unfold zj3
  intro h' e kp he
  obtain ⟨oe,hoe,hce⟩:=he
  have hz':=kp z _ n6.symm hz3
  have hez:e≠z:=fun q=>by rw [q,hz'] at hoe;cases hoe;simp at hce
  refine wpAny_setField hz' rfl (by simp) (h _ e (fun c o c1 c2 c3 c4 q=>?_) ⟨oe,by rw [Heap.get?_update_ne _ _ _ _ hez];exact hoe,hce⟩)
  rw [Heap.get?_update_ne _ _ _ _ c1]
  exact kp c o c4 (by rw [<-hH3,Heap.get?_update_ne _ _ _ _ c2,Heap.get?_update_ne _ _ _ _ c3,Heap.get?_update_ne _ _ _ _ c1];exact q)
end
section
variable {prog:Program} {w:World} {A:Around} {E:Value->Shared->Prop} {s:Shared} {z TI TO i1 i2 l1 l2:Addr} {a b x:Value} {k:Nat} {xs ys:Array Value}
theorem zib {Q:Option Value->Shared->Prop} (hh:A.handled=none) (D:ZipApart z TI TO i1 i2 l1 l2) (hz:s.heap.get? z=some (z65 TI TO .none)) (hTI:s.heap.get? TI=some (z0i (.ref i1) (.ref i2))) (hTO:s.heap.get? TO=some (z0i a b))
  (h1:s.heap.get? i1=some (z07 l1 k)) (h2:s.heap.get? i2=some (z07 l2 k)) (hl1:s.heap.IsTuple l1 xs) (hl2:s.heap.IsTuple l2 ys) (hx:xs[k]?=some x) (hy:ys[k]?=none) (hQ:∀h',(∀c o,c≠z->c≠TO->c≠i1->c≠i2->s.heap.get? c=some o->h'.get? c=some o)->Q none { s with heap:=h' }):wpAny (model prog w) A (pyNext (.ref z)) Q E s:=by
 have hT:s.TypeIs (.ref z) "zip":=⟨_,hz,rfl⟩
 have k1:∀{c o},c≠z->s.heap.get? c=some o->(zH1 s.heap z).get? c=some o:=fun n e=>by unfold zH1;rw [z22 n];exact e
 have g1:zcr i1 x (up1 k) A.in1 { s with heap:=zH1 s.heap z }:=z7q (k1 D.i1z h1) (let ⟨o,ho,r⟩:=hl1;⟨o,k1 D.l1z ho,r⟩) hx
 have k3:∀{c o},c≠z->c≠i1->c≠TO->s.heap.get? c=some o->(((zH1 s.heap z).update i1 (up1 k)).update TO (Obj.mapSeq (·.setIfInBounds 0 x))).get? c=some o:=fun n1 n2 n3 e=>by rw [z22 n3,z22 n2];exact k1 n1 e
 have g2:zhz i2 A.in1 { s with heap:=((zH1 s.heap z).update i1 (up1 k)).update TO (Obj.mapSeq (·.setIfInBounds 0 x)) }:=zea hh (k3 D.i2z D.i12.symm D.TOi2.symm h2) (let ⟨o,ho,r⟩:=hl2;⟨o,k3 D.l2z D.l2i1 D.l2TO ho,r⟩) hy
 unfold pyNext
 refine wpAny_bind (wpAny_attempt (wpAny_callSpecial?_slot (name:=Str.ofString "__next__") hT F.slot_zip_next
  (call_meets F.slot_zip_next hT F.entry_zip_next (F.args_zip_next_1 _) (zia z TI TO i1 i2 a b x (up1 k) D.TOz D.TOi1 D.TOi2 D.i1z D.i2z) ⟨hz,hTI,hTO,g1,g2,fun h' e kp he=>?_⟩)))
 obtain ⟨o,ho,hc⟩:=he
 exact wpAny_bind (wpAny_isInstance (T:="StopIteration") (b:=true) ⟨o,ho,hc⟩ isSubtype_stop (wpAny_pure (hQ h' kp)))
end
theorem zfb {P:Program} {w:World} {K:Frag} {elts:List Expr} {k:Nat} {pos:Pos} {z TI TO i1 i2 l1 l2:Addr} {xs ys:List V} (D:ZipApart z TI TO i1 i2 l1 l2) :
  Turn P w K (.Tuple elts k pos) (ItP (fun H=>Rd H l1 (.tup xs)/\Rd H l2 (.tup ys)) (xs.zip ys)) [z,TI,TO,i1,i2] z
   (fun i h=>h.get? z=some (z65 TI TO .none)/\h.get? TI=some (z0i (.ref i1) (.ref i2))/\(∃a b,h.get? TO=some (z0i a b))/\h.get? i1=some (z07 l1 i)/\h.get? i2=some (z07 l2 i)) where
 mem:=by simp
 obj:=fun i h ⟨hz,hTI,⟨a,b,hTO⟩,h1,h2⟩ c hc=>by
  have hc':c=z\/c=TI\/c=TO\/c=i1\/c=i2:=by simpa using hc
  rcases hc' with rfl | rfl | rfl | rfl | rfl
  . exact ⟨_,hz,fun v e=>by cases e⟩
  . exact ⟨_,hTI,fun v e=>by cases e⟩
  . exact ⟨_,hTO,fun v e=>by cases e⟩
  . exact ⟨_,h1,fun v e=>by cases e⟩
  . exact ⟨_,h2,fun v e=>by cases e⟩
 keep:=fun i h h' ⟨hz,hTI,⟨a,b,hTO⟩,h1,h2⟩ kp=>⟨kp z (by simp) _ hz,kp TI (by simp) _ hTI,⟨a,b,kp TO (by simp) _ hTO⟩,kp i1 (by simp) _ h1,kp i2 (by simp) _ h2⟩
 item:=by
  intro X hP hw hK hc i pins s U H E I hf st hg
  subst hP hw hK
  obtain ⟨⟨hS1,hS2⟩,hlt⟩:=hg
  obtain ⟨hz,hTI,⟨a0,b0,hTO⟩,h1,h2⟩:=st
  obtain ⟨its1,r1,p1,z1⟩:=I.tuple (.inl hS1)
  obtain ⟨its2,r2,p2,z2⟩:=I.tuple (.inl hS2)
  have le1:=r1.length
  have le2:=r2.length
  rw [List.length_zip] at hlt
  obtain ⟨a,ea⟩:∃a,xs[i]?=some a:=⟨xs[i]'(by omega),by simp⟩
  obtain ⟨b,eb⟩:∃b,ys[i]?=some b:=⟨ys[i]'(by omega),by simp⟩
  obtain ⟨x,q1,ru1⟩:=r1.get ea
  obtain ⟨y,q2,ru2⟩:=r2.get eb
  obtain ⟨f1,f2,f3,f4,f5,f6⟩:=zkw (x:=x) (y:=y) D hz hTO h1 h2
  refine zf9 D hz hTI hTO h1 h2 p1 p2 (by simpa using q1) (by simpa using q2) ⟨.ref s.heap.objs.size,rfl,?_⟩
  generalize zHF s.heap z TO i1 i2 x y (up1 i) (up1 i)=HF at f1 f2 f3 f4 f5 f6
  refine wpAny_letOwnedTupleGo_zip (TI:=TI) (TO:=TO) f1 fun h' hz' hs'=>?_
  have nT:∀{c o},s.heap.get? c=some o->s.heap.objs.size≠c:=fun e=>Nat.ne_of_gt (Heap.lt_size e)
  have up:∀{c o},c≠z->HF.get? c=some o->h'.get? c=some o:=fun n e=>hs'.extBut _ _ n e
  have ht:IsTp h' s.heap.objs.size ([x,y]:List Value).toArray:=.mk' (up (nT hz) f3)
  have sub:∀c∈[z,TO,i1,i2],zbr X pins H c:=fun c hc'=>hf c (by
   have:c=z\/c=TO\/c=i1\/c=i2:=by simpa using hc'
   rcases this with rfl | rfl | rfl | rfl<;>simp)
  have I2:=I.turnedT (tk:=s.toks) (h':=h') (xs:=[a,b]) (its:=[x,y]) sub (fun c o hcw e=>by
   have hc':c≠z/\c≠TO/\c≠i1/\c≠i2:=by simpa using hcw
   exact up hc'.1 (f6 c o hc'.1 hc'.2.1 hc'.2.2.1 hc'.2.2.2 e)) (Nat.le_refl _) ht (.cons ru1 (.cons ru2 .nil)) zry
  have HT:H s.heap.objs.size=none:=I.hok.fresh (Nat.le_refl _)
  refine ⟨.ref s.heap.objs.size,upd H s.heap.objs.size (.tup [a,b]),I2,rfl,⟨s.heap.objs.size,a,b,rfl,HT,rfl,?_⟩,⟨hz',up D.TIz (f6 _ _ D.TIz D.TITO D.TIi1 D.TIi2 hTI),⟨x,y,up D.TOz f2⟩,up D.i1z f4,up D.i2z f5⟩,fun c hc'=>?_⟩
  . rw [List.getElem?_zip_eq_some];exact ⟨ea,eb⟩
  . rw [z08]
    . exact (hf c hc').1
    . intro e
      have hc'':c=z\/c=TI\/c=TO\/c=i1\/c=i2:=by simpa using hc'
      rcases hc'' with q | q | q | q | q<;>rw [q] at e
      . exact nT hz e.symm
      . exact nT hTI e.symm
      . exact nT hTO e.symm
      . exact nT h1 e.symm
      . exact nT h2 e.symm
 done:=by
  intro X hP hw hK hc i pins s U H E I hf st hg
  subst hP hw hK
  obtain ⟨⟨hS1,hS2⟩,hle⟩:=hg
  obtain ⟨hz,hTI,⟨a0,b0,hTO⟩,h1,h2⟩:=st
  obtain ⟨its1,r1,p1,z1⟩:=I.tuple (.inl hS1)
  obtain ⟨its2,r2,p2,z2⟩:=I.tuple (.inl hS2)
  have le1:=r1.length
  have le2:=r2.length
  rw [List.length_zip] at hle
  by_cases hx:xs.length<=i
  . have sub:∀c∈[z,i1],zbr X pins H c:=fun c hc'=>hf c (by
     have:c=z\/c=i1:=by simpa using hc'
     rcases this with rfl | rfl<;>simp)
    refine zi9 (I.ok.hd hc) D hz hTI hTO h1 p1 (by simp;omega) fun h' kp=>⟨rfl,?_⟩
    exact I.turnedN (tk:=s.toks) sub fun c o hcw e=>by
     have hc':c≠z/\c≠i1:=by simpa using hcw
     exact kp c o hc'.1 hc'.2 e
  . obtain ⟨a,ea⟩:∃a,xs[i]?=some a:=⟨xs[i]'(by omega),by simp⟩
    obtain ⟨x,q1,ru1⟩:=r1.get ea
    have sub:∀c∈[z,TO,i1,i2],zbr X pins H c:=fun c hc'=>hf c (by
     have:c=z\/c=TO\/c=i1\/c=i2:=by simpa using hc'
     rcases this with rfl | rfl | rfl | rfl<;>simp)
    refine zib (I.ok.hd hc) D hz hTI hTO h1 h2 p1 p2 (x:=x) (by simpa using q1) (by simp;omega) fun h' kp=>⟨rfl,?_⟩
    exact I.turnedN (tk:=s.toks) sub fun c o hcw e=>by
     have hc':c≠z/\c≠TO/\c≠i1/\c≠i2:=by simpa using hcw
     exact kp c o hc'.1 hc'.2.1 hc'.2.2.1 hc'.2.2.2 e
 self:=fun A i s Q E st h=>wpAny_pyIter_zip (TI:=TI) (TO:=TO) (f0:=.none) st.1 h
noncomputable def zvs (ta:TA):TI:=fun U H R=>ta U H fun vs H1=>match vs with
 | [.ref l1,.ref l2]=>∃xs ys,Rd H1 l1 (.tup xs)/\Rd H1 l2 (.tup ys)/\R (ItP (fun H=>Rd H l1 (.tup xs)/\Rd H l2 (.tup ys)) (xs.zip ys)) H1
 | _=>False
section
variable {X:Cx} {a b:Expr} {ta:TA} {p pos tpos:Pos} {elts:List Expr} {k:Nat}
theorem zkx (hg:Gl X "zip") (hm:X.mg "zip"=none) (ha:PA X [a,b] ta) (hs:starEach [a,b] X.env=[(false,eval a X.env),(false,eval b X.env)]:=by rfl) (hs2:starEach [b] X.env=[(false,eval b X.env)]:=by rfl) :
  PI X (.Tuple elts k tpos) (.Call (.Name "zip" p) [a,b] [] pos) (zvs ta):=by
 intro pins s U H R I h
 refine Call_ (z6x I hg hm boot_zip (PyProof.Rows.callWith_type1 (thn (ha pos pins s U H _ I h) fun us s1 ⟨vs,H1,I1,r1,q1⟩=>?_) (by rw [hs,hs2]) (by rw [hs2];rfl)))
 dsimp only at q1
 split at q1
 . rename_i l1 l2
   obtain ⟨xs,ys,e1,e2,q⟩:=q1
   obtain ⟨u,w',rfl,ru,rw'⟩:=zn7 r1
   cases ru;cases rw'
   obtain ⟨its1,rr1,p1,_⟩:=I1.tuple (.inl e1)
   obtain ⟨its2,rr2,p2,_⟩:=I1.tuple (.inl e2)
   have lt1:l1<s1.heap.objs.size:=by obtain ⟨o,ho,_⟩:=p1;exact Heap.lt_size ho
   have lt2:l2<s1.heap.objs.size:=by obtain ⟨o,ho,_⟩:=p2;exact Heap.lt_size ho
   refine callType_new F.called_zip (by decide) (F.typeCall_zip_2 _ _) (F.newCall_zip_2 _ _) (fun obj=>F.args_object_init_3 obj _ _) F.entry_zip_new (zfa l1 l2 its1.toArray its2.toArray) ⟨p1,p2,?_⟩
   have g4:=zi3 [z07 l1 0,z07 l2 0,z0i (.ref s1.heap.objs.size) (.ref (s1.heap.objs.size+1)),z0i .none .none] (z65 (s1.heap.objs.size+2) (s1.heap.objs.size+3) .none) [] s1.heap rfl
   have g3:=zi3 [z07 l1 0,z07 l2 0,z0i (.ref s1.heap.objs.size) (.ref (s1.heap.objs.size+1))] (z0i .none .none) [z65 (s1.heap.objs.size+2) (s1.heap.objs.size+3) .none] s1.heap rfl
   have g2:=zi3 [z07 l1 0,z07 l2 0] (z0i (.ref s1.heap.objs.size) (.ref (s1.heap.objs.size+1))) [z0i .none .none,z65 (s1.heap.objs.size+2) (s1.heap.objs.size+3) .none] s1.heap rfl
   have g1:=zi3 [z07 l1 0] (z07 l2 0) [z0i (.ref s1.heap.objs.size) (.ref (s1.heap.objs.size+1)),z0i .none .none,z65 (s1.heap.objs.size+2) (s1.heap.objs.size+3) .none] s1.heap rfl
   have g0:=zi3 [] (z07 l1 0) [z07 l2 0,z0i (.ref s1.heap.objs.size) (.ref (s1.heap.objs.size+1)),z0i .none .none,z65 (s1.heap.objs.size+2) (s1.heap.objs.size+3) .none] s1.heap rfl
   have kp:∀c o,s1.heap.get? c=some o->(zN s1.heap (zvr s1.heap.objs.size l1 l2)).get? c=some o:=fun c o e=>zcs _ e
   refine ⟨⟨_,g4,rfl⟩,?_⟩
   refine wpAny_pyIter_zip (TI:=s1.heap.objs.size+2) (TO:=s1.heap.objs.size+3) (f0:=.none) g4 ⟨s1.heap.objs.size+4,[s1.heap.objs.size+4,s1.heap.objs.size+2,s1.heap.objs.size+3,s1.heap.objs.size,s1.heap.objs.size+1],_,_,H1,rfl,I1.kept (t':=s1.toks) kp,zfb (zgf lt1 lt2),⟨g4,g2,⟨_,_,g3⟩,g0,g1⟩,fun c hc=>?_,q⟩
   have hc':s1.heap.objs.size<=c:=by
    have:c=s1.heap.objs.size+4\/c=s1.heap.objs.size+2\/c=s1.heap.objs.size+3\/c=s1.heap.objs.size\/c=s1.heap.objs.size+1:=by simpa using hc
    rcases this with q | q | q | q | q<;>rw [q]<;>first | exact Nat.le_add_right _ _ | exact Nat.le_refl _
   exact I1.fpOk hc' (I1.hok.fresh hc')
 . exact q1.elim
end
noncomputable def zky (fs:DE->R (List D)):DE->R (List D):=fun ρ=>(fs ρ).bind fun ds=>R.of (match ds with
 | [.tup es,.tup gs]=>some ((es.zip gs).map fun p=>D.tup [p.1,p.2])
 | _=>none)
theorem zvt {X:Cx} {EX:XW} {elts:List Expr} {k:Nat} {a b:Expr} {p pos tpos:Pos} {fs:DE->R (List D)} (hg:Gl X "zip") (hm:X.mg "zip"=none) (ha:QA X EX [a,b] fs) (hs:starEach [a,b] X.env=[(false,eval a X.env),(false,eval b X.env)]:=by rfl) (hs2:starEach [b] X.env=[(false,eval b X.env)]:=by rfl) :
  QI X EX false (.Tuple elts k tpos) (.Call (.Name "zip" p) [a,b] [] pos) (zky fs):=⟨(zkx hg hm ha.h hs hs2).imp fun U H Q ⟨sx,ρ,H0,s,e,h⟩=>by
 unfold zky at h
 rw [Rk.bind] at h
 refine TAd.go sx s e h fun ds h vs H1 H1' s1 e1 r1=>?_
 obtain ⟨es,hd,h⟩:=h.of
 split at hd<;>first | cases hd | skip
 obtain ⟨x,y,rfl,q1,q2⟩:=r1.duo
 obtain ⟨l,xs,rfl,hl,rl⟩:=q1.tup
 obtain ⟨l',ys,rfl,hl',rl'⟩:=q2.tup
 exact ⟨xs,ys,.inl (e1.2.1 _ _ hl),.inl (e1.2.1 _ _ hl'),h _ H1 H1' s1 e1 (zt7 (fun H s=>⟨.inl (s _ _ hl),.inl (s _ _ hl')⟩) rl rl')⟩⟩
noncomputable def y0r (K:Frag):R2:=fun x y H Q=>∃ns ms b,RD K H (L ns) x/\RD K H (L ms) y/\z2b (ns.map D.int) (ms.map D.int)=some b/\Q (.bl b) H
theorem RcLt.lists {A:Around} {s:Shared} {l b:Addr} {items items2:Array Value} {r:Bool} (hl:s.heap.IsList l items) (hb:s.heap.IsList b items2) (hL:LexR A.in1 s items.toList items2.toList r) (hu:A.units<cLine):RcLt A s (.ref l) (.ref b) r:=fun prog w E Q h=>by
 obtain ⟨⟨_,dd,_,sl⟩,ho,hc,n,hd⟩:=id hl
 obtain ⟨⟨_,dd2,_,sl2⟩,ho2,hc2,n2,hd2⟩:=id hb
 cases hc;cases hd;cases hc2;cases hd2
 exact richCompare_meets_room (op:=.Lt) ⟨_,ho,rfl⟩ ⟨_,ho2,rfl⟩ PySem.F.slot_list_lt PySem.F.entry_list_lt (PySem.F.args_list_lt_2 _ _) (zhy l b items items2 n n2 dd dd2 sl sl2 r) ⟨ho,ho2,hL,nofun,h⟩ hu
theorem zzl {X:Cx} (hu:X.A.units+64<cLine):OpR X (compareOp .Lt) (y0r X.K):=by
 rintro pins s U H x y v u Q I rx ry ⟨ns,ms,b,h1,h2,hb,q⟩
 obtain ⟨a,xs,rfl,ha,ra⟩:=h1.lst
 obtain ⟨c,ys,rfl,hc,rc⟩:=h2.lst
 cases rx;cases ry
 obtain ⟨us,v1,p1,_⟩:=I.list (.of ha)
 obtain ⟨vs,v2,p2,_⟩:=I.list (.of hc)
 have hn:X.A.in1.units+1<cLine:=by show X.A.units+1+1<cLine;omega
 refine RcLt.lists p1.isList p2.isList (zhg I (n:=1) hn (fun {d e x y u v b} d1 e1 hd r1 r2 q1 q2 hb=>?_) (z6q ns).1 (z6q ms).1 (by rw [(z6q ns).2];decide) ra rc v1 v2 hb) (by omega) X.prog X.w X.xe _ ⟨.bl b,H,I,rfl,q⟩
 exact zlz I 1 hn d1 e1 hd r1 r2 q1 q2 hb
noncomputable def zvu:D->D->Option D
 | .lst ds,.lst es=>match z11 ds,z11 es with
  | some ns,some ms=>(z2b (ns.map D.int) (ms.map D.int)).map D.bl
  | _,_=>none
 | _,_=>none
theorem zvv {K:Frag}:OpD K false zvu (y0r K):=by
 intro H0 H x y d e z Q s rx ry ho k
 unfold zvu at ho
 split at ho<;>first | (cases ho;done) | skip
 split at ho<;>first | (cases ho;done) | skip
 rename_i ns ms h1 h2
 obtain ⟨b,hb,rfl⟩:=Option.map_eq_some_iff.mp ho
 rw [z7p h1] at rx
 rw [z7p h2] at ry
 exact ⟨ns,ms,b,rx.mono s,ry.mono s,hb,k _ H (.pure s (.mkBl _))⟩
end L2
namespace HT
open PySem PySem.Spec PyProof.Rows L2
section
variable {prog:Program} {w:World} {A:Around} {E:Value->Shared->Prop} {s:Shared}
theorem getItem_tuple_all {t sl:Addr} {items:Array Value} {vl vu:Value} {lo hi:Option Int} {Q:Value->Shared->Prop} (ht:IsTup s.heap t items) (hs:s.heap.IsSliceOf sl vl vu .none) (pl:IsPart vl lo) (pu:IsPart vu hi)
  (h0:sIx items.size 0 lo=0) (h1:sIx items.size items.size hi=items.size) (h:Q (.ref t) s):wpAny (model prog w) A (getItem (.ref t) (.ref sl)) Q E s:=by
 have hTs:s.TypeIs (.ref sl) "slice":=let ⟨os,hos,hcs,_⟩:=hs;⟨os,hos,hcs⟩
 have yes:(((sIx items.size 0 lo:Nat):Int)==0&&(1:Int)==1&&(sIx items.size items.size hi - sIx items.size 0 lo)==items.size)=true:=by
  rw [h0,h1];simp
 have call:∀{R:Value->Shared->Prop},R (.ref t) s->wpAny (model prog w) A (call (.builtin "tuple.__getitem__") [.ref t,.ref sl]) R E s:=fun {R} r=>by
  refine wpAny_call_entry PyProof.Rows.slot_tuple_getitem ht.typeIs entry_tuple_getitem ?_ (args_tuple_getitem _ _)
  show wpAny _ _ (Builtin.Tuple.tupleItemsOf (.ref t) >>= _) _ _ s
  refine wpAny_bind (tupleItemsOf_ ht (wpAny_bind (wpAny_typeOf hTs ?_)))
  rw [if_pos (by decide)]
  refine wpAny_bind (z3h hs pl pu ?_)
  show wpAny _ _ (if (((sIx items.size 0 lo:Nat):Int)==0&&(1:Int)==1&&(sIx items.size items.size hi - sIx items.size 0 lo)==items.size)=true then _ else _) _ _ s
  rw [if_pos yes]
  refine wpAny_bind ?_
  unfold Builtin.Tuple.tupleIsExact
  refine wpAny_bind (wpAny_typeOf ht.typeIs (wpAny_pure ?_))
  rw [if_pos (by decide)]
  exact wpAny_bind (wpAny_rule (wpAny_pure ⟨_,rfl,r⟩))
 unfold getItem
 try with_reducible refine wpAny_holding ?_
 first | refine wpAny_bind (wpAny_pure ?_) | skip
 refine wpAny_bind (wpAny_sequenceKey ht.typeIs (by decide) (wpAny_bind (wpAny_callSpecial?_slot (name:=Str.ofString "__getitem__") ht.typeIs PyProof.Rows.slot_tuple_getitem (call (wpAny_pure h)))))
end
end HT
namespace L2
open PySem PySem.Spec PyProof.Rows
def y0s (K:Frag):V->Option Int->Option Int->Hp->VK->Prop:=fun x lo hi H Q=>∃a xs,x=.ref a/\SqT K H a xs /\
 ((HT.sIx xs.length 0 lo=0/\HT.sIx xs.length xs.length hi=xs.length)->Q (.ref a) H)/\(¬(HT.sIx xs.length 0 lo=0/\HT.sIx xs.length xs.length hi=xs.length)->∀p,H p=none->Q (.ref p) (upd H p (.tup (zj0 xs lo hi))))
theorem zps {X:Cx}:SlR X (y0s X.K):=by
 intro pins s U H x v vl vu lo hi sl Q I rx hs pl pu h
 obtain ⟨a,xs,rfl,hx,q1,q2⟩:=h
 by_cases hw:HT.sIx xs.length 0 lo=0/\HT.sIx xs.length xs.length hi=xs.length
 . cases rx
   obtain ⟨its,r,ht,hz⟩:=I.tuple hx
   have hlen:its.toArray.size=xs.length:=by rw [List.size_toArray];exact r.length.symm
   refine ⟨"tuple",_,PyProof.Rows.slot_tuple_getitem.lookup,ht.typeIs,?_⟩
   exact HT.getItem_tuple_all ht hs pl pu (by rw [hlen];exact hw.1) (by rw [hlen];exact hw.2) ⟨.ref a,H,I,rfl,q1 hw⟩
 . exact zrd pins s U H _ v vl vu lo hi sl Q I rx hs pl pu ⟨a,xs,rfl,hx,hw,q2 hw⟩
noncomputable def zvw:D->Option Int->Option Int->Option D
 | .tup ds,lo,hi=>some (.tup (if HT.sIx ds.length 0 lo=0/\HT.sIx ds.length ds.length hi=ds.length then ds else z86 ds lo hi))
 | _,_,_=>none
theorem zpt {K:Frag}:SlD K false zvw (y0s K):=by
 intro H0 H x d z lo hi Q s r ho k
 cases d<;>simp only [zvw] at ho<;>first | (cases ho;done) | skip
 cases ho
 obtain ⟨a,xs,rfl,ha,ra⟩:=r.tup
 have hl:=ra.length
 refine ⟨a,xs,rfl,.of (s _ _ ha),fun hw=>?_,fun hw p hp=>?_⟩
 . rw [<-hl] at hw
   rw [if_pos hw] at k
   refine k _ _ (.pure s ?_)
   simp only [RD]
   exact ⟨a,xs,rfl,ha,ra⟩
 . rw [<-hl] at hw
   rw [if_neg hw] at k
   refine k _ _ (.val (Same.upd_new hp) (.new s hp) ?_)
   simp only [RD]
   exact ⟨p,zj0 xs lo hi,rfl,z0d,(ra.cut lo hi).mono (Same.upd_new (s.none hp))⟩
open PySem.W in
noncomputable def za6 (tb:String->Option Builtin) (p:Program) (w:World) (m:Nat) (ann:Option Value):Nat->SharedT->Thread->Option SharedT
 | 0,_,_=>none
 | n+1,s,t=>match through t with
  | true=>some s
  | false=>match stepOk m ann t with
   | false=>none
   | true=>match stepT (denote tb) p w s t with
    | some (s',t')=>za6 tb p w m ann n s' t'
    | none=>none
open PySem.W in
theorem z8v {tb:String->Option Builtin} {p:Program} {w:World} {m:Nat} {ann:Option Value}:∀(n:Nat) {s s':SharedT} {t:Thread},za6 tb p w m ann n s t=some s'->topRun tb p w m ann n s.abs t=some s'.abs
 | 0,_,_,_,h=>nomatch h
 | n+1,s,s',t,h=>by
  unfold za6 at h
  unfold topRun
  cases a:through t with
  | true=>rw [a] at h;cases h;rfl
  | false=>
   rw [a] at h
   cases b:stepOk m ann t with
   | false=>rw [b] at h;cases h
   | true=>
    rw [b] at h
    cases c:stepT (denote tb) p w s t with
    | none=>rw [c] at h;cases h
    | some z=>
     obtain ⟨s2,t2⟩:=z
     rw [c] at h
     rw [stepT_spec c]
     exact z8v n h
open PySem.W in
noncomputable def zmn:List Obj->Nat->BT->BT
 | [],_,t=>t
 | o::l,i,t=>zmn l (i+1) (t.ins i o)
open PySem.W in
noncomputable def bootS (w:World) (os:OsState):SharedT:=⟨zmn (boot_heap w.params).objs.toList 0 .nil,(boot_heap w.params).objs.size,(boot_heap w.params).life,Array.mk [],boot_drawn,boot_toks,os⟩
open PySem.W in
noncomputable def seenAt (p q:Program) (loose:List Str) (Xt:Shared->Bool) {α:Type} (Yf:Shared->α) (w:World) (t:Shared):=
 (staticsOk (importedModules p.main.body) (boot_heap w.params) t.heap&&namesBound p t.heap&&gensDone t&&laidKept (boot_heap w.params) t.heap,openSeen q loose (importedModules p.main.body) Xt true t,Yf t)
open PySem.W in
noncomputable def outAt (p q:Program) (loose:List Str) (Xt:Shared->Bool) {α:Type} (Yf:Shared->α) (N:Nat) (w:World) (os:OsState):=
 (za6 treeTable p w (boot_heap w.params).objs.size ((boot_heap w.params).nsMap mainGlobals "__annotations__") N (bootS w os) (topStub p)).map fun s=>seenAt p q loose Xt Yf w s.abs
open PySem.W in
theorem zkz:∀(w:World) (os:OsState),(bootS w os).abs=⟨boot_heap w.params,Array.mk [],boot_drawn,boot_toks,os⟩:=fun _ _=>by kernel_rfl
open PySem.W in
theorem zpu:∀w:World,(boot_heap w.params).isNs mainGlobals=true:=fun _=>by kernel_rfl
open PySem.W in
theorem zpv {p q:Program} {loose:List Str} {Xt:Shared->Bool} {α:Type} {Yf:Shared->α} {Ya:World->α} {N:Nat} (e:opening p=plainProg p.main.scope.names) (hN:Nat.ble 600 N=true)
  (f:∀s,fenceModules? p s=some s) (h:∀w os,outAt p q loose Xt Yf N w os=some (true,openGood q loose,Ya w)):LeftO p q loose Xt Yf Ya N:=fun w=>by
 obtain ⟨⟨hp,gs,d,k,os⟩,a,b⟩:=Option.map_eq_some_iff.mp (boot_open e hN f w)
 obtain ⟨rfl,rfl,rfl,rfl⟩:hp=boot_heap w.params/\gs=Array.mk []/\d=boot_drawn/\k=boot_toks:=by simpa using b
 obtain ⟨s,r,c⟩:=Option.map_eq_some_iff.mp (h w os)
 have r2:=z8v N r
 rw [zkz] at r2
 obtain ⟨l1,l2,l3⟩:_/\_/\_:=by simpa only [seenAt,Prod.mk.injEq] using c
 have t:topFrom treeTable p w N ⟨boot_heap w.params,Array.mk [],boot_drawn,boot_toks,os⟩=some s.abs:=by
  unfold topFrom
  dsimp only
  rw [zpu,r2]
  show (match staticsOk (importedModules p.main.body) (boot_heap w.params) s.abs.heap&&namesBound p s.abs.heap&&gensDone s.abs&&laidKept (boot_heap w.params) s.abs.heap with | true=>_ | false=>_)=_
  rw [l1]
 unfold openEnds
 rw [a]
 show (topFrom treeTable p w N _).map _=_
 rw [t]
 exact congrArg some (Prod.ext l2 l3)
abbrev vs (x:String) (t:Nat):Value:=.str (Str.ofString x) t
abbrev en (P:Params) (x:String) (t:Nat) (v:Value):DictEntry:=⟨PyData.keyHash P (Str.ofString x),.str (Str.ofString x) t,v⟩
abbrev oT (l:List Value):Obj:={ cls:=.type "tuple",data:=.seq l.toArray }
abbrev oD (l:List DictEntry) (n:Nat):Obj:={ cls:=.type "dict",data:=.dict l.toArray n }
abbrev oF (st:Stmt) (x q:String) (dV kV doc pm:Value) (an:Option Addr) (cd ct:Value):Obj:={ cls:=.type "function",data:=.func (PySem.W.fnOf (Str.ofString x) (Str.ofString q) (z3a st) (z24 st) (z03 st) dV kV doc pm an cd ct) }
noncomputable def zpw:Stmt->Nat->Stmt
 | .ClassDef _ _ _ b _ _ _ _ _ _ _,j=>b.getD j (.Pass ⟨0,0,0,0⟩)
 | s,_=>s
end L2
namespace Bd
abbrev Vc:=Int×Int
def dt (u v:Vc):Int:=u.1 * v.2 - u.2 * v.1
theorem zpx (a:Vc):dt a a=0:=by simp only [dt];grind
def ng (u:Vc):Vc:=(-u.1,-u.2)
theorem zzm (a c:Vc):dt c a=- dt a c:=by simp only [dt];grind
structure Fr (n:Nat) (R:Nat->Int) (v:Nat->Vc):Prop where
 per:∀k,v (k+n)=ng (v k)
 ini:dt (v 0) (v 1)=1
 rc1:∀k,(v (k+2)).1=R ((k+1) % n) * (v (k+1)).1 - (v k).1
 rc2:∀k,(v (k+2)).2=R ((k+1) % n) * (v (k+1)).2 - (v k).2
 pos:∀i j,i<j->j<i+n->0<dt (v i) (v j)
variable {n:Nat} {R:Nat->Int} {v:Nat->Vc}
theorem Fr.rc (F:Fr n R v) (u:Vc) (k:Nat) :
  dt u (v (k+2))=R ((k+1) % n) * dt u (v (k+1)) - dt u (v k):=by
 simp only [dt,F.rc1 k,F.rc2 k];grind
theorem Fr.one (F:Fr n R v):∀k,dt (v k) (v (k+1))=1
 | 0=>F.ini
 | k+1=>by
  have h:=F.rc (v (k+1)) k
  rw [h,zpx,zzm (v k),F.one k];grind
def gR (n c:Nat) (R:Nat->Int) (k:Nat):Int:=
 if k=c+1 then 1 else
 let o:=if k<=c then k else k - 1
 R o+(if o=c then 1 else 0)+(if o=(c+1) % n then 1 else 0)
theorem sm (q n:Nat):(q+1) * n=q * n+n:=Nat.succ_mul q n
def lin (x:Int) (b a:Vc):Vc:=(x * b.1 - a.1,x * b.2 - a.2)
def v3 (k:Nat):Vc:=if k % 6=0 then (1,0) else if k % 6=1 then (0,1) else if k % 6=2 then (-1,1)
 else if k % 6=3 then (-1,0) else if k % 6=4 then (0,-1) else (1,-1)
theorem y1v (k:Nat):k % 6=0\/k % 6=1\/k % 6=2\/k % 6=3\/k % 6=4\/k % 6=5:=by
 have h:k % 6<6:=Nat.mod_lt _ (by decide)
 revert h
 generalize k % 6=m
 intro h
 rcases m with _ | _ | _ | _ | _ | _ | m
 . exact .inl rfl
 . exact .inr (.inl rfl)
 . exact .inr (.inr (.inl rfl))
 . exact .inr (.inr (.inr (.inl rfl)))
 . exact .inr (.inr (.inr (.inr (.inl rfl))))
 . exact .inr (.inr (.inr (.inr (.inr rfl))))
 . exact absurd h (Nat.not_lt_of_le (Nat.le_add_left 6 m))
theorem fr3:Fr 3 (fun _=>1) v3:=by
 have key:∀k,v3 k=v3 (k % 6):=fun k=>by simp only [v3,Nat.mod_mod]
 have ks:∀k a,v3 (k+a)=v3 ((k % 6+a) % 6):=fun k a=>by rw [key (k+a)];congr 1;lia
 have six:=y1v
 refine ⟨fun k=>?_,rfl,fun k=>?_,fun k=>?_,fun i j h h2=>?_⟩
 . rw [ks k 3,key k];rcases six k with e | e | e | e | e | e<;>rw [e]<;>rfl
 . rw [ks k 2,ks k 1,key k];rcases six k with e | e | e | e | e | e<;>rw [e]<;>rfl
 . rw [ks k 2,ks k 1,key k];rcases six k with e | e | e | e | e | e<;>rw [e]<;>rfl
 . obtain rfl | rfl:j=i+1\/j=i+2:=by lia
   . rw [ks i 1,key i];rcases six i with e | e | e | e | e | e<;>rw [e]<;>decide
   . rw [ks i 2,key i];rcases six i with e | e | e | e | e | e<;>rw [e]<;>decide
def zic (row:List Int) (c:Nat):List Int:=
 let m1:=row.set c (row.getD c 0+1)
 let m2:=m1.set ((c+1) % row.length) (m1.getD ((c+1) % row.length) 0+1)
 m2.take (c+1)++1::m2.drop (c+1)
theorem zid (row:List Int) (c:Nat) (hc:c<row.length):(zic row c).length=row.length+1:=by
 simp only [zic,List.length_append,List.length_take,List.length_set,List.length_cons,List.length_drop];lia
theorem z7r (l:List Int) (i j:Nat) (x:Int) (hi:i<l.length):(l.set i x).getD j 0=if j=i then x else l.getD j 0:=by
 rw [List.getD_eq_getElem?_getD,List.getElem?_set,List.getD_eq_getElem?_getD]
 by_cases e:i=j
 . subst e;simp [hi]
 . rw [if_neg e,if_neg (Ne.symm e)]
theorem zl0 (row:List Int) (c k:Nat) (hc:c<row.length) (hn:2<=row.length) (hk:k<row.length+1) :
  (zic row c).getD k 0=gR row.length c (fun k=>row.getD k 0) k:=by
 have hm:(c+1) % row.length<row.length:=Nat.mod_lt _ (by lia)
 have hne:(c+1) % row.length≠c:=by
  by_cases z:c+1=row.length
  . rw [z,Nat.mod_self];lia
  . rw [Nat.mod_eq_of_lt (by lia)];lia
 have e2:∀j,((row.set c (row.getD c 0+1)).set ((c+1) % row.length) ((row.set c (row.getD c 0+1)).getD ((c+1) % row.length) 0+1)).getD j 0
   = row.getD j 0+(if j=c then 1 else 0)+(if j=(c+1) % row.length then 1 else 0):=fun j=>by
  rw [z7r _ _ _ _ (by rw [List.length_set];exact hm),z7r _ _ _ _ hc,z7r _ _ _ _ hc,if_neg hne]
  by_cases a:j=(c+1) % row.length
  . rw [if_pos a,if_pos a,if_neg (by lia),a];lia
  . rw [if_neg a,if_neg a]
    by_cases b:j=c
    . rw [if_pos b,if_pos b,b];lia
    . rw [if_neg b,if_neg b];lia
 simp only [zic]
 generalize hm2:(row.set c (row.getD c 0+1)).set ((c+1) % row.length) ((row.set c (row.getD c 0+1)).getD ((c+1) % row.length) 0+1)=m2 at e2 ⊢
 have hl:m2.length=row.length:=by rw [<-hm2,List.length_set,List.length_set]
 have ht:(m2.take (c+1)).length=c+1:=by rw [List.length_take,hl];lia
 unfold gR
 by_cases a:k=c+1
 . rw [if_pos a,List.getD_eq_getElem?_getD,List.getElem?_append_right (by lia),ht,a];simp
 . rw [if_neg a]
   by_cases b:k<=c
   . rw [if_pos b]
     show _=row.getD k 0+(if k=c then 1 else 0)+(if k=(c+1) % row.length then 1 else 0)
     rw [<-e2,List.getD_eq_getElem?_getD,List.getElem?_append_left (by lia),List.getElem?_take,if_pos (by lia),List.getD_eq_getElem?_getD]
   . rw [if_neg b]
     show _=row.getD (k-1) 0+(if k-1=c then 1 else 0)+(if k-1=(c+1) % row.length then 1 else 0)
     obtain ⟨t,rfl⟩:∃t,k=c+1+(t+1):=⟨k - (c+2),by lia⟩
     rw [<-e2,List.getD_eq_getElem?_getD,List.getElem?_append_right (by lia),ht,List.getD_eq_getElem?_getD,
      show c+1+(t+1) - (c+1)=t+1 by lia,List.getElem?_cons_succ,List.getElem?_drop,show c+1+(t+1) - 1=c+1+t by lia]
end Bd
namespace Cu
abbrev P2:=Int×Int
abbrev P3:=Int×Int×Int
def sh (at' x:Int):Int:=if x > at' then x+1 else x
def sh2 (c:Int) (p:P2):P2:=(sh c p.1,sh c p.2)
def sh3 (c:Int) (p:P3):P3:=(sh c p.1,sh c p.2.1,sh c p.2.2)
def outer (p:P3):P2:=(p.1,p.2.2)
def z2q (n c:Int):P2:=if c=n - 1 then (0,c) else (c,c+2)
def z8w (n c:Int):P3:=if c=n - 1 then (0,c,n) else (c,c+1,c+2)
structure CInv (n:Int) (ls:List P2) (T:List P3):Prop where
 n3:3<=n
 tri:∀a c b,(a,c,b)∈T->0<=a/\a<c/\c<b/\b<=n - 1/\((a,c)∈ls\/c=a+1)/\((c,b)∈ls\/b=c+1)
 lin:∀a b,(a,b)∈ls->0<=a/\a+2<=b/\b<=n - 1/\¬(a=0/\b=n - 1)
 nc:∀a b c d,(a,b)∈ls->(c,d)∈ls->¬(a<c/\c<b/\b<d)
 nd:ls.Nodup
 prm:(T.map outer).Perm ((0,n - 1)::ls)
theorem y0t:CInv 3 [] [(0,1,2)] where
 n3:=by omega
 tri:=fun a c b h=>by simp only [List.mem_cons,Prod.mk.injEq,List.not_mem_nil,or_false] at h;omega
 lin:=fun a b h=>by simp at h
 nc:=fun a b c d h=>by simp at h
 nd:=List.nodup_nil
 prm:=.refl _
theorem z5p {c:Int} {ls:List P2} {x y:Int} (h:(x,y)∈ls.map (sh2 c)):∃a b,(a,b)∈ls/\x=sh c a/\y=sh c b:=by
 obtain ⟨⟨a,b⟩,hm,e⟩:=List.mem_map.mp h
 simp only [sh2,Prod.mk.injEq] at e
 exact ⟨a,b,hm,e.1.symm,e.2.symm⟩
theorem zie {c:Int} {ls:List P2} {a b:Int} (h:(a,b)∈ls):(sh c a,sh c b)∈ls.map (sh2 c):=List.mem_map.mpr ⟨(a,b),h,rfl⟩
theorem zmo {c x y:Int} (h:sh c x=sh c y):x=y:=by
 unfold sh at h;split at h<;>split at h<;>lia
theorem CInv.grow {n:Int} {ls:List P2} {T:List P3} (I:CInv n ls T) (c:Int) (h0:0<=c) (h1:c<n):CInv (n+1) (ls.map (sh2 c)++[z2q n c]) (T.map (sh3 c)++[z8w n c]) where
 n3:=by have:=I.n3;lia
 tri:=fun x y z h=>by
  have h3:=I.n3
  rcases List.mem_append.mp h with h | h
  . obtain ⟨⟨a,m,b⟩,hm,e⟩:=List.mem_map.mp h
    simp only [sh3,Prod.mk.injEq] at e
    obtain ⟨rfl,rfl,rfl⟩:=e
    obtain ⟨g1,g2,g3,g4,g5,g6⟩:=I.tri a m b hm
    have k1:0<=sh c a:=by unfold sh;split<;>lia
    have k2:sh c a<sh c m:=by unfold sh;split<;>split<;>lia
    have k3:sh c m<sh c b:=by unfold sh;split<;>split<;>lia
    have k4:sh c b<=n+1 - 1:=by unfold sh;split<;>lia
    have side:∀u w,u+1=w->w<=n - 1->(sh c u,sh c w)∈ls.map (sh2 c)++[z2q n c]\/sh c w=sh c u+1:=fun u w e hw=>by
     by_cases q:u=c
     . left
       refine List.mem_append.mpr (.inr ?_)
       have e1:sh c u=c:=by unfold sh;split<;>lia
       have e2:sh c w=c+2:=by unfold sh;split<;>lia
       rw [e1,e2];unfold z2q;rw [if_neg (by lia)];simp
     . right;unfold sh;split<;>split<;>lia
    refine ⟨k1,k2,k3,k4,?_,?_⟩
    . rcases g5 with g5 | g5
      . exact .inl (List.mem_append.mpr (.inl (zie g5)))
      . exact side a m (by lia) (by lia)
    . rcases g6 with g6 | g6
      . exact .inl (List.mem_append.mpr (.inl (zie g6)))
      . exact side m b (by lia) (by lia)
  . simp only [List.mem_singleton] at h
    unfold z8w at h
    by_cases q:c=n - 1
    . rw [if_pos q] at h
      simp only [Prod.mk.injEq] at h
      obtain ⟨rfl,rfl,rfl⟩:=h
      refine ⟨by lia,by lia,by lia,by lia,.inl (List.mem_append.mpr (.inr ?_)),.inr (by lia)⟩
      unfold z2q;rw [if_pos q];simp
    . rw [if_neg q] at h
      simp only [Prod.mk.injEq] at h
      obtain ⟨rfl,rfl,rfl⟩:=h
      exact ⟨by lia,by lia,by lia,by lia,.inr rfl,.inr (by lia)⟩
 lin:=fun x y h=>by
  have h3:=I.n3
  rcases List.mem_append.mp h with h | h
  . obtain ⟨a,b,hm,rfl,rfl⟩:=z5p h
    obtain ⟨g1,g2,g3,g4⟩:=I.lin a b hm
    unfold sh;split<;>split<;>lia
  . simp only [List.mem_singleton] at h
    unfold z2q at h
    by_cases q:c=n - 1
    . rw [if_pos q] at h;simp only [Prod.mk.injEq] at h;lia
    . rw [if_neg q] at h;simp only [Prod.mk.injEq] at h;lia
 nc:=fun x y z w h h'=>by
  have h3:=I.n3
  rcases List.mem_append.mp h with h | h<;>rcases List.mem_append.mp h' with h' | h'
  . obtain ⟨a,b,hm,rfl,rfl⟩:=z5p h
    obtain ⟨a',b',hm',rfl,rfl⟩:=z5p h'
    have:=I.nc a b a' b' hm hm'
    unfold sh;split<;>split<;>split<;>split<;>lia
  . obtain ⟨a,b,hm,rfl,rfl⟩:=z5p h
    simp only [List.mem_singleton] at h'
    have:=I.lin a b hm
    unfold z2q at h'
    by_cases q:c=n - 1
    . rw [if_pos q] at h';simp only [Prod.mk.injEq] at h';unfold sh;split<;>split<;>lia
    . rw [if_neg q] at h';simp only [Prod.mk.injEq] at h';unfold sh;split<;>split<;>lia
  . obtain ⟨a,b,hm,rfl,rfl⟩:=z5p h'
    simp only [List.mem_singleton] at h
    have:=I.lin a b hm
    unfold z2q at h
    by_cases q:c=n - 1
    . rw [if_pos q] at h;simp only [Prod.mk.injEq] at h;unfold sh;split<;>split<;>lia
    . rw [if_neg q] at h;simp only [Prod.mk.injEq] at h;unfold sh;split<;>split<;>lia
  . simp only [List.mem_singleton] at h h'
    rw [<-h'] at h;simp only [Prod.mk.injEq] at h;lia
 nd:=by
  have h3:=I.n3
  rw [List.nodup_append]
  refine ⟨?_,by simp,fun p hp q hq=>?_⟩
  . refine (List.pairwise_map.mpr (I.nd.imp fun {p q} hne e=>hne ?_))
    simp only [sh2,Prod.mk.injEq] at e
    exact Prod.ext (zmo e.1) (zmo e.2)
  . simp only [List.mem_singleton] at hq
    subst hq
    obtain ⟨x,y⟩:=p
    obtain ⟨a,b,hm,rfl,rfl⟩:=z5p hp
    have:=I.lin a b hm
    intro e
    unfold z2q at e
    by_cases q:c=n - 1
    . rw [if_pos q] at e;simp only [Prod.mk.injEq] at e;unfold sh at e;split at e<;>split at e<;>lia
    . rw [if_neg q] at e;simp only [Prod.mk.injEq] at e;unfold sh at e;split at e<;>split at e<;>lia
 prm:=by
  have h3:=I.n3
  have e1:(T.map (sh3 c)++[z8w n c]).map outer=(T.map outer).map (sh2 c)++[outer (z8w n c)]:=by
   simp only [List.map_append,List.map_map,List.map_cons,List.map_nil];rfl
  have p1:((T.map outer).map (sh2 c)++[outer (z8w n c)]).Perm (((0,n - 1)::ls).map (sh2 c)++[outer (z8w n c)]):=(I.prm.map (sh2 c)).append_right _
  rw [e1]
  refine p1.trans ?_
  have e0:sh c 0=0:=by unfold sh;split<;>lia
  rw [List.map_cons]
  by_cases q:c=n - 1
  . have e2:sh2 c (0,n - 1)=z2q n c:=by
     unfold z2q sh2;rw [if_pos q];simp only [Prod.mk.injEq];exact ⟨e0,by unfold sh;split<;>lia⟩
    have e3:outer (z8w n c)=(0,n+1 - 1):=by unfold z8w outer;rw [if_pos q];simp
    rw [e2,e3]
    refine (List.perm_append_comm (l₁:=_::_) (l₂:=[_])).trans ?_
    refine List.Perm.cons _ ?_
    exact (List.perm_append_comm (l₁:=[z2q n c]) (l₂:=ls.map (sh2 c)))
  . have e2:sh2 c (0,n - 1)=(0,n+1 - 1):=by
     unfold sh2;simp only [Prod.mk.injEq];exact ⟨e0,by unfold sh;split<;>lia⟩
    have e3:outer (z8w n c)=z2q n c:=by unfold z8w z2q outer;rw [if_neg q,if_neg q]
    rw [e2,e3];exact .refl _
end Cu
namespace Cu
open L2 (mxD zhu T2 T3 so3 ze8 z6n)
def pk (x:Int) (p l:P2):Bool:=decide (l.1=x)&&(decide (l.2<=p.2)&&!(decide (l.1=p.1)&&decide (l.2=p.2)))
theorem zvx {x:Int} {p l:P2}:pk x p l=true↔l.1=x/\l.2<=p.2/\¬(l.1=p.1/\l.2=p.2):=by
 simp only [pk,Bool.and_eq_true,decide_eq_true_eq,Bool.not_eq_true',Bool.and_eq_false_iff,decide_eq_false_iff_not]
 constructor
 . rintro ⟨h1,h2,h3⟩;exact ⟨h1,h2,fun h=>by rcases h3 with z | z<;>lia⟩
 . rintro ⟨h1,h2,h3⟩
   refine ⟨h1,h2,?_⟩
   by_cases z:l.1=p.1
   . exact .inr fun w=>h3 ⟨z,w⟩
   . exact .inl z
def ends (x:Int) (p:P2) (ls:List P2):List Int:=(ls.filter (pk x p)).map (·.2)
theorem mem_ends {x:Int} {p:P2} {ls:List P2} {y:Int}:y∈ends x p ls↔(x,y)∈ls/\y<=p.2/\¬(x=p.1/\y=p.2):=by
 simp only [ends,List.mem_map,List.mem_filter,zvx]
 constructor
 . rintro ⟨⟨a,b⟩,⟨h1,h2,h3,h4⟩,rfl⟩
   simp only at h2 h3 h4 ⊢
   subst h2;exact ⟨h1,h3,h4⟩
 . rintro ⟨h1,h2,h3⟩;exact ⟨(x,y),⟨h1,rfl,h2,h3⟩,rfl⟩
section
variable {n:Int} {ls ls':List P2} {T:List P3} {a b c:Int}
theorem CInv.beh1 (I:CInv n ls T) (p:ls'.Perm ls) (h:(a,c,b)∈T):mxD (a+1) (ends a (a,b) ls')=c:=by
 obtain ⟨g1,g2,g3,g4,g5,g6⟩:=I.tri a c b h
 have key:∀y∈ends a (a,b) ls',y<=c:=fun y hy=>by
  obtain ⟨m1,m2,m3⟩:=mem_ends.mp hy
  have m1:=p.mem_iff.mp m1
  simp only at m2 m3
  have:¬y=b:=fun z=>m3 (by simpa using z)
  rcases g6 with g6 | g6
  . have:=I.nc a y c b m1 g6;lia
  . lia
 refine zhu key ?_
 rcases g5 with g5 | g5
 . left;exact mem_ends.mpr ⟨p.mem_iff.mpr g5,by simp only;lia,by simp only;lia⟩
 . by_cases z:ends a (a,b) ls'=[]
   . exact .inr ⟨z,by lia⟩
   . obtain ⟨y,hy⟩:=List.exists_mem_of_ne_nil _ z
     have:=key y hy
     obtain ⟨m1,m2,m3⟩:=mem_ends.mp hy
     have:=I.lin a y (p.mem_iff.mp m1);lia
theorem CInv.beh2 (I:CInv n ls T) (p:ls'.Perm ls) (h:(a,c,b)∈T):mxD (c+1) (ends c (a,b) ls')=b:=by
 obtain ⟨g1,g2,g3,g4,g5,g6⟩:=I.tri a c b h
 refine zhu (fun y hy=>(mem_ends.mp hy).2.1) ?_
 rcases g6 with g6 | g6
 . left;exact mem_ends.mpr ⟨p.mem_iff.mpr g6,by simp only;lia,by simp only;lia⟩
 . by_cases z:ends c (a,b) ls'=[]
   . exact .inr ⟨z,by lia⟩
   . obtain ⟨y,hy⟩:=List.exists_mem_of_ne_nil _ z
     obtain ⟨m1,m2,m3⟩:=mem_ends.mp hy
     have:=I.lin c y (p.mem_iff.mp m1);simp only at m2;lia
def thr (T:List P3) (p:P2):P3:=(T.find? fun t=>decide (outer t=p)).getD (0,0,0)
theorem zmp {p:P2} (h:p∈T.map outer):thr T p∈T/\outer (thr T p)=p:=by
 obtain ⟨t,ht,e⟩:=List.mem_map.mp h
 unfold thr
 cases hf:T.find? fun t=>decide (outer t=p) with
 | none=>
  have:=List.find?_eq_none.mp hf t ht
  simp [e] at this
 | some u=>
  have h1:=List.mem_of_find?_eq_some hf
  have h2:=List.find?_some hf
  exact ⟨h1,by simpa using h2⟩
theorem CInv.thr_outer (I:CInv n ls T) {t:P3} (h:t∈T):thr T (outer t)=t:=by
 obtain ⟨h1,h2⟩:=zmp (T:=T) (List.mem_map.mpr ⟨t,h,rfl⟩)
 obtain ⟨a,c,b⟩:=t
 generalize thr T (outer (a,c,b))=u at h1 h2
 obtain ⟨a',c',b'⟩:=u
 simp only [outer,Prod.mk.injEq] at h2
 obtain ⟨rfl,rfl⟩:=h2
 have e1:=I.beh1 (.refl _) h1
 have e2:=I.beh1 (.refl _) h
 rw [e1] at e2
 rw [e2]
theorem CInv.tops (I:CInv n ls T) (p:ls'.Perm ls):(((0,n - 1)::ls').map (thr T)).Perm T:=by
 have q:((0,n - 1)::ls').Perm (T.map outer):=(p.cons _).trans I.prm.symm
 refine (q.map (thr T)).trans ?_
 rw [List.map_map]
 have:T.map (thr T∘outer)=T:=by
  conv=>rhs;rw [<-List.map_id T]
  exact List.map_congr_left fun t ht=>I.thr_outer ht
 rw [this]
theorem CInv.top_in (I:CInv n ls T) (p:ls'.Perm ls) {q:P2} (h:q∈(0,n - 1)::ls'):thr T q∈T/\outer (thr T q)=q:=
 zmp ((((p.cons _).trans I.prm.symm).mem_iff).mp h)
theorem CInv.len (I:CInv n ls T):T.length=ls.length+1:=by
 have:=I.prm.length_eq;simpa using this
end
open Classical in
noncomputable def ee (n:Int) (ls:List P2) (x y:Int):Nat:=(if (x,y)∈ls then 2 else 0)+(if y=x+1/\0<=x/\y<=n - 1 then 1 else 0)+(if x=0/\y=n - 1 then 1 else 0)
end Cu
namespace Cu
open Bd (gR zic zl0 zid)
def ind (k:Int) (t:P3):Int:=(if k=t.1 then 1 else 0)+(if k=t.2.1 then 1 else 0)+(if k=t.2.2 then 1 else 0)
def c1 (k:Int):List P3->Int
 | []=>0
 | t::r=>ind k t+c1 k r
end Cu
namespace Bd
def sc (s:Int) (u:Vc):Vc:=(s * u.1,s * u.2)
end Bd
noncomputable section
namespace K83
open PySem PySem.Spec PyProof.Rows L2
def knX:String->Bool:=fun c=>c=="NoFloor"||c=="NoPlace"
def z2c:String->Option Bool:=fun c=>if c="NoFloor" then some true else if c="NoPlace" then some true else none
def z4d:String->Option Bool:=fun c=>if c="NoFloor" then some false else if c="NoPlace" then some true else none
def z2d:String->Option Bool:=fun c=>if c="NoFloor" then some true else if c="NoPlace" then some true else none
def zww:String->Option Bool:=fun c=>if c="NoFloor" then some true else if c="NoPlace" then some false else none
def zwx:String->Option Bool:=fun c=>if c="NoFloor" then some false else if c="NoPlace" then some false else none
def zwy:String->Option Bool:=fun c=>if c="NoFloor" then some false else if c="NoPlace" then some false else none
def z5q:DS->SR:=
 (z3o [true] (zgo (eUn (z4w "int") (z02 0)) (eUn (fun d=>(z85 d).map fun b=>.bl (!b)) (eUn (z4w "bool") (z02 0)))))
def z1n:List D->R D:=mOf false 1 0 z5q
def zbc:DS->SR:=
 (z0z (z2i false 2 [false,true] (eOp dIx (z02 1) (eC (.int 0))))
  (z0z (z2i false 3 [false,true] (eOp dIx (z02 1) (eC (.int 1))))
  (z0z (sIf (bOr (z2r asB (eOp zfi (z02 2) (eC (.int 0)))) (z2r asB (eOp dGe (z02 3) (z02 0))))
   (z3o [] (eC (.bl false)))
   sNx)
  (z3o [true,false,true,true] (eOr (eOp dEq (z02 3) (eOp z2y (z02 2) (eC (.int 1)))) (zgo (eOp dEq (z02 2) (eC (.int 0))) (eOp dEq (z02 3) (eOp z5j (z02 0) (eC (.int 1))))))))))
def z3v:List D->R D:=mOf false 2 2 zbc
def z36:DE->R Bool:=
 (zqg (z2r asB (eOp dEq (eOp dIx (z02 0) (eC (.int 0))) (z02 1))) (zqg (z2r asB (eOp dLe (eOp dIx (z02 0) (eC (.int 1))) (eOp dIx (z02 2) (eC (.int 1))))) (z2r asB (eOp dNe (z02 0) (z02 2)))))
def z37:DE->R D:=
 (eOp dIx (z02 0) (eC (.int 1)))
def z3w:DS->SR:=
 (z0z (z2i true 3 [true,true,true] (z3b (iL (z02 2)) b1 [0,1] z36 z37))
  (z3o [true,false,false,true] (eCB zf4 (z01 (z02 3) (z01 (eOp z2y (z02 0) (eC (.int 1))) z0h)))))
def z18:List D->R D:=mOf false 3 1 z3w
def z2s:DE->R D:=
 (eOp zo2 (eOp dIx (z02 1) (z02 0)) (eOp dIx (z02 1) (eOp z5j (z02 2) (z02 0))))
def z12:DS->SR:=
 (zfh "list" zcm 1 [false,true,true] (z01 (eCB zh3 (z01 (z3b (zk1 (z01 (eC (.int 1)) (z01 (z02 2) z0h))) b1 [1,2] z52 z2s) z0h)) z0h))
def z3k:DS->SR:=
 (z0z (z2i true 1 [] (z76 (z01 (eC (.int 0)) (z01 (eC (.int 1)) z0h))))
  (z0z (zlj true [true] (zk1 (z01 (eC (.int 2)) (z01 (z02 0) z0h))) (.n 2) z12)
  (zc9 1)))
def z0s:List D->R D:=mOf true 1 2 z3k
def z7s:DS->SR:=
 (z3o [true,true] (eOp dIx (eOp zaz (eSl dSl (z02 0) (oSo (z02 1)) (oSo (eOp z2y (z02 1) (eC (.int 1))))) (z76 (z01 (eC (.int 0)) z0h))) (eC (.int 0))))
def z1l:List D->R D:=mOf false 2 0 z7s
def z66:DS->SR:=
 (z0z (sIf (z2r z85 (eUn (z4w "bool") (z02 0)))
   (z3o [] (eC (.bl false)))
   sNx)
  (z3o [true] (eUn (z4w "int") (z02 0))))
def z19:List D->R D:=mOf false 1 0 z66
def z3x:DE->R D:=
 (z88 (z01 (eOp z2y (z02 0) (eCB zqk (z01 (eOp zqj (z02 0) (z02 2)) z0h))) (z01 (eOp z2y (z02 1) (eCB zqk (z01 (eOp zqj (z02 1) (z02 2)) z0h))) z0h)))
def z5b:DS->SR:=
 (z0z (z2i true 3 [false,true,true] (z3b (iL (z02 1)) (bT 2) [2] z52 z3x))
  (z0z (sIf (z2r asB (eOp dEq (z02 2) (eOp z5j (z02 0) (eC (.int 1)))))
   (z3o [true,false,false,true] (eOp zaz (z02 3) (z76 (z01 (z88 (z01 (eC (.int 0)) (z01 (eOp z5j (z02 0) (eC (.int 1))) z0h))) z0h))))
   sNx)
  (z3o [false,false,true,true] (eOp zaz (z02 3) (z76 (z01 (z88 (z01 (z02 2) (z01 (eOp z2y (z02 2) (eC (.int 2))) z0h))) z0h))))))
def z1v:List D->R D:=mOf true 3 1 z5b
def z2e:DS->SR:=
 (z2i false 2 [false,true,true,true] (eOp z2y (z02 2) (eOp zo2 (eOp dIx (z02 1) (z02 3)) (eOp dIx (z02 1) (eUn zlm (z02 3))))))
def z0x:DE->R Bool:=
 (z2r asB (eOp dLe (eCB zbt (z01 (z02 1) z0h)) (z02 0)))
def z1b:DS->SR:=
 (z0z (z2i false 2 [] (eC (.int 0)))
  (z0z (zlj true [false,true] (zk1 (z01 (eC (.int 1)) (z01 (eCB zbt (z01 (z02 1) z0h)) z0h))) (.n 3) z2e)
  (zfh "list" zcm 1 [false,false,true] (z01 (z02 2) z0h))))
def z4y:DS->SR:=
 (z0z (z2i true 1 [] (z76 (z01 (eC (.int 0)) (z01 (eC (.int 1)) z0h))))
  (z0z (z3j 1000 z0x z1b)
  (zc9 1)))
def z1x:List D->R D:=mOf true 1 3 z4y
def z0q:DE->R Bool:=
 (z2r asB (eOp zfi (z02 0) (z02 1)))
def z0r:DE->R D:=
 (z02 0)
def z0k:DE->R Bool:=
 (z2r asB (eOp zqj (eCB zbt (z01 (z02 5) z0h)) (eC (.int 0))))
def z0b:DS->SR:=
 (z0z (zf7 5 (.t [2,3]))
  (sIf (z2r asB (eOp zqj (z02 3) (eOp z2y (z02 2) (eC (.int 1)))))
   (z0z (z2i false 6 [false,true,true,true] (eCB zf3 (z01 (z3b (iL (eOp dIx (z02 1) (z02 2))) b1 [3] z0q z0r) z0h)))
  (z0z (sIf (z2r asB (eOp (dIn true) (z02 3) (eOp dIx (z02 1) (z02 6))))
   (z3o [] (z76 z0h))
   sNx)
  (z0z (zfh "list" zcm 4 [false,false,false,false,false,false,true] (z01 (z02 6) z0h))
  (z0z (zfh "list" zcm 5 [false,false,false,true,false,false,true] (z01 (z88 (z01 (z02 6) (z01 (z02 3) z0h))) z0h))
  (zfh "list" zcm 5 [false,false,true,false,false,false,true] (z01 (z88 (z01 (z02 2) (z01 (z02 6) z0h))) z0h))))))
   sNx))
def z0l:DE->R (List D):=
 (zt5 (z01 (eOp dIx (z02 0) (eC (.int 0))) z0h))
def z0c:DE->R D:=
 (z76 (z01 (eOp z2y (z02 0) (eC (.int 1))) z0h))
def z0m:DE->R (List D):=
 (iL (eOp dIx (z02 0) (eC (.int 1))))
def z1d:DS->SR:=
 (z0z (zpr 1 2 3 [true,false,false,false,true,true,true] z0l [] z0c z0m)
  (z0z (z2i true 4 [] (z76 z0h))
  (z0z (z2i true 5 [true] (z76 (z01 (z88 (z01 (eC (.int 0)) (z01 (eOp z5j (eOp dIx (z02 0) (eC (.int 0))) (eC (.int 1))) z0h))) z0h)))
  (z0z (z3j 1000 z0k z0b)
  (zc9 4)))))
def z0a:List D->R D:=mOf true 1 6 z1d
def zbd:DS->SR:=
 (z3o [true,true] (zgo (znv (eC (.int 0)) (zav dLe (eOp dIx (z02 1) (eC (.int 0))) (zav zfi (eOp dIx (z02 1) (eC (.int 1))) (zc7 zfi (z02 0))))) (eUn (fun d=>(z85 d).map fun b=>.bl (!b)) (z0v z3v (z01 (z02 0) (z01 (z02 1) z0h))))))
def z3y:List D->R D:=mOf false 2 0 zbd
def z8x:DS->SR:=
 (z3o [true] (zgo (z0v z1n (z01 (z02 0) z0h)) (znv (eC (.int 3)) (zav dLe (z02 0) (zc7 dLe (eC (.int 60)))))))
def z38:List D->R D:=mOf false 1 0 z8x
def z1z:DE->R Bool:=
 (z2r asB (eOp zfi (eOp dIx (z02 2) (eUn zlm (eC (.int 1)))) (eOp dIx (z02 0) (eC (.int 1)))))
def z20:DS->SR:=
 (zfh "list" zcm 2 [true,true,true] (z01 (z0v z18 (z01 (eOp dIx (z02 2) (eUn zlm (eC (.int 1)))) (z01 (z02 0) (z01 (z02 1) z0h)))) z0h))
def z67:DS->SR:=
 (z0z (z2i true 2 [true] (z76 (z01 (eOp dIx (z02 0) (eC (.int 0))) z0h)))
  (z0z (z3j 1000 z1z z20)
  (z3o [false,false,true] (eCB z7a (z01 (z02 2) z0h)))))
def z23:List D->R D:=mOf false 2 1 z67
def z1h:DS->SR:=
 (z0z (z2i true 2 [false,true,true,true] (z0v z1v (z01 (z02 1) (z01 (z02 2) (z01 (eOp zgw (z02 3) (z02 1)) z0h)))))
  (z2i false 1 [false,true] (eOp z2y (z02 1) (eC (.int 1)))))
def z68:DS->SR:=
 (z0z (z2i false 1 [] (eC (.int 3)))
  (z0z (z2i true 2 [] (z76 z0h))
  (z0z (zlj false [true] (iL (eSl dSl (z02 0) oNo (oSo (eC (.int 57))))) (.n 3) z1h)
  (z3o [false,true,true] (z88 (z01 (z02 1) (z01 (eCB z7a (z01 (eCB z3e (z01 (z02 2) z0h)) z0h)) z0h)))))))
def z1o:List D->R D:=mOf false 1 3 z68
def z4k:DS->SR:=
 (z0z (sIf (bOr (zbs (z2r z85 (eUn (z4w "tuple") (z02 0)))) (bOr (z2r asB (eOp dNe (eCB zbt (z01 (z02 0) z0h)) (eC (.int 2)))) (bOr (zbs (z2r z85 (z0v z19 (z01 (eOp dIx (z02 0) (eC (.int 0))) z0h)))) (zbs (z2r z85 (z0v z19 (z01 (eOp dIx (z02 0) (eC (.int 1))) z0h)))))))
   (z3o [] (eC (.bl false)))
   sNx)
  (z3o [true,true] (zgo (eOp dLe (eC (.int 0)) (eOp dIx (z02 0) (eC (.int 0)))) (zgo (znv (eOp z2y (eOp dIx (z02 0) (eC (.int 0))) (eC (.int 1))) (zav zfi (eOp dIx (z02 0) (eC (.int 1))) (zc7 zfi (z02 1)))) (eOp dNe (z02 0) (z88 (z01 (eC (.int 0)) (z01 (eOp z5j (z02 1) (eC (.int 1))) z0h))))))))
def z1i:List D->R D:=mOf false 2 0 z4k
def z5c:DS->SR:=
 (sIf (zbs (z2r z85 (z0v z38 (z01 (z02 0) z0h))))
  (z64 "NoFloor" (z01 (eC (.str "a floor has 3 to 60 corners")) z0h))
  sNx)
def z1w:List D->R D:=mOf false 1 0 z5c
def zbe:DE->R D:=
 (z0v z23 (z01 (z02 0) (z01 (z02 1) z0h)))
def zif:DS->SR:=
 (z0z (z2i true 2 [true,true] (eOp zaz (z76 (z01 (z88 (z01 (eC (.int 0)) (z01 (eOp z5j (z02 0) (eC (.int 1))) z0h))) z0h)) (eCB zey (z01 (z02 1) z0h))))
  (z3o [false,true,true] (eCB z3e (z01 (z3b (iL (z02 2)) b1 [1] z52 zbe) z0h))))
def z7t:List D->R D:=mOf true 2 1 zif
def z13:DE->R D:=
 (z0v z1i (z01 (z02 0) (z01 (z02 1) z0h)))
def z14:DE->R D:=
 (eOp zpn (z02 0) (z02 1))
def z3l:DS->SR:=
 (z0z (sIf (bOr (zbs (z2r z85 (eUn (z4w "tuple") (z02 0)))) (bOr (z2r asB (eOp dNe (eCB zbt (z01 (z02 0) z0h)) (eC (.int 2)))) (bOr (z2r asB (eOp dNe (eOp dIx (z02 0) (eC (.int 0))) (z02 1))) (zbs (z2r z85 (eUn (z4w "tuple") (eOp dIx (z02 0) (eC (.int 1)))))))))
   (z3o [] (eC (.bl false)))
   sNx)
  (z0z (sIf (bOr (z2r asB (eOp dNe (eCB zbt (z01 (eOp dIx (z02 0) (eC (.int 1))) z0h)) (eOp z5j (z02 1) (eC (.int 3))))) (zbs (z2r z85 (eCB zsx (z01 (z3b (iL (eOp dIx (z02 0) (eC (.int 1)))) b1 [1] z52 z13) z0h)))))
   (z3o [] (eC (.bl false)))
   sNx)
  (z3o [true] (eUn (fun d=>(z85 d).map fun b=>.bl (!b)) (eCB zsy (z01 (z3b (zky (z01 (eOp dIx (z02 0) (eC (.int 1))) (z01 (eSl zvw (eOp dIx (z02 0) (eC (.int 1))) (oSo (eC (.int 1))) oNo) z0h))) (bT 2) [] z52 z14) z0h))))))
def z0t:List D->R D:=mOf false 2 0 z3l
def z7u:DS->SR:=
 (z3o [true] (z0v z7t (z01 (eOp dIx (z02 0) (eC (.int 0))) (z01 (eOp dIx (z02 0) (eC (.int 1))) z0h))))
def z2o:List D->R D:=mOf true 1 0 z7u
def z69:DE->R D:=
 (eOp zba (eOp dIx (z02 1) (eOp z5j (z02 0) (z02 2))) (eOp dIx (z02 1) (eOp z5j (z02 3) (z02 0))))
def z0p (M:List D->R D):DS->SR:=
 (z0z (sIf (z2r asB (eOp dEq (z02 3) (eOp z2y (z02 2) (eC (.int 1)))))
   (z3o [] (eC (.int 0)))
   sNx)
  (z0z (z2i false 4 [false,true,true,true] (eOp dIxN (z02 1) (z88 (z01 (z02 2) (z01 (z02 3) z0h)))))
  (z0z (z2i false 5 [true,false,true,true,true] (eCB zh3 (z01 (z3b (zk1 (z01 (eOp z2y (z02 2) (eC (.int 1))) (z01 (z02 4) z0h))) b1 [0,2,3] z52 z69) z0h)))
  (z3o [true,true,true,true,true,true] (eOp z2y (eOp z2y (z02 5) (eOp zba (z0v M (z01 (z02 0) (z01 (z02 1) (z01 (z02 2) (z01 (z02 4) z0h))))) (eOp dIx (z02 0) (eOp z5j (z02 3) (z02 4))))) (z0v M (z01 (z02 0) (z01 (z02 1) (z01 (z02 4) (z01 (z02 3) z0h))))))))))
def z5r:List D->R D:=z89 false 4 2 z0p 64
def z1k:DE->R Bool:=
 (z2r asB (eOp dGe (z02 5) (eOp zba (eOp dIx (z02 0) (eOp z5j (z02 4) (z02 1))) (eOp dIx (z02 0) (eOp z5j (z02 2) (z02 4))))))
def z25:DS->SR:=
 (z0z (zct (fun a b=>a - b) 5 [true,true,true,false,true] (eOp zba (eOp dIx (z02 0) (eOp z5j (z02 4) (z02 1))) (eOp dIx (z02 0) (eOp z5j (z02 2) (z02 4)))))
  (zct (fun a b=>a+b) 4 [] (eC (.int 1))))
def z09 (M:List D->R D):DS->SR:=
 (z0z (sIf (z2r asB (eOp dEq (z02 2) (eOp z2y (z02 1) (eC (.int 1)))))
   (z3o [false,true,true] (z76 (z01 (z88 (z01 (z02 1) (z01 (z02 2) z0h))) z0h)))
   sNx)
  (z0z (z2i false 4 [false,true] (eOp z2y (z02 1) (eC (.int 1))))
  (z0z (z2i false 5 [false,false,false,true] (z02 3))
  (z0z (z3j 1000 z1k z25)
  (z0z (z2i true 6 [true,true,true,false,true,true] (z0v M (z01 (z02 0) (z01 (z02 1) (z01 (z02 4) (z01 (eOp dDivH (z02 5) (eOp dIx (z02 0) (eOp z5j (z02 2) (z02 4)))) z0h))))))
  (z0z (z2i true 7 [true,false,true,false,true,true] (z0v M (z01 (z02 0) (z01 (z02 4) (z01 (z02 2) (z01 (eOp zgw (z02 5) (eOp dIx (z02 0) (eOp z5j (z02 2) (z02 4)))) z0h))))))
  (z3o [false,true,true,false,false,false,true,true] (eOp zaz (eOp zaz (z76 (z01 (z88 (z01 (z02 1) (z01 (z02 2) z0h))) z0h)) (z02 6)) (z02 7)))))))))
def z30:List D->R D:=z89 true 4 4 z09 64
def z5d:DE->R D:=
 (z88 (z01 (z88 (z01 (z02 0) (z01 (z02 2) z0h))) (z01 (z02 1) z0h)))
def zig:DS->SR:=
 (z0z (z2i false 1 [true] (eOp dIx (z02 0) (eC (.int 0))))
  (z0z (z2i true 2 [true] (eCB dDictL (z01 (z3b (iL (z0v z2o (z01 (z02 0) z0h))) (bT 3) [] z52 z5d) z0h)))
  (z3o [false,true,true] (z0v z5r (z01 (z0v z0s (z01 (z02 1) z0h)) (z01 (z02 2) (z01 (eC (.int 0)) (z01 (eOp z5j (z02 1) (eC (.int 1))) z0h))))))))
def z3z:List D->R D:=mOf false 1 2 zig
def z2t:DE->R Bool:=
 (z2r z85 (z0v z3y (z01 (z02 1) (z01 (z02 0) z0h))))
def z2u:DE->R D:=
 (z02 0)
def z39:DS->SR:=
 (z0z (z9g (z0v z1w (z01 (z02 0) z0h)))
  (z0z (z2i true 2 [true] (z0v z0s (z01 (z02 0) z0h)))
  (z0z (sIf (bOr (zbs (z2r z85 (z0v z1n (z01 (z02 1) z0h)))) (zbs (zqh (eC (.int 0)) (z8k dLe (z02 1) (z8j zfi (eOp dIx (z02 2) (eOp z5j (z02 0) (eC (.int 1)))))))))
   (z64 "NoPlace" (z01 (eC (.str "no place of a cutting of the floor")) z0h))
   sNx)
  (z3o [true,true,true] (z88 (z01 (z02 0) (z01 (eCB z7a (z01 (eCB z3e (z01 (z3b (iL (z0v z30 (z01 (z02 2) (z01 (eC (.int 0)) (z01 (eOp z5j (z02 0) (eC (.int 1))) (z01 (z02 1) z0h)))))) b1 [0] z2t z2u) z0h)) z0h)) z0h)))))))
def z0u:List D->R D:=mOf false 2 1 z39
def z31:DS->SR:=
 (z0z (z2i false 3 [false,false,true] (eOp zgw (eOp zsk (z02 2) (eC (.int 7))) (eOp zsl (eC (.int 10)) (eC (.int 30)))))
  (z0z (z2i false 4 [false,true,true,true] (eOp dIx (z76 (z01 (z02 1) (z01 (eOp z2y (z02 1) (z02 3)) (z01 (eOp z5j (eUn zlm (eC (.int 1))) (z02 3)) (z01 (eC (.bl true)) (z01 (eC .non) (z01 (eC (.str "0")) (z01 (z88 (z01 (eC (.int 0)) z0h)) z0h)))))))) (eOp zgw (z02 2) (eC (.int 7)))))
  (z0z (z2i true 5 [] (z76 z0h))
  (z0z (zwt (z9g (zqn knX z0u (z01 (z02 0) (z01 (z02 4) z0h))))
   (hAs z2c 6 (z0z (z2i true 5 [false,false,false,false,false,false,true] (z76 (z01 (eUn (zfm z2d) (z02 6)) (z01 (eUn (zfm z4d) (z02 6)) (z01 (eUn (zfm zww) (z02 6)) z0h)))))
  (z0z (zfh "list" zcm 5 [false,false,false,false,false,false,true] (z01 (eUn (zfm zwx) (z02 6)) z0h))
  (zfh "list" zcm 5 [false,false,false,false,false,false,true] (z01 (eUn (zfm zwy) (z02 6)) z0h)))) y0o))
  (z3o [false,false,false,false,false,true] (eOp dEq (z02 5) (z76 (z01 (eC (.bl true)) (z01 (eC (.bl true)) (z01 (eC (.bl false)) (z01 (eC (.bl false)) (z01 (eC (.bl false)) z0h))))))))))))
def z1j:List D->R D:=mOf false 3 4 z31
def zpy:DS->SR:=
 (z0z (z2i false 1 [true] (z0v z1o (z01 (eSl dSl (z02 0) (oSo (eC (.int 2))) oNo) z0h)))
  (z0z (z2i false 2 [false,true] (eOp dIx (z02 1) (eC (.int 0))))
  (z0z (z2i false 3 [false,false,true] (eOp dIx (z0v z1x (z01 (eOp z5j (z02 2) (eC (.int 1))) z0h)) (eOp z5j (z02 2) (eC (.int 1)))))
  (z0z (sIf (z2r asB (eOp dEq (eOp zgw (z0v z1l (z01 (z02 0) (z01 (eC (.int 1)) z0h))) (eC (.int 7))) (eC (.int 6))))
   (z3o [true,false,true,true] (z0v z1j (z01 (z02 2) (z01 (z02 3) (z01 (z0v z1l (z01 (z02 0) (z01 (eC (.int 0)) z0h))) z0h)))))
   sNx)
  (z0z (z2i false 4 [true,false,false,true] (eOp zgw (z0v z1l (z01 (z02 0) (z01 (eC (.int 0)) z0h))) (z02 3)))
  (z0z (z2i false 5 [false,true] (z0v z3z (z01 (z02 1) z0h)))
  (z0z (sIf (bOr (zbs (z2r z85 (z0v z19 (z01 (z02 5) z0h)))) (bOr (zbs (zqh (eC (.int 0)) (z8k dLe (z02 5) (z8j zfi (z02 3))))) (z2r asB (eOp dNe (z0v z0u (z01 (z02 2) (z01 (z02 5) z0h))) (z02 1)))))
   (z3o [] (eC (.bl false)))
   sNx)
  (z0z (z2i false 6 [false,false,true,false,true] (z0v z0u (z01 (z02 2) (z01 (z02 4) z0h))))
  (z0z (sIf (bOr (zbs (z2r z85 (z0v z0t (z01 (z02 6) (z01 (z02 2) z0h))))) (z2r asB (eOp dNe (z0v z3z (z01 (z02 6) z0h)) (z02 4))))
   (z3o [] (eC (.bl false)))
   sNx)
  (z0z (z2i true 7 [false,true] (z0v z0a (z01 (z02 1) z0h)))
  (z0z (z2i true 8 [false,false,false,false,false,false,true] (z0v z0a (z01 (z02 6) z0h)))
  (z0z (sIf (z2r asB (eOp dNe (eCB zbt (z01 (z02 8) z0h)) (eOp z5j (z02 2) (eC (.int 2)))))
   (z3o [] (eC (.bl false)))
   sNx)
  (z3o [false,true,false,false,true,true,true,true,true] (zgo (eOp dEq (eOp zfi (z02 5) (z02 4)) (eOp zvu (z02 7) (z02 8))) (eOp dEq (eOp dEq (z02 5) (z02 4)) (eOp dEq (z02 1) (z02 6)))))))))))))))))
def zfc:List D->R D:=mOf false 1 8 zpy
def top (i:Nat):Stmt:=PySem.Challenge.pw_friezeyard_k83_whole_places.main.body.getD i (.Pass ⟨0,0,0,0⟩)
abbrev z5s:Stmt:=top 20
abbrev z7v:Stmt:=top 21
abbrev z7w:Stmt:=top 22
abbrev z5t:Stmt:=top 24
abbrev z3f:Stmt:=top 25
abbrev zcv:Stmt:=top 27
abbrev z40:Stmt:=top 28
abbrev z2p:Stmt:=top 29
abbrev z4z:Stmt:=top 30
abbrev z26:Stmt:=top 32
abbrev zcw:Stmt:=top 33
abbrev z5u:Stmt:=top 34
abbrev z5v:Stmt:=top 35
abbrev z32:Stmt:=top 36
abbrev z50:Stmt:=top 38
abbrev z41:Stmt:=top 39
abbrev z3g:Stmt:=top 40
abbrev z42:Stmt:=top 41
abbrev z51:Stmt:=top 42
abbrev z33:Stmt:=top 43
abbrev z27:Stmt:=top 44
abbrev z1e:Stmt:=top 45
abbrev z34:Stmt:=top 46
abbrev zpz:Stmt:=top 47
structure Txt (mg:Str->Option Value):Prop where
 ValueError:mg "ValueError"=none
 «all»:mg "all"=none
 «any»:mg "any"=none
 bool:mg "bool"=none
 dict:mg "dict"=none
 int:mg "int"=none
 isinstance:mg "isinstance"=none
 len:mg "len"=none
 list:mg "list"=none
 «max»:mg "max"=none
 range:mg "range"=none
 sorted:mg "sorted"=none
 sum:mg "sum"=none
 tuple:mg "tuple"=none
 zip:mg "zip"=none
structure Exs (K:Frag) (mg:Str->Option Value) (u0 u1 u2 u3 u4 u5 u6 u7 u8 u9 u10 u11 u12 u13 u14 u15 u16 u17:Addr):Prop where
 a_Crossed:mg (Str.ofString "Crossed")=some (.ref u0)
 a_Fallen:mg (Str.ofString "Fallen")=some (.ref u1)
 a_FloorError:mg (Str.ofString "FloorError")=some (.ref u2)
 a_NoBand:mg (Str.ofString "NoBand")=some (.ref u3)
 a_NoCorner:mg (Str.ofString "NoCorner")=some (.ref u4)
 a_NoDeed:mg (Str.ofString "NoDeed")=some (.ref u5)
 a_NoEar:mg (Str.ofString "NoEar")=some (.ref u6)
 a_NoFloor:mg (Str.ofString "NoFloor")=some (.ref u7)
 a_NoLine:mg (Str.ofString "NoLine")=some (.ref u8)
 a_NoName:mg (Str.ofString "NoName")=some (.ref u9)
 a_NoPlace:mg (Str.ofString "NoPlace")=some (.ref u10)
 a_NoQuotient:mg (Str.ofString "NoQuotient")=some (.ref u11)
 a_NoRow:mg (Str.ofString "NoRow")=some (.ref u12)
 a_NoText:mg (Str.ofString "NoText")=some (.ref u13)
 a_NoTurn:mg (Str.ofString "NoTurn")=some (.ref u14)
 a_NotAlike:mg (Str.ofString "NotAlike")=some (.ref u15)
 a_NotFull:mg (Str.ofString "NotFull")=some (.ref u16)
 a_TooMany:mg (Str.ofString "TooMany")=some (.ref u17)
 n_FloorError:nsIn K mainGlobals (Str.ofString "FloorError")=some (some (.ref u2))
 n_NoFloor:nsIn K mainGlobals (Str.ofString "NoFloor")=some (some (.ref u7))
 n_NoPlace:nsIn K mainGlobals (Str.ofString "NoPlace")=some (some (.ref u10))
 q_FloorError:PySem.W.excIn K u2 [.type "ValueError",.type "Exception",.type "BaseException",.type "object"] "ValueError.__new__"=true
 q_NoFloor:PySem.W.excIn K u7 [.type "ValueError",.type "Exception",.type "BaseException",.type "object"] "ValueError.__new__"=true
 q_NoPlace:PySem.W.excIn K u10 [.type "ValueError",.type "Exception",.type "BaseException",.type "object"] "ValueError.__new__"=true
 fo_NoFloor:mroIn K u7 (.type "object")=some true
 fb_NoFloor:mroIn K u7 (.type "BaseException")=some true
 fc_NoFloor:PySem.W.findIn K (.ref u7) "__class__"=some (some (.builtin "object.__class__"))
 fg_NoFloor:PySem.W.findIn K (.ref u7) "__getattribute__"=some (some (.builtin "BaseException.__getattribute__"))
 ft_NoFloor:PySem.W.findIn K (.ref u7) "__getattr__"=some none
 m_NoFloor_FloorError:mroIn K u7 (.ref u2)=some true
 k_NoFloor_NoPlace:kitOne K (.ref u7) (.ref u10)=some false
 k_NoFloor_ValueError:kitOne K (.ref u7) (.type "ValueError")=some true
 kt_NoFloor_0:kitAny K (.ref u7) [.ref u7,.ref u17,.ref u4,.ref u8]=some true
 kt_NoFloor_1:kitAny K (.ref u7) [.ref u0,.ref u1,.ref u3,.ref u5,.ref u6,.ref u9,.ref u11]=some false
 kt_NoFloor_2:kitAny K (.ref u7) [.ref u12,.ref u13,.ref u14,.ref u15,.ref u16]=some false
 fo_NoPlace:mroIn K u10 (.type "object")=some true
 fb_NoPlace:mroIn K u10 (.type "BaseException")=some true
 fc_NoPlace:PySem.W.findIn K (.ref u10) "__class__"=some (some (.builtin "object.__class__"))
 fg_NoPlace:PySem.W.findIn K (.ref u10) "__getattribute__"=some (some (.builtin "BaseException.__getattribute__"))
 ft_NoPlace:PySem.W.findIn K (.ref u10) "__getattr__"=some none
 m_NoPlace_FloorError:mroIn K u10 (.ref u2)=some true
 k_NoPlace_NoPlace:kitOne K (.ref u10) (.ref u10)=some true
 k_NoPlace_ValueError:kitOne K (.ref u10) (.type "ValueError")=some true
 kt_NoPlace_0:kitAny K (.ref u10) [.ref u7,.ref u17,.ref u4,.ref u8]=some false
 kt_NoPlace_1:kitAny K (.ref u10) [.ref u0,.ref u1,.ref u3,.ref u5,.ref u6,.ref u9,.ref u11]=some false
 kt_NoPlace_2:kitAny K (.ref u10) [.ref u12,.ref u13,.ref u14,.ref u15,.ref u16]=some false
section
variable {K:Frag} {mg:Str->Option Value} {u0 u1 u2 u3 u4 u5 u6 u7 u8 u9 u10 u11 u12 u13 u14 u15 u16 u17:Addr}
theorem Exs.kn (Z:Exs K mg u0 u1 u2 u3 u4 u5 u6 u7 u8 u9 u10 u11 u12 u13 u14 u15 u16 u17):∀c,knX c=true->∃C,mg (Str.ofString c)=some (.ref C):=by
 intro c h
 simp only [knX,Bool.or_eq_true,beq_iff_eq] at h
 rcases h with h | h
 . subst h;exact ⟨_,Z.a_NoFloor⟩
 . subst h;exact ⟨_,Z.a_NoPlace⟩
theorem Exs.t_FloorError (Z:Exs K mg u0 u1 u2 u3 u4 u5 u6 u7 u8 u9 u10 u11 u12 u13 u14 u15 u16 u17):Tbl K "FloorError" u2 [.type "ValueError",.type "Exception",.type "BaseException",.type "object"] "ValueError.__new__" z2c:=⟨Z.n_FloorError,.inl Z.q_FloorError,by
 intro c b h
 simp only [z2c] at h
 by_cases e:c="NoFloor"
 . rw [if_pos e] at h;cases h;subst e;exact ⟨_,Z.n_NoFloor,.inl Z.q_NoFloor,Z.m_NoFloor_FloorError⟩
 rw [if_neg e] at h
 by_cases e:c="NoPlace"
 . rw [if_pos e] at h;cases h;subst e;exact ⟨_,Z.n_NoPlace,.inl Z.q_NoPlace,Z.m_NoPlace_FloorError⟩
 rw [if_neg e] at h
 cases h⟩
theorem Exs.b_NoPlace (Z:Exs K mg u0 u1 u2 u3 u4 u5 u6 u7 u8 u9 u10 u11 u12 u13 u14 u15 u16 u17):Bel K (.ref u10) z4d:=⟨by
 intro c b h
 simp only [z4d] at h
 by_cases e:c="NoFloor"
 . rw [if_pos e] at h;cases h;subst e;exact ⟨_,Z.n_NoFloor,⟨Z.fo_NoFloor,Z.fb_NoFloor,Z.fc_NoFloor,Z.fg_NoFloor,Z.ft_NoFloor⟩,Z.k_NoFloor_NoPlace⟩
 rw [if_neg e] at h
 by_cases e:c="NoPlace"
 . rw [if_pos e] at h;cases h;subst e;exact ⟨_,Z.n_NoPlace,⟨Z.fo_NoPlace,Z.fb_NoPlace,Z.fc_NoPlace,Z.fg_NoPlace,Z.ft_NoPlace⟩,Z.k_NoPlace_NoPlace⟩
 rw [if_neg e] at h
 cases h⟩
theorem Exs.b_ValueError (Z:Exs K mg u0 u1 u2 u3 u4 u5 u6 u7 u8 u9 u10 u11 u12 u13 u14 u15 u16 u17):Bel K (.type "ValueError") z2d:=⟨by
 intro c b h
 simp only [z2d] at h
 by_cases e:c="NoFloor"
 . rw [if_pos e] at h;cases h;subst e;exact ⟨_,Z.n_NoFloor,⟨Z.fo_NoFloor,Z.fb_NoFloor,Z.fc_NoFloor,Z.fg_NoFloor,Z.ft_NoFloor⟩,Z.k_NoFloor_ValueError⟩
 rw [if_neg e] at h
 by_cases e:c="NoPlace"
 . rw [if_pos e] at h;cases h;subst e;exact ⟨_,Z.n_NoPlace,⟨Z.fo_NoPlace,Z.fb_NoPlace,Z.fc_NoPlace,Z.fg_NoPlace,Z.ft_NoPlace⟩,Z.k_NoPlace_ValueError⟩
 rw [if_neg e] at h
 cases h⟩
theorem Exs.bt_0 (Z:Exs K mg u0 u1 u2 u3 u4 u5 u6 u7 u8 u9 u10 u11 u12 u13 u14 u15 u16 u17):BelT K [u7,u17,u4,u8] zww:=⟨by
 intro c b h
 simp only [zww] at h
 by_cases e:c="NoFloor"
 . rw [if_pos e] at h;cases h;subst e;exact ⟨_,Z.n_NoFloor,⟨Z.fo_NoFloor,Z.fb_NoFloor,Z.fc_NoFloor,Z.fg_NoFloor,Z.ft_NoFloor⟩,Z.kt_NoFloor_0⟩
 rw [if_neg e] at h
 by_cases e:c="NoPlace"
 . rw [if_pos e] at h;cases h;subst e;exact ⟨_,Z.n_NoPlace,⟨Z.fo_NoPlace,Z.fb_NoPlace,Z.fc_NoPlace,Z.fg_NoPlace,Z.ft_NoPlace⟩,Z.kt_NoPlace_0⟩
 rw [if_neg e] at h
 cases h⟩
theorem Exs.bt_1 (Z:Exs K mg u0 u1 u2 u3 u4 u5 u6 u7 u8 u9 u10 u11 u12 u13 u14 u15 u16 u17):BelT K [u0,u1,u3,u5,u6,u9,u11] zwx:=⟨by
 intro c b h
 simp only [zwx] at h
 by_cases e:c="NoFloor"
 . rw [if_pos e] at h;cases h;subst e;exact ⟨_,Z.n_NoFloor,⟨Z.fo_NoFloor,Z.fb_NoFloor,Z.fc_NoFloor,Z.fg_NoFloor,Z.ft_NoFloor⟩,Z.kt_NoFloor_1⟩
 rw [if_neg e] at h
 by_cases e:c="NoPlace"
 . rw [if_pos e] at h;cases h;subst e;exact ⟨_,Z.n_NoPlace,⟨Z.fo_NoPlace,Z.fb_NoPlace,Z.fc_NoPlace,Z.fg_NoPlace,Z.ft_NoPlace⟩,Z.kt_NoPlace_1⟩
 rw [if_neg e] at h
 cases h⟩
theorem Exs.bt_2 (Z:Exs K mg u0 u1 u2 u3 u4 u5 u6 u7 u8 u9 u10 u11 u12 u13 u14 u15 u16 u17):BelT K [u12,u13,u14,u15,u16] zwy:=⟨by
 intro c b h
 simp only [zwy] at h
 by_cases e:c="NoFloor"
 . rw [if_pos e] at h;cases h;subst e;exact ⟨_,Z.n_NoFloor,⟨Z.fo_NoFloor,Z.fb_NoFloor,Z.fc_NoFloor,Z.fg_NoFloor,Z.ft_NoFloor⟩,Z.kt_NoFloor_2⟩
 rw [if_neg e] at h
 by_cases e:c="NoPlace"
 . rw [if_pos e] at h;cases h;subst e;exact ⟨_,Z.n_NoPlace,⟨Z.fo_NoPlace,Z.fb_NoPlace,Z.fc_NoPlace,Z.fg_NoPlace,Z.ft_NoPlace⟩,Z.kt_NoPlace_2⟩
 rw [if_neg e] at h
 cases h⟩
end
theorem zcx:FnScope ["thing"] ["thing"] (z03 z5s):=fsc
theorem sc_is_side:FnScope ["n","p","a","b"] ["n","p"] (z03 z7v):=fsc
theorem zfd:FnScope ["n","p"] ["n","p"] (z03 z7w):=fsc
theorem zcy:FnScope ["thing"] ["thing"] (z03 z5t):=fsc
theorem z8a:FnScope ["thing"] ["thing"] (z03 z3f):=fsc
theorem sc_rooms:FnScope ["n","lines","tops"] ["n","lines"] (z03 zcv):=fsc
theorem sc_room_under:FnScope ["top","lines","room"] ["top","lines"] (z03 z40):=fsc
theorem sc_corner_behind:FnScope ["corner","top","lines","ends"] ["corner","top","lines"] (z03 z2p):=fsc
theorem zbf:FnScope ["cut"] ["cut"] (z03 z4z):=fsc
theorem sc_stretch_counts:FnScope ["n","found","length"] ["n"] (z03 z26):=fsc
theorem sc_place:FnScope ["cut","n","middles"] ["cut"] (z03 zcw):=fsc
theorem sc_place_in:FnScope ["counts","middles","a","b","c","ahead"] ["counts","middles","a","b"] (z03 z5u):=fsc
theorem sc_at_place:FnScope ["n","k","counts"] ["n","k"] (z03 z5v):=fsc
theorem sc_stretches_at:FnScope ["counts","a","b","k","c","rest","low","high"] ["counts","a","b","k"] (z03 z32):=fsc
theorem zbg:FnScope ["_law_script","_law_k"] ["_law_script","_law_k"] (z03 z50):=fsc
theorem za7:FnScope ["_law_found"] ["_law_found"] (z03 z41):=fsc
theorem sc__law_put_on:FnScope ["_law_n","_law_lines","_law_at","_law_moved"] ["_law_n","_law_lines","_law_at"] (z03 z3g):=fsc
theorem sc__law_glued:FnScope ["_law_cells","_law_n","_law_lines","_law_cell"] ["_law_cells"] (z03 z42):=fsc
theorem sc__law_ways:FnScope ["_law_most","_law_ways_here","_law_total","_law_k"] ["_law_most"] (z03 z51):=fsc
theorem z7x:FnScope ["_law_line","_law_n"] ["_law_line","_law_n"] (z03 z33):=fsc
theorem z5w:FnScope ["_law_found","_law_n"] ["_law_found","_law_n"] (z03 z27):=fsc
theorem sc__law_third_corners:FnScope ["_law_cut","_law_far","_law_a","_law_b","_law_found","_law_waiting","_law_third"] ["_law_cut"] (z03 z1e):=fsc
theorem sc__law_refused:FnScope ["_law_n","_law_many","_law_cell","_law_far","_law_thing","_law_told","e"] ["_law_n","_law_many","_law_cell"] (z03 z34):=fsc
theorem sc_law:FnScope ["_law_script","_law_cut","_law_n","_law_many","_law_k","_law_one","_law_other","_law_ours","_law_theirs"] ["_law_script"] (z03 zpz):=fsc
abbrev z5x (P:Program) (w:World) (K:Frag) (mg:Str->Option Value) (base:Heap):Prop:=z4f P w K mg base "is_whole" ["thing"] 1 (spD K mg false z1n 1)
abbrev zbh (P:Program) (w:World) (K:Frag) (mg:Str->Option Value) (base:Heap):Prop:=z4f P w K mg base "is_side" ["n","p"] 1 (spD K mg false z3v 2)
abbrev z43 (P:Program) (w:World) (K:Frag) (mg:Str->Option Value) (base:Heap):Prop:=z4f P w K mg base "corner_behind" ["corner","top","lines"] 1 (spD K mg false z18 3)
abbrev z28 (P:Program) (w:World) (K:Frag) (mg:Str->Option Value) (base:Heap):Prop:=z4f P w K mg base "stretch_counts" ["n"] 1 (spD K mg true z0s 1)
abbrev z7y (P:Program) (w:World) (K:Frag) (mg:Str->Option Value) (base:Heap):Prop:=z4f P w K mg base "_law_pick" ["_law_script","_law_k"] 1 (spD K mg false z1l 2)
abbrev z44 (P:Program) (w:World) (K:Frag) (mg:Str->Option Value) (base:Heap):Prop:=z4f P w K mg base "_law_plain" ["_law_found"] 1 (spD K mg false z19 1)
abbrev z5e (P:Program) (w:World) (K:Frag) (mg:Str->Option Value) (base:Heap):Prop:=z4f P w K mg base "_law_put_on" ["_law_n","_law_lines","_law_at"] 1 (spD K mg true z1v 3)
abbrev z7z (P:Program) (w:World) (K:Frag) (mg:Str->Option Value) (base:Heap):Prop:=z4f P w K mg base "_law_ways" ["_law_most"] 1 (spD K mg true z1x 1)
abbrev z29 (P:Program) (w:World) (K:Frag) (mg:Str->Option Value) (base:Heap):Prop:=z4f P w K mg base "_law_third_corners" ["_law_cut"] 1 (spD K mg true z0a 1)
abbrev zbi (P:Program) (w:World) (K:Frag) (mg:Str->Option Value) (base:Heap):Prop:=z4f P w K mg base "is_line" ["n","p"] 2 (spD K mg false z3y 2)
abbrev z8y (P:Program) (w:World) (K:Frag) (mg:Str->Option Value) (base:Heap):Prop:=z4f P w K mg base "is_floor" ["thing"] 2 (spD K mg false z38 1)
abbrev z6a (P:Program) (w:World) (K:Frag) (mg:Str->Option Value) (base:Heap):Prop:=z4f P w K mg base "room_under" ["top","lines"] 2 (spD K mg false z23 2)
abbrev z6b (P:Program) (w:World) (K:Frag) (mg:Str->Option Value) (base:Heap):Prop:=z4f P w K mg base "_law_glued" ["_law_cells"] 2 (spD K mg false z1o 1)
abbrev z4l (P:Program) (w:World) (K:Frag) (mg:Str->Option Value) (base:Heap):Prop:=z4f P w K mg base "_law_is_line" ["_law_line","_law_n"] 2 (spD K mg false z1i 2)
abbrev z5f (P:Program) (w:World) (K:Frag) (mg:Str->Option Value) (base:Heap):Prop:=z4f P w K mg base "check_floor" ["thing"] 3 (spD K mg false z1w 1)
abbrev zih (P:Program) (w:World) (K:Frag) (mg:Str->Option Value) (base:Heap):Prop:=z4f P w K mg base "rooms" ["n","lines"] 3 (spD K mg true z7t 2)
abbrev z3m (P:Program) (w:World) (K:Frag) (mg:Str->Option Value) (base:Heap):Prop:=z4f P w K mg base "_law_is_sorted" ["_law_found","_law_n"] 3 (spD K mg false z0t 2)
abbrev z80 (P:Program) (w:World) (K:Frag) (mg:Str->Option Value) (base:Heap):Prop:=z4f P w K mg base "triangles" ["cut"] 4 (spD K mg true z2o 1)
abbrev z8z (P:Program) (w:World) (K:Frag) (mg:Str->Option Value) (base:Heap):Prop:=z4f P w K mg base "place_in" ["counts","middles","a","b"] 65 (spD K mg false z5r 4)
abbrev z4m (P:Program) (w:World) (K:Frag) (mg:Str->Option Value) (base:Heap):Prop:=z4f P w K mg base "stretches_at" ["counts","a","b","k"] 65 (spD K mg true z30 4)
abbrev zii (P:Program) (w:World) (K:Frag) (mg:Str->Option Value) (base:Heap):Prop:=z4f P w K mg base "place" ["cut"] 66 (spD K mg false z3z 1)
abbrev z5y (P:Program) (w:World) (K:Frag) (mg:Str->Option Value) (base:Heap):Prop:=z4f P w K mg base "at_place" ["n","k"] 66 (spD K mg false z0u 2)
abbrev z4n (P:Program) (w:World) (K:Frag) (mg:Str->Option Value) (base:Heap):Prop:=z4f P w K mg base "_law_refused" ["_law_n","_law_many","_law_cell"] 67 (spD K mg false z1j 3)
section
variable {P:Program} {w:World} {K:Frag} {mg:Str->Option Value} {base:Heap} {f:Addr} {fd:FuncData} {u0 u1 u2 u3 u4 u5 u6 u7 u8 u9 u10 u11 u12 u13 u14 u15 u16 u17:Addr}
theorem zcz (F:Fun K "is_whole" "is_whole" z5s f fd) (T:Txt mg) (Z:Exs K mg u0 u1 u2 u3 u4 u5 u6 u7 u8 u9 u10 u11 u12 u13 u14 u15 u16 u17)  : FnOk P w K mg base (CX1 P w) 1 f fd ["thing"] (spD K mg false z1n 1):=
 fnD (k:=0) F zcx rfl rfl fun cdv A outer s H E hr=>
  (z0o (z1c (zcg (zck rfl T.isinstance boot_isinstance (qv 0) (z3r (v:=.ty "int") rfl T.int boot_int rfl)) (zch (zgz (zck rfl T.isinstance boot_isinstance (qv 0) (z3r (v:=.ty "bool") rfl T.bool boot_bool rfl)))))))
theorem zfe (F:Fun K "is_side" "is_side" z7v f fd) (T:Txt mg) (Z:Exs K mg u0 u1 u2 u3 u4 u5 u6 u7 u8 u9 u10 u11 u12 u13 u14 u15 u16 u17)  : FnOk P w K mg base (CX1 P w) 1 f fd ["n","p"] (spD K mg false z3v 2):=
 fnD (k:=0) F sc_is_side rfl rfl fun cdv A outer s H E hr=>
  (z06 (sA 2 sc_is_side.nd (qI hr (qv 1) z05))
   (z06 (sA 3 sc_is_side.nd (qI hr (qv 1) z05))
   (z06 (zbu (QW.pt (zfj (z6g zj2 z4j (qv 2) z05 (z0j _)) (zci (z6g y0a zso (qv 3) (qv 0) (z0j _)))))
    (z0o (z1c zds))
    z4h)
   (z0o (z1c (y1g (z4u (z9i hr.units) z9j (qv 3) (z0e z3n z0y (qv 2) z05) (z0j _)) (zch (zcg (z4u (z9i hr.units) z9j (qv 2) z05 (z0j _)) (zch (z4u (z9i hr.units) z9j (qv 3) (z0e z2a z10 (qv 0) z05) (z0j _)))))))))))
theorem z6i (F:Fun K "corner_behind" "corner_behind" z2p f fd) (T:Txt mg) (Z:Exs K mg u0 u1 u2 u3 u4 u5 u6 u7 u8 u9 u10 u11 u12 u13 u14 u15 u16 u17)  : FnOk P w K mg base (CX1 P w) 1 f fd ["corner","top","lines"] (spD K mg false z18 3):=
 fnD (k:=0) F sc_corner_behind rfl rfl fun cdv A outer s H E hr=>
  (z06 (y1l sc_corner_behind.nd (k:=3) rfl rfl (z17 (caps:=["corner","top"]) (ix:=[0,1]) rfl rfl) (by decide +kernel) rfl (z9m (qv 2)) (.one fun _ _ _=>(QW.pt (zsv (tE hr (qI hr (qv 0) z05) (qv 1) (z0j _)) (zsv (z6g zlc zay (qI hr (qv 0) z05) (qI hr (qv 2) z05) (z0j _)) (zsu (tN hr (qv 0) (qv 2) (z0j _))))))) (fun _ _ _=>(qI hr (qv 0) z05)))
   (z0o (z1c (ztn rfl rfl T.«max» boot_max (qv 3) (z0e z3n z0y (qv 0) z05)))))
theorem z5z (F:Fun K "stretch_counts" "stretch_counts" z26 f fd) (T:Txt mg) (Z:Exs K mg u0 u1 u2 u3 u4 u5 u6 u7 u8 u9 u10 u11 u12 u13 u14 u15 u16 u17)  : FnOk P w K mg base (CX1 P w) 1 f fd ["n"] (spD K mg true z0s 1):=
 fnD (k:=0) F sc_stretch_counts rfl rfl fun cdv A outer s H E hr=>
  (z06 (sA 1 sc_stretch_counts.nd (z3p (z00 z05 (z00 z05 z04))))
   (z06 (zoa PassesOwn.leaving rfl (zws rfl T.range (z00 z05 (z00 (qv 0) z04))) (g_n (i:=2) sc_stretch_counts.nd rfl (Or.inr rfl))
    (z0o (zb1 PySem.F.plainAttrs_list PySem.F.slot_list_append PySem.F.type_list_append z1f z63 z3d (pw 1) (z00 (zk0 (zs3 rfl) zlo rfl T.sum boot_sum (z00 (QE.wk (zql (z17 (caps:=["found","length"]) (ix:=[1,2]) rfl rfl) (by decide +kernel) rfl (zws rfl T.range (z00 z05 (z00 (qv 2) z04))) .nil (fun _ _ _=>(z0e zrn zll (qI hr (qv 1) (qv 0)) (qI hr (qv 1) (z0e z2a z10 (qv 2) (qv 0))))))) z04)) z04))))
   (z0o (zh5 (i:=1)))))
theorem zbj (F:Fun K "_law_pick" "_law_pick" z50 f fd) (T:Txt mg) (Z:Exs K mg u0 u1 u2 u3 u4 u5 u6 u7 u8 u9 u10 u11 u12 u13 u14 u15 u16 u17)  : FnOk P w K mg base (CX1 P w) 1 f fd ["_law_script","_law_k"] (spD K mg false z1l 2):=
 fnD (k:=0) F zbg rfl rfl fun cdv A outer s H E hr=>
  (z0o (z1c (qI hr (QE.wk (z0e z8g z8q (QE.wk (zwr zc1 zcl (qv 0) (zt4 (qv 1)) (zt4 (z0e z3n z0y (qv 1) z05)))) (QE.wk (z3p (z00 z05 z04))))) z05)))
theorem za8 (F:Fun K "_law_plain" "_law_plain" z41 f fd) (T:Txt mg) (Z:Exs K mg u0 u1 u2 u3 u4 u5 u6 u7 u8 u9 u10 u11 u12 u13 u14 u15 u16 u17)  : FnOk P w K mg base (CX1 P w) 1 f fd ["_law_found"] (spD K mg false z19 1):=
 fnD (k:=0) F za7 rfl rfl fun cdv A outer s H E hr=>
  (z06 (zbu (z6f (zck rfl T.isinstance boot_isinstance (qv 0) (z3r (v:=.ty "bool") rfl T.bool boot_bool rfl)))
    (z0o (z1c zds))
    z4h)
   (z0o (z1c (zck rfl T.isinstance boot_isinstance (qv 0) (z3r (v:=.ty "int") rfl T.int boot_int rfl)))))
theorem z8b (F:Fun K "_law_put_on" "_law_put_on" z3g f fd) (T:Txt mg) (Z:Exs K mg u0 u1 u2 u3 u4 u5 u6 u7 u8 u9 u10 u11 u12 u13 u14 u15 u16 u17)  : FnOk P w K mg base (CX1 P w) 1 f fd ["_law_n","_law_lines","_law_at"] (spD K mg true z1v 3):=
 fnD (k:=0) F sc__law_put_on rfl rfl fun cdv A outer s H E hr=>
  (z06 (y1m sc__law_put_on.nd (k:=3) rfl rfl (z17 (caps:=["_law_at"]) (ix:=[2]) rfl rfl) (by decide +kernel) rfl rfl (z9m (qv 1)) .nil (fun _ _ _=>(z4g (z00 (z0e z3n z0y (qv 0) (zcj zs4 zlp rfl T.int boot_int (z00 (z4u zwk zdp (qv 0) (qv 2) (z0j _)) z04))) (z00 (z0e z3n z0y (qv 1) (zcj zs4 zlp rfl T.int boot_int (z00 (z4u zwk zdp (qv 1) (qv 2) (z0j _)) z04))) z04)))))
   (z06 (zbu (tE hr (qv 2) (z0e z2a z10 (qv 0) z05) (z0j _))
    (z0o (z1c (z0e z8g z8q (qv 3) (QE.wk (z3p (z00 (z4g (z00 z05 (z00 (z0e z2a z10 (qv 0) z05) z04))) z04))))))
    z4h)
   (z0o (z1c (z0e z8g z8q (qv 3) (QE.wk (z3p (z00 (z4g (z00 (qv 2) (z00 (z0e z3n z0y (qv 2) z05) z04))) z04))))))))
theorem zbk (F:Fun K "_law_ways" "_law_ways" z51 f fd) (T:Txt mg) (Z:Exs K mg u0 u1 u2 u3 u4 u5 u6 u7 u8 u9 u10 u11 u12 u13 u14 u15 u16 u17)  : FnOk P w K mg base (CX1 P w) 1 f fd ["_law_most"] (spD K mg true z1x 1):=
 fnD (k:=0) F sc__law_ways rfl rfl fun cdv A outer s H E hr=>
  (z06 (sA 1 sc__law_ways.nd (z3p (z00 z05 (z00 z05 z04))))
   (z06 (z9o (n:=1000) PassesOwn.leaving (z6g zlc zay (qL T.len (qv 1)) (qv 0) (z0j _))
    (z06 (sA 2 sc__law_ways.nd z05)
   (z06 (zoa PassesOwn.leaving rfl (zws rfl T.range (z00 z05 (z00 (qL T.len (qv 1)) z04))) (g_n (i:=3) sc__law_ways.nd rfl (Or.inl rfl))
    (z0o (sA 2 sc__law_ways.nd (z0e z3n z0y (qv 2) (z0e zrn zll (qI hr (qv 1) (qv 3)) (qI hr (qv 1) (zwq zje zdq (qv 3))))))))
   (z0o (zb1 PySem.F.plainAttrs_list PySem.F.slot_list_append PySem.F.type_list_append z1f z63 z3d (pw 1) (z00 (qv 2) z04))))))
   (z0o (zh5 (i:=1)))))
theorem z45 (F:Fun K "_law_third_corners" "_law_third_corners" z1e f fd) (T:Txt mg) (Z:Exs K mg u0 u1 u2 u3 u4 u5 u6 u7 u8 u9 u10 u11 u12 u13 u14 u15 u16 u17)  : FnOk P w K mg base (CX1 P w) 1 f fd ["_law_cut"] (spD K mg true z0a 1):=
 fnD (k:=0) F sc__law_third_corners rfl rfl fun cdv A outer s H E hr=>
  (zvp (F:=1) (A:=2) (B:=3) (fi:=z0l) (f:=z0c) (fj:=z0m) (m:=[true,false,false,false,true,true,true]) sc__law_third_corners.nd rfl rfl (z17 (caps:=[]) (ix:=[]) rfl rfl) (by decide +kernel) rfl (y1i rfl T.range (z00 (qI hr (qv 0) z05) z04)) .nil (fun _ _ _=>(z3p (z00 (z0e z3n z0y (qv 0) z05) z04)))
   PassesOwn.leaving rfl (z9m (qI hr (qv 0) z05)) (z9n (i:=2) sc__law_third_corners.nd rfl (Or.inl rfl) (z9n (i:=3) sc__law_third_corners.nd rfl (Or.inr rfl) zlr)) (zrh PySem.F.plainAttrs_list PySem.F.slot_list_append PySem.F.type_list_append z1f (zre ix_list (pw 1) (pw 2) (fun _ _=>rfl)) (z2w (pw 3) pa_nil))
   (z06 (sA 4 sc__law_third_corners.nd (z3p z04))
   (z06 (sA 5 sc__law_third_corners.nd (z3p (z00 (z4g (z00 z05 (z00 (z0e z2a z10 (qI hr (qv 0) z05) z05) z04))) z04)))
   (z06 (z9o (n:=1000) PassesOwn.leaving (z6g zwk zdp (qL T.len (qv 5)) z05 (z0j _))
    (z06 (zvk (i:=5) (pw 5) (g_t rfl (z9n (i:=2) sc__law_third_corners.nd rfl (Or.inl rfl) (z9n (i:=3) sc__law_third_corners.nd rfl (Or.inr rfl) zlr))))
   (z0o (zbu (z6g zwk zdp (qv 3) (z0e z3n z0y (qv 2) z05) (z0j _))
    (z06 (sA 6 sc__law_third_corners.nd (zk0 (ztc rfl) zoc rfl T.«max» boot_max (z00 (QE.wk (zql (z17 (caps:=["_law_b"]) (ix:=[3]) rfl rfl) (by decide +kernel) rfl (z9m (qI hr (qv 1) (qv 2))) (.one fun _ _ _=>(z6g zj2 z4j (qv 0) (qv 1) (z0j _))) (fun _ _ _=>(qv 0)))) z04)))
   (z06 (zbu (z6g (zjz hr.units) zyb (qv 3) (qI hr (qv 1) (qv 6)) (by with_unfolding_all rfl))
    (z0o (z1c (z3p z04)))
    z4h)
   (z06 (zb1 PySem.F.plainAttrs_list PySem.F.slot_list_append PySem.F.type_list_append z1f z63 z3d (pw 4) (z00 (qv 6) z04))
   (z06 (zb1 PySem.F.plainAttrs_list PySem.F.slot_list_append PySem.F.type_list_append z1f z63 z3d (pw 5) (z00 (z4g (z00 (qv 6) (z00 (qv 3) z04))) z04))
   (z0o (zb1 PySem.F.plainAttrs_list PySem.F.slot_list_append PySem.F.type_list_append z1f z63 z3d (pw 5) (z00 (z4g (z00 (qv 2) (z00 (qv 6) z04))) z04)))))))
    z4h))))
   (z0o (zh5 (i:=4)))))))
theorem zff (F:Fun K "is_line" "is_line" z7w f fd) (T:Txt mg) (Z:Exs K mg u0 u1 u2 u3 u4 u5 u6 u7 u8 u9 u10 u11 u12 u13 u14 u15 u16 u17) (G_is_side:zbh P w K mg base):FnOk P w K mg base (CX1 P w) 2 f fd ["n","p"] (spD K mg false z3y 2):=
 fnD (k:=1) F zfd rfl rfl fun cdv A outer s H E hr=>
  (z0o (z1c (zcg (zo6 z05 (zdt zlc zay (qI hr (qv 1) z05) (zdt zj2 z4j (qI hr (qv 1) z05) (zh0 zj2 z4j (qv 0))))) (zch (zgz (z1g z3s G_is_side hr rfl (z00 (qv 0) (z00 (qv 1) z04))))))))
theorem zd0 (F:Fun K "is_floor" "is_floor" z5t f fd) (T:Txt mg) (Z:Exs K mg u0 u1 u2 u3 u4 u5 u6 u7 u8 u9 u10 u11 u12 u13 u14 u15 u16 u17) (G_is_whole:z5x P w K mg base):FnOk P w K mg base (CX1 P w) 2 f fd ["thing"] (spD K mg false z38 1):=
 fnD (k:=1) F zcy rfl rfl fun cdv A outer s H E hr=>
  (z0o (z1c (zcg (z1g z3s G_is_whole hr rfl (z00 (qv 0) z04)) (zch (zo6 z05 (zdt zlc zay (qv 0) (zh0 zlc zay z05)))))))
theorem za9 (F:Fun K "room_under" "room_under" z40 f fd) (T:Txt mg) (Z:Exs K mg u0 u1 u2 u3 u4 u5 u6 u7 u8 u9 u10 u11 u12 u13 u14 u15 u16 u17) (G_corner_behind:z43 P w K mg base):FnOk P w K mg base (CX1 P w) 2 f fd ["top","lines"] (spD K mg false z23 2):=
 fnD (k:=1) F sc_room_under rfl rfl fun cdv A outer s H E hr=>
  (z06 (sA 2 sc_room_under.nd (z3p (z00 (qI hr (qv 0) z05) z04)))
   (z06 (z9o (n:=1000) PassesOwn.leaving (z6g zj2 z4j (qI hr (qv 2) (zwq zje zdq z05)) (qI hr (qv 0) z05) (z0j _))
    (z0o (zb1 PySem.F.plainAttrs_list PySem.F.slot_list_append PySem.F.type_list_append z1f z63 z3d (pw 2) (z00 (z1g z3s G_corner_behind hr rfl (z00 (qI hr (qv 2) (zwq zje zdq z05)) (z00 (qv 0) (z00 (qv 1) z04)))) z04))))
   (z0o (z1c (zcj z9k z9l rfl T.tuple boot_tuple (z00 (qv 2) z04))))))
theorem zaa (F:Fun K "_law_glued" "_law_glued" z42 f fd) (T:Txt mg) (Z:Exs K mg u0 u1 u2 u3 u4 u5 u6 u7 u8 u9 u10 u11 u12 u13 u14 u15 u16 u17) (G__law_put_on:z5e P w K mg base):FnOk P w K mg base (CX1 P w) 2 f fd ["_law_cells"] (spD K mg false z1o 1):=
 fnD (k:=1) F sc__law_glued rfl rfl fun cdv A outer s H E hr=>
  (z06 (sA 1 sc__law_glued.nd z05)
   (z06 (sA 2 sc__law_glued.nd (z3p z04))
   (z06 (zoa PassesOwn.leaving rfl (z9m (QE.wk (zwr zc1 zcl (qv 0) zyh (zt4 z05)))) (g_n (i:=3) sc__law_glued.nd rfl (Or.inl rfl))
    (z06 (sA 2 sc__law_glued.nd (z1g z3s G__law_put_on hr rfl (z00 (qv 1) (z00 (qv 2) (z00 (z0e zet z8p (qv 3) (qv 1)) z04)))))
   (z0o (sA 1 sc__law_glued.nd (z0e z3n z0y (qv 1) z05)))))
   (z0o (z1c (z4g (z00 (qv 1) (z00 (zcj z9k z9l rfl T.tuple boot_tuple (z00 (QE.wk (zk0 (z7h rfl hr.units) z7g rfl T.sorted boot_sorted (z00 (qv 2) z04))) z04)) z04))))))))
theorem z81 (F:Fun K "_law_is_line" "_law_is_line" z33 f fd) (T:Txt mg) (Z:Exs K mg u0 u1 u2 u3 u4 u5 u6 u7 u8 u9 u10 u11 u12 u13 u14 u15 u16 u17) (G__law_plain:z44 P w K mg base):FnOk P w K mg base (CX1 P w) 2 f fd ["_law_line","_law_n"] (spD K mg false z1i 2):=
 fnD (k:=1) F z7x rfl rfl fun cdv A outer s H E hr=>
  (z06 (zbu (QW.pt (zfj (z6h (z6f (zck rfl T.isinstance boot_isinstance (qv 0) (z3r (v:=.ty "tuple") rfl T.tuple boot_tuple rfl)))) (zfj (tN hr (qL T.len (qv 0)) z05 (z0j _)) (zfj (z6h (z6f (z1g z3s G__law_plain hr rfl (z00 (qI hr (qv 0) z05) z04)))) (zci (z6h (z6f (z1g z3s G__law_plain hr rfl (z00 (qI hr (qv 0) z05) z04)))))))))
    (z0o (z1c zds))
    z4h)
   (z0o (z1c (zcg (z4u zlc zay z05 (qI hr (qv 0) z05) (z0j _)) (zcg (zo6 (z0e z3n z0y (qI hr (qv 0) z05) z05) (zdt zj2 z4j (qI hr (qv 0) z05) (zh0 zj2 z4j (qv 1)))) (zch (z4u (zsp hr.units) zsq (qv 0) (z4g (z00 z05 (z00 (z0e z2a z10 (qv 1) z05) z04))) (z0j _))))))))
theorem z8c (F:Fun K "check_floor" "check_floor" z3f f fd) (T:Txt mg) (Z:Exs K mg u0 u1 u2 u3 u4 u5 u6 u7 u8 u9 u10 u11 u12 u13 u14 u15 u16 u17) (G_is_floor:z8y P w K mg base):FnOk P w K mg base (CX1 P w) 3 f fd ["thing"] (spD K mg false z1w 1):=
 fnD (k:=2) F z8a rfl rfl fun cdv A outer s H E hr=>
  (z0o (zbu (z6h (z6f (z1g z3s G_is_floor hr rfl (z00 (qv 0) z04))))
   (z0o (zhm (c:="NoFloor") z3s PySem.F.excBase_ValueError rfl rfl Z.a_NoFloor Z.q_NoFloor (z00 zo5 z04)))
   z4h))
theorem zl1 (F:Fun K "rooms" "rooms" zcv f fd) (T:Txt mg) (Z:Exs K mg u0 u1 u2 u3 u4 u5 u6 u7 u8 u9 u10 u11 u12 u13 u14 u15 u16 u17) (G_room_under:z6a P w K mg base):FnOk P w K mg base (CX1 P w) 3 f fd ["n","lines"] (spD K mg true z7t 2):=
 fnD (k:=2) F sc_rooms rfl rfl fun cdv A outer s H E hr=>
  (z06 (sA 2 sc_rooms.nd (z0e z8g z8q (QE.wk (z3p (z00 (z4g (z00 z05 (z00 (z0e z2a z10 (qv 0) z05) z04))) z04))) (QE.wk (zcj zo8 zo9 rfl T.list boot_list (z00 (qv 1) z04)))))
   (z0o (z1c (zk0 (z7h rfl hr.units) z7g rfl T.sorted boot_sorted (z00 (QE.wk (zql (z17 (caps:=["lines"]) (ix:=[1]) rfl rfl) (by decide +kernel) rfl (z9m (qv 2)) .nil (fun _ _ _=>(z1g zy5 G_room_under hr rfl (z00 (qv 0) (z00 (qv 1) z04)))))) z04)))))
theorem z60 (F:Fun K "_law_is_sorted" "_law_is_sorted" z27 f fd) (T:Txt mg) (Z:Exs K mg u0 u1 u2 u3 u4 u5 u6 u7 u8 u9 u10 u11 u12 u13 u14 u15 u16 u17) (G__law_is_line:z4l P w K mg base):FnOk P w K mg base (CX1 P w) 3 f fd ["_law_found","_law_n"] (spD K mg false z0t 2):=
 fnD (k:=2) F z5w rfl rfl fun cdv A outer s H E hr=>
  (z06 (zbu (QW.pt (zfj (z6h (z6f (zck rfl T.isinstance boot_isinstance (qv 0) (z3r (v:=.ty "tuple") rfl T.tuple boot_tuple rfl)))) (zfj (tN hr (qL T.len (qv 0)) z05 (z0j _)) (zfj (tN hr (qI hr (qv 0) z05) (qv 1) (z0j _)) (zci (z6h (z6f (zck rfl T.isinstance boot_isinstance (qI hr (qv 0) z05) (z3r (v:=.ty "tuple") rfl T.tuple boot_tuple rfl)))))))))
    (z0o (z1c zds))
    z4h)
   (z06 (zbu (QW.pt (zfj (tN hr (qL T.len (qI hr (qv 0) z05)) (z0e z2a z10 (qv 1) z05) (z0j _)) (zci (z6h (z6f (zk0 (zxi rfl) zt2 rfl T.«all» boot_all (z00 (QE.wk (zql (z17 (caps:=["_law_n"]) (ix:=[1]) rfl rfl) (by decide +kernel) rfl (z9m (qI hr (qv 0) z05)) .nil (fun _ _ _=>(z1g zy5 G__law_is_line hr rfl (z00 (qv 0) (z00 (qv 1) z04)))))) z04)))))))
    (z0o (z1c zds))
    z4h)
   (z0o (z1c (zgz (zk0 (zxj rfl) zt3 rfl T.«any» boot_any (z00 (QE.wk (y1j (z17 (caps:=[]) (ix:=[]) rfl rfl) (by decide +kernel) rfl rfl (zvt rfl T.zip (z00 (qI hr (qv 0) z05) (z00 (zwr zps zpt (qI hr (qv 0) z05) (zt4 z05) zyh) z04))) .nil (fun _ _ _=>(z4u (zzi hr.units) zvh (qv 0) (qv 1) (z0j _))))) z04)))))))
theorem zbl (F:Fun K "triangles" "triangles" z4z f fd) (T:Txt mg) (Z:Exs K mg u0 u1 u2 u3 u4 u5 u6 u7 u8 u9 u10 u11 u12 u13 u14 u15 u16 u17) (G_rooms:zih P w K mg base):FnOk P w K mg base (CX1 P w) 4 f fd ["cut"] (spD K mg true z2o 1):=
 fnD (k:=3) F zbf rfl rfl fun cdv A outer s H E hr=>
  (z0o (z1c (z1g z3s G_rooms hr rfl (z00 (qI hr (qv 0) z05) (z00 (qI hr (qv 0) z05) z04)))))
theorem zd1 {d:Nat} (F:Fun K "place_in" "place_in" z5u f fd) (T:Txt mg) (G_place_in:z4f P w K mg base "place_in" ["counts","middles","a","b"] (1+d) (spD K mg false (z89 false 4 2 z0p d) 4)) (Z:Exs K mg u0 u1 u2 u3 u4 u5 u6 u7 u8 u9 u10 u11 u12 u13 u14 u15 u16 u17)  : FnOk P w K mg base (CX1 P w) (1+d+1) f fd ["counts","middles","a","b"] (spD K mg false (z89 false 4 2 z0p (d+1)) 4):=
 fnD (k:=1+d) F sc_place_in rfl rfl fun cdv A outer s H E hr=>
  (z06 (zbu (tE hr (qv 3) (z0e z3n z0y (qv 2) z05) (z0j _))
    (z0o (z1c z05))
    z4h)
   (z06 (sA 4 sc_place_in.nd (y0n (zzk hr.units) zvq (qv 1) (z4g (z00 (qv 2) (z00 (qv 3) z04)))))
   (z06 (sA 5 sc_place_in.nd (zk0 (zs3 rfl) zlo rfl T.sum boot_sum (z00 (QE.wk (zql (z17 (caps:=["counts","a","b"]) (ix:=[0,2,3]) rfl rfl) (by decide +kernel) rfl (zws rfl T.range (z00 (z0e z3n z0y (qv 2) z05) (z00 (qv 4) z04))) .nil (fun _ _ _=>(z0e ze9 za4 (qI hr (qv 1) (z0e z2a z10 (qv 0) (qv 2))) (qI hr (qv 1) (z0e z2a z10 (qv 3) (qv 0))))))) z04)))
   (z0o (z1c (z0e z3n z0y (z0e z3n z0y (qv 5) (z0e ze9 za4 (zkv (z6s _) z3s G_place_in hr rfl (z00 (qv 0) (z00 (qv 1) (z00 (qv 2) (z00 (qv 4) z04))))) (qI hr (qv 0) (z0e z2a z10 (qv 3) (qv 4))))) (zkv (z6s _) z3s G_place_in hr rfl (z00 (qv 0) (z00 (qv 1) (z00 (qv 4) (z00 (qv 3) z04)))))))))))
theorem z82 {d:Nat} (F:Fun K "stretches_at" "stretches_at" z32 f fd) (T:Txt mg) (G_stretches_at:z4f P w K mg base "stretches_at" ["counts","a","b","k"] (1+d) (spD K mg true (z89 true 4 4 z09 d) 4)) (Z:Exs K mg u0 u1 u2 u3 u4 u5 u6 u7 u8 u9 u10 u11 u12 u13 u14 u15 u16 u17)  : FnOk P w K mg base (CX1 P w) (1+d+1) f fd ["counts","a","b","k"] (spD K mg true (z89 true 4 4 z09 (d+1)) 4):=
 fnD (k:=1+d) F sc_stretches_at rfl rfl fun cdv A outer s H E hr=>
  (z06 (zbu (tE hr (qv 2) (z0e z3n z0y (qv 1) z05) (z0j _))
    (z0o (z1c (z3p (z00 (z4g (z00 (qv 1) (z00 (qv 2) z04))) z04))))
    z4h)
   (z06 (sA 4 sc_stretches_at.nd (z0e z3n z0y (qv 1) z05))
   (z06 (sA 5 sc_stretches_at.nd (qv 3))
   (z06 (z9o (n:=1000) PassesOwn.leaving (z6g y0a zso (qv 5) (z0e ze9 za4 (qI hr (qv 0) (z0e z2a z10 (qv 4) (qv 1))) (qI hr (qv 0) (z0e z2a z10 (qv 2) (qv 4)))) (z0j _))
    (z06 (zmi (g:=fun a b=>a - b) (i:=5) zr6 sc_stretches_at.nd rfl (Or.inl rfl) (z0e ze9 za4 (qI hr (qv 0) (z0e z2a z10 (qv 4) (qv 1))) (qI hr (qv 0) (z0e z2a z10 (qv 2) (qv 4)))))
   (z0o (zmi (g:=fun a b=>a+b) (i:=4) zr5 sc_stretches_at.nd rfl (Or.inl rfl) z05))))
   (z06 (sA 6 sc_stretches_at.nd (zkv (z6s _) z3s G_stretches_at hr rfl (z00 (qv 0) (z00 (qv 1) (z00 (qv 4) (z00 (z0e zpg zph (qv 5) (qI hr (qv 0) (z0e z2a z10 (qv 2) (qv 4)))) z04))))))
   (z06 (sA 7 sc_stretches_at.nd (zkv (z6s _) z3s G_stretches_at hr rfl (z00 (qv 0) (z00 (qv 4) (z00 (qv 2) (z00 (z0e zet z8p (qv 5) (qI hr (qv 0) (z0e z2a z10 (qv 2) (qv 4)))) z04))))))
   (z0o (z1c (z0e z8g z8q (QE.wk (z0e z8g z8q (QE.wk (z3p (z00 (z4g (z00 (qv 1) (z00 (qv 2) z04))) z04))) (qv 6))) (qv 7))))))))))
theorem zl2 (F:Fun K "place" "place" zcw f fd) (T:Txt mg) (Z:Exs K mg u0 u1 u2 u3 u4 u5 u6 u7 u8 u9 u10 u11 u12 u13 u14 u15 u16 u17) (G_place_in:z8z P w K mg base) (G_stretch_counts:z28 P w K mg base) (G_triangles:z80 P w K mg base):FnOk P w K mg base (CX1 P w) 66 f fd ["cut"] (spD K mg false z3z 1):=
 fnD (k:=65) F sc_place rfl rfl fun cdv A outer s H E hr=>
  (z06 (sA 1 sc_place.nd (qI hr (qv 0) z05))
   (z06 (sA 2 sc_place.nd (zcj (zpm rfl hr.units) zks rfl T.dict boot_dict (z00 (QE.wk (y1k (z17 (caps:=[]) (ix:=[]) rfl rfl) (by decide +kernel) rfl rfl rfl (z9m (QE.wk (z1g z3s G_triangles hr rfl (z00 (qv 0) z04)))) .nil (fun _ _ _=>(z4g (z00 (z4g (z00 (qv 0) (z00 (qv 2) z04))) (z00 (qv 1) z04)))))) z04)))
   (z0o (z1c (z1g z3s G_place_in hr rfl (z00 (QE.wk (z1g z3s G_stretch_counts hr rfl (z00 (qv 1) z04))) (z00 (qv 2) (z00 z05 (z00 (z0e z2a z10 (qv 1) z05) z04)))))))))
theorem zd2 (F:Fun K "at_place" "at_place" z5v f fd) (T:Txt mg) (Z:Exs K mg u0 u1 u2 u3 u4 u5 u6 u7 u8 u9 u10 u11 u12 u13 u14 u15 u16 u17) (G_check_floor:z5f P w K mg base) (G_is_line:zbi P w K mg base) (G_is_whole:z5x P w K mg base) (G_stretch_counts:z28 P w K mg base) (G_stretches_at:z4m P w K mg base):FnOk P w K mg base (CX1 P w) 66 f fd ["n","k"] (spD K mg false z0u 2):=
 fnD (k:=65) F sc_at_place rfl rfl fun cdv A outer s H E hr=>
  (z06 (zt8 (z1g z3s G_check_floor hr rfl (z00 (qv 0) z04)))
   (z06 (sA 2 sc_at_place.nd (z1g z3s G_stretch_counts hr rfl (z00 (qv 0) z04)))
   (z06 (zbu (QW.pt (zfj (z6h (z6f (z1g z3s G_is_whole hr rfl (z00 (qv 1) z04)))) (zci (z6h (zsw z05 (zh2 zlc zay (qv 1) (zh1 zj2 z4j (qI hr (qv 2) (z0e z2a z10 (qv 0) z05)))))))))
    (z0o (zhm (c:="NoPlace") z3s PySem.F.excBase_ValueError rfl rfl Z.a_NoPlace Z.q_NoPlace (z00 zo5 z04)))
    z4h)
   (z0o (z1c (z4g (z00 (qv 0) (z00 (zcj z9k z9l rfl T.tuple boot_tuple (z00 (QE.wk (zk0 (z7h rfl hr.units) z7g rfl T.sorted boot_sorted (z00 (QE.wk (zql (z17 (caps:=["n"]) (ix:=[0]) rfl rfl) (by decide +kernel) rfl (z9m (QE.wk (z1g z3s G_stretches_at hr rfl (z00 (qv 2) (z00 z05 (z00 (z0e z2a z10 (qv 0) z05) (z00 (qv 1) z04))))))) (.one fun _ _ _=>(z6f (z1g zy5 G_is_line hr rfl (z00 (qv 1) (z00 (qv 0) z04))))) (fun _ _ _=>(qv 0)))) z04))) z04)) z04))))))))
theorem z83 (F:Fun K "_law_refused" "_law_refused" z34 f fd) (T:Txt mg) (Z:Exs K mg u0 u1 u2 u3 u4 u5 u6 u7 u8 u9 u10 u11 u12 u13 u14 u15 u16 u17) (G_at_place:z5y P w K mg base):FnOk P w K mg base (CX1 P w) 67 f fd ["_law_n","_law_many","_law_cell"] (spD K mg false z1j 3):=
 fnD (k:=66) F sc__law_refused rfl rfl fun cdv A outer s H E hr=>
  (z06 (sA 3 sc__law_refused.nd (z0e zet z8p (z0e zro zsm (qv 2) z05) (z0e zxc zsn z05 z05)))
   (z06 (sA 4 sc__law_refused.nd (qI hr (QE.wk (z3p (z00 (qv 1) (z00 (z0e z3n z0y (qv 1) (qv 3)) (z00 (z0e z2a z10 (zwq zje zdq z05) (qv 3)) (z00 zds (z00 zyd (z00 zo5 (z00 (z4g (z00 z05 z04)) z04))))))))) (z0e zet z8p (qv 2) z05)))
   (z06 (sA 5 sc__law_refused.nd (z3p z04))
   (z06 (zyj rfl rfl (ztf (k:=knX) Z.kn G_at_place hr rfl (z00 (qv 0) (z00 (qv 4) z04)))
    (y1n (tb:=z2c) (i:=6) Z.t_FloorError (by decide) rfl sc__law_refused.nd rfl rfl (fun _=>(z06 (sA 5 sc__law_refused.nd (z3p (z00 (ztk (tb:=z2d) rfl T.isinstance boot_isinstance (qv 6) (z3r (v:=.ty "ValueError") rfl T.ValueError PyProof.Rows.Boot.«ValueError» rfl) (.inr ⟨_,rfl,rfl⟩) Z.b_ValueError) (z00 (ztk (tb:=z4d) rfl T.isinstance boot_isinstance (qv 6) (z15 (v:=.ref u10) rfl Z.a_NoPlace rfl) (.inl ⟨_,rfl,rfl⟩) Z.b_NoPlace) (z00 (zhv (tb:=zww) rfl T.isinstance boot_isinstance (qv 6) (.cons (z15 (v:=.ref u7) rfl Z.a_NoFloor rfl) (.cons (z15 (v:=.ref u17) rfl Z.a_TooMany rfl) (.cons (z15 (v:=.ref u4) rfl Z.a_NoCorner rfl) (.cons (z15 (v:=.ref u8) rfl Z.a_NoLine rfl) .nil rfl) rfl) rfl) rfl) (Nat.le_of_ble_eq_true rfl) Z.bt_0) z04)))))
   (z06 (zb1 PySem.F.plainAttrs_list PySem.F.slot_list_append PySem.F.type_list_append z1f z63 z3d (pw 5) (z00 (zhv (tb:=zwx) rfl T.isinstance boot_isinstance (qv 6) (.cons (z15 (v:=.ref u0) rfl Z.a_Crossed rfl) (.cons (z15 (v:=.ref u1) rfl Z.a_Fallen rfl) (.cons (z15 (v:=.ref u3) rfl Z.a_NoBand rfl) (.cons (z15 (v:=.ref u5) rfl Z.a_NoDeed rfl) (.cons (z15 (v:=.ref u6) rfl Z.a_NoEar rfl) (.cons (z15 (v:=.ref u9) rfl Z.a_NoName rfl) (.cons (z15 (v:=.ref u11) rfl Z.a_NoQuotient rfl) .nil rfl) rfl) rfl) rfl) rfl) rfl) rfl) (Nat.le_of_ble_eq_true rfl) Z.bt_1) z04))
   (z0o (zb1 PySem.F.plainAttrs_list PySem.F.slot_list_append PySem.F.type_list_append z1f z63 z3d (pw 5) (z00 (zhv (tb:=zwy) rfl T.isinstance boot_isinstance (qv 6) (.cons (z15 (v:=.ref u12) rfl Z.a_NoRow rfl) (.cons (z15 (v:=.ref u13) rfl Z.a_NoText rfl) (.cons (z15 (v:=.ref u14) rfl Z.a_NoTurn rfl) (.cons (z15 (v:=.ref u15) rfl Z.a_NotAlike rfl) (.cons (z15 (v:=.ref u16) rfl Z.a_NotFull rfl) .nil rfl) rfl) rfl) rfl) rfl) (Nat.le_of_ble_eq_true rfl) Z.bt_2) z04)))))) zyk))
   (z0o (z1c (z4u (z9i hr.units) z9j (qv 5) (QE.wk (z3p (z00 zds (z00 zds (z00 zds (z00 zds (z00 zds z04))))))) (z0j _))))))))
theorem zvy (F:Fun K "law" "law" zpz f fd) (T:Txt mg) (Z:Exs K mg u0 u1 u2 u3 u4 u5 u6 u7 u8 u9 u10 u11 u12 u13 u14 u15 u16 u17) (G__law_glued:z6b P w K mg base) (G__law_is_sorted:z3m P w K mg base) (G__law_pick:z7y P w K mg base) (G__law_plain:z44 P w K mg base) (G__law_refused:z4n P w K mg base) (G__law_third_corners:z29 P w K mg base) (G__law_ways:z7z P w K mg base) (G_at_place:z5y P w K mg base) (G_place:zii P w K mg base):FnOk P w K mg base (CX1 P w) 68 f fd ["_law_script"] (spD K mg false zfc 1):=
 fnD (k:=67) F sc_law rfl rfl fun cdv A outer s H E hr=>
  (z06 (sA 1 sc_law.nd (z1g z3s G__law_glued hr rfl (z00 (QE.wk (zwr zc1 zcl (qv 0) (zt4 z05) zyh)) z04)))
   (z06 (sA 2 sc_law.nd (qI hr (qv 1) z05))
   (z06 (sA 3 sc_law.nd (qI hr (QE.wk (z1g z3s G__law_ways hr rfl (z00 (z0e z2a z10 (qv 2) z05) z04))) (z0e z2a z10 (qv 2) z05)))
   (z06 (zbu (tE hr (z0e zet z8p (z1g z3s G__law_pick hr rfl (z00 (qv 0) (z00 z05 z04))) z05) z05 (z0j _))
    (z0o (z1c (z1g z3s G__law_refused hr rfl (z00 (qv 2) (z00 (qv 3) (z00 (z1g z3s G__law_pick hr rfl (z00 (qv 0) (z00 z05 z04))) z04))))))
    z4h)
   (z06 (sA 4 sc_law.nd (z0e zet z8p (z1g z3s G__law_pick hr rfl (z00 (qv 0) (z00 z05 z04))) (qv 3)))
   (z06 (sA 5 sc_law.nd (z1g z3s G_place hr rfl (z00 (qv 1) z04)))
   (z06 (zbu (QW.pt (zfj (z6h (z6f (z1g z3s G__law_plain hr rfl (z00 (qv 5) z04)))) (zfj (z6h (zsw z05 (zh2 zlc zay (qv 5) (zh1 zj2 z4j (qv 3))))) (zci (tN hr (z1g z3s G_at_place hr rfl (z00 (qv 2) (z00 (qv 5) z04))) (qv 1) (z0j _))))))
    (z0o (z1c zds))
    z4h)
   (z06 (sA 6 sc_law.nd (z1g z3s G_at_place hr rfl (z00 (qv 2) (z00 (qv 4) z04))))
   (z06 (zbu (QW.pt (zfj (z6h (z6f (z1g z3s G__law_is_sorted hr rfl (z00 (qv 6) (z00 (qv 2) z04))))) (zci (tN hr (z1g z3s G_place hr rfl (z00 (qv 6) z04)) (qv 4) (z0j _)))))
    (z0o (z1c zds))
    z4h)
   (z06 (sA 7 sc_law.nd (z1g z3s G__law_third_corners hr rfl (z00 (qv 1) z04)))
   (z06 (sA 8 sc_law.nd (z1g z3s G__law_third_corners hr rfl (z00 (qv 6) z04)))
   (z06 (zbu (tN hr (qL T.len (qv 8)) (z0e z2a z10 (qv 2) z05) (z0j _))
    (z0o (z1c zds))
    z4h)
   (z0o (z1c (zcg (z4u (z9i hr.units) z9j (z4u zj2 z4j (qv 5) (qv 4) (z0j _)) (z4u (zzl hr.units) zvv (qv 7) (qv 8) (z0j _)) (z0j _)) (zch (z4u (z9i hr.units) z9j (z4u (z9i hr.units) z9j (qv 5) (qv 4) (z0j _)) (z4u (z9i hr.units) z9j (qv 1) (qv 6) (z0j _)) (z0j _))))))))))))))))))
end
theorem all_mk {l:PySem.W.OpenLaw} {w:World} {K:Frag} {h:Heap} {mg:Str->Option Value} {fa:Addr} (X:K.In h) (G:h.Ns mainGlobals mg) (hfa:mg "law"=some (.ref fa))
  {f0 f1 f2 f3 f4 f5 f6 f7 f8 f9 f10 f11 f12 f13 f14 f15 f16 f17 f18 f19 f20 f21 f22 f23:Addr}
  {u0 u1 u2 u3 u4 u5 u6 u7 u8 u9 u10 u11 u12 u13 u14 u15 u16 u17:Addr}
  (A0:FnAt K "is_whole" z5s f0)
  (A1:FnAt K "is_side" z7v f1)
  (A2:FnAt K "corner_behind" z2p f2)
  (A3:FnAt K "stretch_counts" z26 f3)
  (A4:FnAt K "_law_pick" z50 f4)
  (A5:FnAt K "_law_plain" z41 f5)
  (A6:FnAt K "_law_put_on" z3g f6)
  (A7:FnAt K "_law_ways" z51 f7)
  (A8:FnAt K "_law_third_corners" z1e f8)
  (A9:FnAt K "is_line" z7w f9)
  (A10:FnAt K "is_floor" z5t f10)
  (A11:FnAt K "room_under" z40 f11)
  (A12:FnAt K "_law_glued" z42 f12)
  (A13:FnAt K "_law_is_line" z33 f13)
  (A14:FnAt K "check_floor" z3f f14)
  (A15:FnAt K "rooms" zcv f15)
  (A16:FnAt K "_law_is_sorted" z27 f16)
  (A17:FnAt K "triangles" z4z f17)
  (A18:FnAt K "place_in" z5u f18)
  (A19:FnAt K "stretches_at" z32 f19)
  (A20:FnAt K "place" zcw f20)
  (A21:FnAt K "at_place" z5v f21)
  (A22:FnAt K "_law_refused" z34 f22)
  (A23:FnAt K "law" zpz f23)
  (T:Txt mg)
  (Z:Exs K mg u0 u1 u2 u3 u4 u5 u6 u7 u8 u9 u10 u11 u12 u13 u14 u15 u16 u17) :
  ∃fd:FuncData,(∀(s:Shared) (v:Value),BindsTo s fd ⟨[v],[]⟩ [("_law_script",v)])/\∀base:Heap,K.In base->base.Ns mainGlobals mg->FnOk l.prog w K mg base (CX1 l.prog w) 68 fa fd ["_law_script"] (spL K false zfc 1):=by
 refine zvi X G hfa A23 (fun _ _ _ _ _ _ _ _=>.of_eq rfl) fun base kb nb fd F=>?_
 have G_is_whole:z5x l.prog w K mg base:=got X G A0 fun F=>zcz F T Z 
 have G_is_side:zbh l.prog w K mg base:=got X G A1 fun F=>zfe F T Z 
 have G_corner_behind:z43 l.prog w K mg base:=got X G A2 fun F=>z6i F T Z 
 have G_stretch_counts:z28 l.prog w K mg base:=got X G A3 fun F=>z5z F T Z 
 have G__law_pick:z7y l.prog w K mg base:=got X G A4 fun F=>zbj F T Z 
 have G__law_plain:z44 l.prog w K mg base:=got X G A5 fun F=>za8 F T Z 
 have G__law_put_on:z5e l.prog w K mg base:=got X G A6 fun F=>z8b F T Z 
 have G__law_ways:z7z l.prog w K mg base:=got X G A7 fun F=>zbk F T Z 
 have G__law_third_corners:z29 l.prog w K mg base:=got X G A8 fun F=>z45 F T Z 
 have G_is_line:zbi l.prog w K mg base:=got X G A9 fun F=>zff F T Z G_is_side
 have G_is_floor:z8y l.prog w K mg base:=got X G A10 fun F=>zd0 F T Z G_is_whole
 have G_room_under:z6a l.prog w K mg base:=got X G A11 fun F=>za9 F T Z G_corner_behind
 have G__law_glued:z6b l.prog w K mg base:=got X G A12 fun F=>zaa F T Z G__law_put_on
 have G__law_is_line:z4l l.prog w K mg base:=got X G A13 fun F=>z81 F T Z G__law_plain
 have G_check_floor:z5f l.prog w K mg base:=got X G A14 fun F=>z8c F T Z G_is_floor
 have G_rooms:zih l.prog w K mg base:=got X G A15 fun F=>zl1 F T Z G_room_under
 have G__law_is_sorted:z3m l.prog w K mg base:=got X G A16 fun F=>z60 F T Z G__law_is_line
 have G_triangles:z80 l.prog w K mg base:=got X G A17 fun F=>zbl F T Z G_rooms
 have G_place_in:z8z l.prog w K mg base:=zi7 X G A18 (fun Gd _ F=>zd1 F T Gd Z ) 64
 have G_stretches_at:z4m l.prog w K mg base:=zi7 X G A19 (fun Gd _ F=>z82 F T Gd Z ) 64
 have G_place:zii l.prog w K mg base:=got X G A20 fun F=>zl2 F T Z G_place_in G_stretch_counts G_triangles
 have G_at_place:z5y l.prog w K mg base:=got X G A21 fun F=>zd2 F T Z G_check_floor G_is_line G_is_whole G_stretch_counts G_stretches_at
 have G__law_refused:z4n l.prog w K mg base:=got X G A22 fun F=>z83 F T Z G_at_place
 exact (zvy F T Z G__law_glued G__law_is_sorted G__law_pick G__law_plain G__law_refused G__law_third_corners G__law_ways G_at_place G_place).imp fun _ _ _ _ z=>z.spD
abbrev kO (n:String) (t1:Nat) (q:String) (t2 t3:Nat) (a b c d e:Int) (r1:Nat) (g:Int) (r2 r3 r4 r5:Nat) (k l:Int) (t4:Nat):Obj:=⟨.type "code",none,.fields [vs n t1,vs q t2,vs "/claim/cut.py" t3,.int a 0,.int b 0,.int c 0,.int d 0,.int e 0,.ref r1,.bool true,.int g 0,.ref r2,.none,.ref r3,.ref r4,.ref r5,.int k 0,.int l 0,vs "/claim/cut.py" t4].toArray,#[]⟩
abbrev kCo (n:String) (t1:Nat) (q:String) (t2 t3:Nat) (a b c d e:Int) (r1:Nat) (g:Int) (r2 r5:Nat) (k l:Int) (t4:Nat):Obj:=⟨.type "code",none,.fields [vs n t1,vs q t2,vs "/claim/cut.py" t3,.int a 0,.int b 0,.int c 0,.int d 0,.int e 0,.ref r1,.bool true,.int g 0,.ref r2,.none,.none,.none,.ref r5,.int k 0,.int l 0,vs "/claim/cut.py" t4].toArray,#[]⟩
abbrev fO (i:Nat) (n m:String) (t r:Nat):Obj:=oF (top i) n n .none .none .none (vs m t) none (.ref r) .none
abbrev cO (n:String) (b a ns r t1 t2:Nat):Obj:=⟨.type "type",none,.cls { name:=Str.ofString n,bases:=[.ref b],mro:=[.ref a,.ref b,.type "ValueError",.type "Exception",.type "BaseException",.type "object"],ns:=ns,qualname:=Str.ofString n,hasDict:=true,slotNames:=[],subclasses:=[],abstract:=false,collection:=none,hasDel:=false },#[some (.ref r),none,some (vs n t1),some (vs n t2),some (.builtin "ValueError.__new__"),some (.bool true)]⟩
noncomputable def K:Params->Frag:=fun P=>
 (nat_lit 2,⟨.none,none,(.dict [].toArray 0),#[]⟩) ::
 (nat_lit 3,oD [en P "__name__" 165 (vs "law_friezeyard_k83_whole_places" 621),en P "__doc__" 166 .none,en P "__package__" 167 .none,en P "__loader__" 168 (.builtin "__main__.__loader__#opaque"),en P "__spec__" 169 .none,en P "__annotations__" 170 (.ref 6),en P "__builtins__" 171 (.ref 4),en P "__file__" 173 (vs "/claim/cut.py" 172),en P "__cached__" 174 .none,en P "FloorError" 206 (.ref 24),en P "NoFloor" 222 (.ref 37),en P "NoLine" 238 (.ref 49),en P "Crossed" 265 (.ref 68),en P "NotFull" 290 (.ref 87),en P "NoText" 306 (.ref 99),en P "NoCorner" 322 (.ref 111),en P "NoEar" 338 (.ref 123),en P "NoRow" 354 (.ref 135),en P "Fallen" 379 (.ref 154),en P "NoBand" 395 (.ref 166),en P "TooMany" 411 (.ref 178),en P "NoQuotient" 427 (.ref 190),en P "NotAlike" 443 (.ref 202),en P "NoPlace" 459 (.ref 214),en P "NoDeed" 475 (.ref 226),en P "NoName" 491 (.ref 238),en P "NoTurn" 507 (.ref 250),en P "is_whole" 516 (.ref 259),en P "is_side" 526 (.ref 266),en P "is_line" 534 (.ref 273),en P "is_floor" 543 (.ref 280),en P "check_floor" 550 (.ref 287),en P "rooms" 558 (.ref 292),en P "room_under" 567 (.ref 299),en P "corner_behind" 573 (.ref 304),en P "triangles" 580 (.ref 311),en P "stretch_counts" 588 (.ref 316),en P "place" 594 (.ref 321),en P "place_in" 600 (.ref 326),en P "at_place" 606 (.ref 331),en P "stretches_at" 620 (.ref 338),en P "_law_pick" 630 (.ref 345),en P "_law_plain" 637 (.ref 352),en P "_law_put_on" 643 (.ref 357),en P "_law_glued" 653 (.ref 364),en P "_law_ways" 663 (.ref 371),en P "_law_is_line" 671 (.ref 378),en P "_law_is_sorted" 677 (.ref 383),en P "_law_third_corners" 683 (.ref 388),en P "_law_refused" 696 (.ref 395),en P "law" 711 (.ref 402)] 51) ::
 (nat_lit 15,oT [(.type "ValueError")]) ::
 (nat_lit 22,oT []) ::
 (nat_lit 23,oD [en P "__module__" 196 (vs "friezeyard.errors" 187),en P "__firstlineno__" 200 (.int 2 199),en P "__static_attributes__" 201 (.ref 22),en P "__weakref__" 203 (.ref 25),en P "__doc__" 204 .none] 3) ::
 (nat_lit 24,⟨(.type "type"),none,(.cls { name:=Str.ofString "FloorError",bases:=[(.type "ValueError")],mro:=[(.ref 24),(.type "ValueError"),(.type "Exception"),(.type "BaseException"),(.type "object")],ns:=23,qualname:=Str.ofString "FloorError",hasDict:=true,slotNames:=[],subclasses:=[(.ref 37),(.ref 49),(.ref 68),(.ref 87),(.ref 99),(.ref 111),(.ref 123),(.ref 135),(.ref 154),(.ref 166),(.ref 178),(.ref 190),(.ref 202),(.ref 214),(.ref 226),(.ref 238),(.ref 250)],abstract:=false,collection:=none,hasDel:=false }),#[some (.ref 15),none,some (vs "FloorError" 189),some (vs "FloorError" 197),some (.builtin "ValueError.__new__"),some (.bool true)]⟩) ::
 (nat_lit 25,⟨(.type "getset_descriptor"),none,(.fields [(vs "__weakref__" 202),(.ref 24),(.builtin "ExceptionGroup.__weakref__"),.none].toArray),#[]⟩) ::
 (nat_lit 28,oT [(.ref 24)]) ::
 (nat_lit 35,oT []) ::
 (nat_lit 36,oD [en P "__module__" 214 (vs "friezeyard.errors" 187),en P "__firstlineno__" 218 (.int 4 217),en P "__static_attributes__" 219 (.ref 35),en P "__doc__" 220 .none] 2) ::
 (nat_lit 37,(cO "NoFloor" 24 37 36 28 207 215)) ::
 (nat_lit 40,oT [(.ref 24)]) ::
 (nat_lit 47,oT []) ::
 (nat_lit 48,oD [en P "__module__" 230 (vs "friezeyard.errors" 187),en P "__firstlineno__" 234 (.int 6 233),en P "__static_attributes__" 235 (.ref 47),en P "__doc__" 236 .none] 2) ::
 (nat_lit 49,(cO "NoLine" 24 49 48 40 223 231)) ::
 (nat_lit 52,oT [(.ref 24)]) ::
 (nat_lit 59,oT []) ::
 (nat_lit 61,oT [(vs "self" 254),(vs "one" 255),(vs "other" 256)]) ::
 (nat_lit 62,oT []) ::
 (nat_lit 64,(kO "__init__" 251 "Crossed.__init__" 252 253 10 3 0 0 3 59 181 60 61 62 63 257 10 258)) ::
 (nat_lit 65,oF (zpw (top 4) 0) "__init__" "Crossed.__init__" .none .none .none (vs "friezeyard.errors" 187) none (.ref 64) .none) ::
 (nat_lit 66,oT [(vs "one" 260),(vs "other" 261)]) ::
 (nat_lit 67,oD [en P "__module__" 246 (vs "friezeyard.errors" 187),en P "__firstlineno__" 250 (.int 8 249),en P "__init__" 259 (.ref 65),en P "__static_attributes__" 262 (.ref 66),en P "__doc__" 263 .none] 2) ::
 (nat_lit 68,(cO "Crossed" 24 68 67 52 239 247)) ::
 (nat_lit 71,oT [(.ref 24)]) ::
 (nat_lit 78,oT []) ::
 (nat_lit 80,oT [(vs "self" 281),(vs "line" 282)]) ::
 (nat_lit 81,oT []) ::
 (nat_lit 83,(kO "__init__" 278 "NotFull.__init__" 279 280 15 2 0 0 3 78 181 79 80 81 82 283 15 284)) ::
 (nat_lit 84,oF (zpw (top 5) 0) "__init__" "NotFull.__init__" .none .none .none (vs "friezeyard.errors" 187) none (.ref 83) .none) ::
 (nat_lit 85,oT [(vs "line" 286)]) ::
 (nat_lit 86,oD [en P "__module__" 273 (vs "friezeyard.errors" 187),en P "__firstlineno__" 277 (.int 13 276),en P "__init__" 285 (.ref 84),en P "__static_attributes__" 287 (.ref 85),en P "__doc__" 288 .none] 2) ::
 (nat_lit 87,(cO "NotFull" 24 87 86 71 266 274)) ::
 (nat_lit 90,oT [(.ref 24)]) ::
 (nat_lit 97,oT []) ::
 (nat_lit 98,oD [en P "__module__" 298 (vs "friezeyard.errors" 187),en P "__firstlineno__" 302 (.int 17 301),en P "__static_attributes__" 303 (.ref 97),en P "__doc__" 304 .none] 2) ::
 (nat_lit 99,(cO "NoText" 24 99 98 90 291 299)) ::
 (nat_lit 102,oT [(.ref 24)]) ::
 (nat_lit 109,oT []) ::
 (nat_lit 110,oD [en P "__module__" 314 (vs "friezeyard.errors" 187),en P "__firstlineno__" 318 (.int 19 317),en P "__static_attributes__" 319 (.ref 109),en P "__doc__" 320 .none] 2) ::
 (nat_lit 111,(cO "NoCorner" 24 111 110 102 307 315)) ::
 (nat_lit 114,oT [(.ref 24)]) ::
 (nat_lit 121,oT []) ::
 (nat_lit 122,oD [en P "__module__" 330 (vs "friezeyard.errors" 187),en P "__firstlineno__" 334 (.int 21 333),en P "__static_attributes__" 335 (.ref 121),en P "__doc__" 336 .none] 2) ::
 (nat_lit 123,(cO "NoEar" 24 123 122 114 323 331)) ::
 (nat_lit 126,oT [(.ref 24)]) ::
 (nat_lit 133,oT []) ::
 (nat_lit 134,oD [en P "__module__" 346 (vs "friezeyard.errors" 187),en P "__firstlineno__" 350 (.int 23 349),en P "__static_attributes__" 351 (.ref 133),en P "__doc__" 352 .none] 2) ::
 (nat_lit 135,(cO "NoRow" 24 135 134 126 339 347)) ::
 (nat_lit 138,oT [(.ref 24)]) ::
 (nat_lit 145,oT []) ::
 (nat_lit 147,oT [(vs "self" 370),(vs "corner" 371)]) ::
 (nat_lit 148,oT []) ::
 (nat_lit 150,(kO "__init__" 367 "Fallen.__init__" 368 369 27 2 0 0 3 145 181 146 147 148 149 372 27 373)) ::
 (nat_lit 151,oF (zpw (top 10) 0) "__init__" "Fallen.__init__" .none .none .none (vs "friezeyard.errors" 187) none (.ref 150) .none) ::
 (nat_lit 152,oT [(vs "corner" 375)]) ::
 (nat_lit 153,oD [en P "__module__" 362 (vs "friezeyard.errors" 187),en P "__firstlineno__" 366 (.int 25 365),en P "__init__" 374 (.ref 151),en P "__static_attributes__" 376 (.ref 152),en P "__doc__" 377 .none] 2) ::
 (nat_lit 154,(cO "Fallen" 24 154 153 138 355 363)) ::
 (nat_lit 157,oT [(.ref 24)]) ::
 (nat_lit 164,oT []) ::
 (nat_lit 165,oD [en P "__module__" 387 (vs "friezeyard.errors" 187),en P "__firstlineno__" 391 (.int 29 390),en P "__static_attributes__" 392 (.ref 164),en P "__doc__" 393 .none] 2) ::
 (nat_lit 166,(cO "NoBand" 24 166 165 157 380 388)) ::
 (nat_lit 169,oT [(.ref 24)]) ::
 (nat_lit 176,oT []) ::
 (nat_lit 177,oD [en P "__module__" 403 (vs "friezeyard.errors" 187),en P "__firstlineno__" 407 (.int 31 406),en P "__static_attributes__" 408 (.ref 176),en P "__doc__" 409 .none] 2) ::
 (nat_lit 178,(cO "TooMany" 24 178 177 169 396 404)) ::
 (nat_lit 181,oT [(.ref 24)]) ::
 (nat_lit 188,oT []) ::
 (nat_lit 189,oD [en P "__module__" 419 (vs "friezeyard.errors" 187),en P "__firstlineno__" 423 (.int 33 422),en P "__static_attributes__" 424 (.ref 188),en P "__doc__" 425 .none] 2) ::
 (nat_lit 190,(cO "NoQuotient" 24 190 189 181 412 420)) ::
 (nat_lit 193,oT [(.ref 24)]) ::
 (nat_lit 200,oT []) ::
 (nat_lit 201,oD [en P "__module__" 435 (vs "friezeyard.errors" 187),en P "__firstlineno__" 439 (.int 35 438),en P "__static_attributes__" 440 (.ref 200),en P "__doc__" 441 .none] 2) ::
 (nat_lit 202,(cO "NotAlike" 24 202 201 193 428 436)) ::
 (nat_lit 205,oT [(.ref 24)]) ::
 (nat_lit 212,oT []) ::
 (nat_lit 213,oD [en P "__module__" 451 (vs "friezeyard.errors" 187),en P "__firstlineno__" 455 (.int 37 454),en P "__static_attributes__" 456 (.ref 212),en P "__doc__" 457 .none] 2) ::
 (nat_lit 214,(cO "NoPlace" 24 214 213 205 444 452)) ::
 (nat_lit 217,oT [(.ref 24)]) ::
 (nat_lit 224,oT []) ::
 (nat_lit 225,oD [en P "__module__" 467 (vs "friezeyard.errors" 187),en P "__firstlineno__" 471 (.int 39 470),en P "__static_attributes__" 472 (.ref 224),en P "__doc__" 473 .none] 2) ::
 (nat_lit 226,(cO "NoDeed" 24 226 225 217 460 468)) ::
 (nat_lit 229,oT [(.ref 24)]) ::
 (nat_lit 236,oT []) ::
 (nat_lit 237,oD [en P "__module__" 483 (vs "friezeyard.errors" 187),en P "__firstlineno__" 487 (.int 41 486),en P "__static_attributes__" 488 (.ref 236),en P "__doc__" 489 .none] 2) ::
 (nat_lit 238,(cO "NoName" 24 238 237 229 476 484)) ::
 (nat_lit 241,oT [(.ref 24)]) ::
 (nat_lit 248,oT []) ::
 (nat_lit 249,oD [en P "__module__" 499 (vs "friezeyard.errors" 187),en P "__firstlineno__" 503 (.int 43 502),en P "__static_attributes__" 504 (.ref 248),en P "__doc__" 505 .none] 2) ::
 (nat_lit 250,(cO "NoTurn" 24 250 249 241 492 500)) ::
 (nat_lit 253,oT []) ::
 (nat_lit 255,oT [(vs "thing" 513)]) ::
 (nat_lit 256,oT []) ::
 (nat_lit 258,(kO "is_whole" 510 "is_whole" 511 512 46 1 0 0 3 253 181 254 255 256 257 514 46 515)) ::
 (nat_lit 259,(fO 20 "is_whole" "friezeyard.pairs" 508 258)) ::
 (nat_lit 260,oT []) ::
 (nat_lit 262,oT [(vs "n" 520),(vs "p" 521),(vs "a" 522),(vs "b" 523)]) ::
 (nat_lit 263,oT []) ::
 (nat_lit 265,(kO "is_side" 517 "is_side" 518 519 48 2 0 0 3 260 181 261 262 263 264 524 48 525)) ::
 (nat_lit 266,(fO 21 "is_side" "friezeyard.pairs" 508 265)) ::
 (nat_lit 267,oT []) ::
 (nat_lit 269,oT [(vs "n" 530),(vs "p" 531)]) ::
 (nat_lit 270,oT []) ::
 (nat_lit 272,(kO "is_line" 527 "is_line" 528 529 54 2 0 0 3 267 181 268 269 270 271 532 54 533)) ::
 (nat_lit 273,(fO 22 "is_line" "friezeyard.pairs" 508 272)) ::
 (nat_lit 274,oT []) ::
 (nat_lit 276,oT [(vs "thing" 540)]) ::
 (nat_lit 277,oT []) ::
 (nat_lit 279,(kO "is_floor" 537 "is_floor" 538 539 57 1 0 0 3 274 181 275 276 277 278 541 57 542)) ::
 (nat_lit 280,(fO 24 "is_floor" "friezeyard.common" 535 279)) ::
 (nat_lit 281,oT []) ::
 (nat_lit 283,oT [(vs "thing" 547)]) ::
 (nat_lit 284,oT []) ::
 (nat_lit 286,(kO "check_floor" 544 "check_floor" 545 546 59 1 0 0 3 281 181 282 283 284 285 548 59 549)) ::
 (nat_lit 287,(fO 25 "check_floor" "friezeyard.common" 535 286)) ::
 (nat_lit 288,oT []) ::
 (nat_lit 291,(kCo "rooms" 553 "rooms" 554 555 63 2 0 0 3 288 181 289 290 556 63 557)) ::
 (nat_lit 292,(fO 27 "rooms" "friezeyard.rooms" 551 291)) ::
 (nat_lit 293,oT []) ::
 (nat_lit 295,oT [(vs "top" 562),(vs "lines" 563),(vs "room" 564)]) ::
 (nat_lit 296,oT []) ::
 (nat_lit 298,(kO "room_under" 559 "room_under" 560 561 66 2 0 0 3 293 181 294 295 296 297 565 66 566)) ::
 (nat_lit 299,(fO 28 "room_under" "friezeyard.rooms" 551 298)) ::
 (nat_lit 300,oT []) ::
 (nat_lit 303,(kCo "corner_behind" 568 "corner_behind" 569 570 71 3 0 0 3 300 181 301 302 571 71 572)) ::
 (nat_lit 304,(fO 29 "corner_behind" "friezeyard.rooms" 551 303)) ::
 (nat_lit 305,oT []) ::
 (nat_lit 307,oT [(vs "cut" 577)]) ::
 (nat_lit 308,oT []) ::
 (nat_lit 310,(kO "triangles" 574 "triangles" 575 576 74 1 0 0 3 305 181 306 307 308 309 578 74 579)) ::
 (nat_lit 311,(fO 30 "triangles" "friezeyard.rooms" 551 310)) ::
 (nat_lit 312,oT []) ::
 (nat_lit 315,(kCo "stretch_counts" 583 "stretch_counts" 584 585 77 1 0 0 3 312 181 313 314 586 77 587)) ::
 (nat_lit 316,(fO 32 "stretch_counts" "friezeyard.places" 581 315)) ::
 (nat_lit 317,oT []) ::
 (nat_lit 320,(kCo "place" 589 "place" 590 591 82 1 0 0 3 317 181 318 319 592 82 593)) ::
 (nat_lit 321,(fO 33 "place" "friezeyard.places" 581 320)) ::
 (nat_lit 322,oT []) ::
 (nat_lit 325,(kCo "place_in" 595 "place_in" 596 597 86 4 0 0 3 322 181 323 324 598 86 599)) ::
 (nat_lit 326,(fO 34 "place_in" "friezeyard.places" 581 325)) ::
 (nat_lit 327,oT []) ::
 (nat_lit 330,(kCo "at_place" 601 "at_place" 602 603 92 2 0 0 3 327 181 328 329 604 92 605)) ::
 (nat_lit 331,(fO 35 "at_place" "friezeyard.places" 581 330)) ::
 (nat_lit 332,oT []) ::
 (nat_lit 334,oT [(vs "counts" 610),(vs "a" 611),(vs "b" 612),(vs "k" 613),(vs "c" 614),(vs "rest" 615),(vs "low" 616),(vs "high" 617)]) ::
 (nat_lit 335,oT []) ::
 (nat_lit 337,(kO "stretches_at" 607 "stretches_at" 608 609 98 4 0 0 3 332 181 333 334 335 336 618 98 619)) ::
 (nat_lit 338,(fO 36 "stretches_at" "friezeyard.places" 581 337)) ::
 (nat_lit 339,oT []) ::
 (nat_lit 341,oT [(vs "_law_script" 626),(vs "_law_k" 627)]) ::
 (nat_lit 342,oT []) ::
 (nat_lit 344,(kO "_law_pick" 623 "_law_pick" 624 625 110 2 0 0 3 339 181 340 341 342 343 628 110 629)) ::
 (nat_lit 345,(fO 38 "_law_pick" "law_friezeyard_k83_whole_places" 621 344)) ::
 (nat_lit 346,oT []) ::
 (nat_lit 348,oT [(vs "_law_found" 634)]) ::
 (nat_lit 349,oT []) ::
 (nat_lit 351,(kO "_law_plain" 631 "_law_plain" 632 633 112 1 0 0 3 346 181 347 348 349 350 635 112 636)) ::
 (nat_lit 352,(fO 39 "_law_plain" "law_friezeyard_k83_whole_places" 621 351)) ::
 (nat_lit 353,oT []) ::
 (nat_lit 356,(kCo "_law_put_on" 638 "_law_put_on" 639 640 116 3 0 0 3 353 181 354 355 641 116 642)) ::
 (nat_lit 357,(fO 40 "_law_put_on" "law_friezeyard_k83_whole_places" 621 356)) ::
 (nat_lit 358,oT []) ::
 (nat_lit 360,oT [(vs "_law_cells" 647),(vs "_law_n" 648),(vs "_law_lines" 649),(vs "_law_cell" 650)]) ::
 (nat_lit 361,oT []) ::
 (nat_lit 363,(kO "_law_glued" 644 "_law_glued" 645 646 121 1 0 0 3 358 181 359 360 361 362 651 121 652)) ::
 (nat_lit 364,(fO 41 "_law_glued" "law_friezeyard_k83_whole_places" 621 363)) ::
 (nat_lit 365,oT []) ::
 (nat_lit 367,oT [(vs "_law_most" 657),(vs "_law_ways_here" 658),(vs "_law_total" 659),(vs "_law_k" 660)]) ::
 (nat_lit 368,oT []) ::
 (nat_lit 370,(kO "_law_ways" 654 "_law_ways" 655 656 128 1 0 0 3 365 181 366 367 368 369 661 128 662)) ::
 (nat_lit 371,(fO 42 "_law_ways" "law_friezeyard_k83_whole_places" 621 370)) ::
 (nat_lit 372,oT []) ::
 (nat_lit 374,oT [(vs "_law_line" 667),(vs "_law_n" 668)]) ::
 (nat_lit 375,oT []) ::
 (nat_lit 377,(kO "_law_is_line" 664 "_law_is_line" 665 666 136 2 0 0 3 372 181 373 374 375 376 669 136 670)) ::
 (nat_lit 378,(fO 43 "_law_is_line" "law_friezeyard_k83_whole_places" 621 377)) ::
 (nat_lit 379,oT []) ::
 (nat_lit 382,(kCo "_law_is_sorted" 672 "_law_is_sorted" 673 674 140 2 0 0 3 379 181 380 381 675 140 676)) ::
 (nat_lit 383,(fO 44 "_law_is_sorted" "law_friezeyard_k83_whole_places" 621 382)) ::
 (nat_lit 384,oT []) ::
 (nat_lit 387,(kCo "_law_third_corners" 678 "_law_third_corners" 679 680 146 1 0 0 3 384 181 385 386 681 146 682)) ::
 (nat_lit 388,(fO 45 "_law_third_corners" "law_friezeyard_k83_whole_places" 621 387)) ::
 (nat_lit 389,oT []) ::
 (nat_lit 391,oT [(vs "_law_n" 687),(vs "_law_many" 688),(vs "_law_cell" 689),(vs "_law_far" 690),(vs "_law_thing" 691),(vs "_law_told" 692),(vs "e" 693)]) ::
 (nat_lit 392,oT []) ::
 (nat_lit 394,(kO "_law_refused" 684 "_law_refused" 685 686 162 3 0 0 3 389 181 390 391 392 393 694 162 695)) ::
 (nat_lit 395,(fO 46 "_law_refused" "law_friezeyard_k83_whole_places" 621 394)) ::
 (nat_lit 396,oT []) ::
 (nat_lit 398,oT [(vs "_law_script" 700),(vs "_law_cut" 701),(vs "_law_n" 702),(vs "_law_many" 703),(vs "_law_k" 704),(vs "_law_one" 705),(vs "_law_other" 706),(vs "_law_ours" 707),(vs "_law_theirs" 708)]) ::
 (nat_lit 399,oT []) ::
 (nat_lit 401,(kO "law" 697 "law" 698 699 173 1 0 0 3 396 181 397 398 399 400 709 173 710)) ::
 (nat_lit 402,(fO 47 "law" "law_friezeyard_k83_whole_places" 621 401))::[]
noncomputable def places:List Addr:=[2,3,15,22,23,24,25,28,35,36,37,40,47,48,49,52,59,61,62,64,65,66,67,68,71,78,80,81,83,84,85,86,87,90,97,98,99,102,109,110,111,114,121,122,123,126,133,134,135,138,145,147,148,150,151,152,153,154,157,164,165,166,169,176,177,178,181,188,189,190,193,200,201,202,205,212,213,214,217,224,225,226,229,236,237,238,241,248,249,250,253,255,256,258,259,260,262,263,265,266,267,269,270,272,273,274,276,277,279,280,281,283,284,286,287,288,291,292,293,295,296,298,299,300,303,304,305,307,308,310,311,312,315,316,317,320,321,322,325,326,327,330,331,332,334,335,337,338,339,341,342,344,345,346,348,349,351,352,353,356,357,358,360,361,363,364,365,367,368,370,371,372,374,375,377,378,379,382,383,384,387,388,389,391,392,394,395,396,398,399,401,402]
theorem zl3:∀P,places=(K P).map (·.1):=fun _=>by kernel_rfl
noncomputable def hook:PySem.W.Hook:=PySem.W.kHook K places zl3
noncomputable def q:Program:=PySem.W.view PySem.Challenge.pw_friezeyard_k83_whole_places [1,2,3,4,5,6,7,8,9,10,11,12,13,14,15,16,17,18,20,21,22,24,25,27,28,29,30,32,33,34,35,36,38,39,40,41,42,43,44,45,46,47]
noncomputable def xtH (s:Shared):Bool:=PySem.W.xlAt q [] s&&PySem.W.recOk (PySem.W.RowW.records PySem.Challenge.rw_friezeyard_k83_whole_places.row.toRowW) s
noncomputable def out (w:World) (os:OsState):=outAt PySem.Challenge.pw_friezeyard_k83_whole_places q [] xtH (fun s=>places.map s.heap.get?) 9452 w os
noncomputable def good:=PySem.W.openGood q []
example:((fun (_:Params->Obj) (_:Str)=>true) PySem.W.boot_o_0 (Str.ofString "dull"))=true:=by k_qdec
lay_quick out good
theorem zvz:∀w os,out w os=some (true,good,(K w.params).map fun p=>some p.2):=fun w os=>(congrFun (congrFun PySem.W.Fast.te8211165824501677710 w) os).trans (by rw [PySem.W.Fast.te17544819177559204862];kernel_rfl)
theorem left:PySem.W.LeftO PySem.Challenge.pw_friezeyard_k83_whole_places q [] xtH (PySem.W.Hook.obs hook) (PySem.W.Hook.val hook) 9452:=zpv (by kernel_rfl) (by kernel_rfl) (fun _=>by kernel_rfl) zvz
end K83
set_option maxHeartbeats 400000
namespace K83
open L2 Bd Cu
local macro_rules | `(tactic| walk_at "dz")=>do
 let a:=("z9z,zm2,zyo,zty,ztx,zxw,zc9,sNx,y1d,zfh,zy1,zzf,y1a,zlj,z9g,z59,ztz,zu0,zor,zm3,zto,ztp,zts,ztq,ztr,zop,ztt,ztu,ztv,ztw,zoq,zos,ze2,zyp,zyq,zyr,zkc,zkd,zu1,ze3,za0,zot,zm4,zuu,zz3,zz4,zz5,zuv,zuw,zp4,zp5,ze4,zou,zke,zkf,za1,za2,zuq,zb6,zpa,zu2,zu3,z7j,zu4,zov,zow,zox,zoy,zjs,zdn,Option.bind_some,Bool.and_true,Bool.true_and,zys,zyt,zyu,zyv,y1p,y1q,eC,eOp,eUn,z0h,z01,z0v,eCB,z88,z76,eIf,eSl,oSo,oNo,zuz,zqg,bOr,zbs,z2r,zgo,eOr,znv,zqh,zc7,zav,z8j,z8k,z3b,iL,zp8,zp9,zp3,zp1,zp2,L2.R.bind_ok,L2.R.of_some,z2y,z5j,zfi,dLe,zqj,dGe,zyw,zlm,zyx,zm5,zu5,zu6,zu7,zu8,zu9,zua,zub,zm6,zm7,zuc,zud,zue,zuf,zm9,zug,zyz,zur,zz0,zz2,zz9,zv5,zv6,zpb,zpc,zkk,zkl,y1r,zus,zut,y1s,y1t,zyg,zyf,zza,zzb,zv8,zv9,zva,zvb,zvc,zzc,zzd,zko,z7o,zmd,zyy,zuh,zui,zoz,zuj,zuk,zul,zhp,zma,zum,ze5,zun,zuo,zup,zp0,List.map_cons,List.map_nil,List.length_cons,List.length_nil,List.cons_append,List.nil_append,List.replicate_succ,List.replicate_zero,List.getElem?_cons_zero,List.getElem?_cons_succ,List.set_cons_zero,List.set_cons_succ,Option.map_some,Option.getD_some,if_true,if_false,Bool.false_eq_true,Bool.not_true,Bool.not_false,Bool.and_false,Bool.false_and,Bool.or_true,Bool.true_or,Bool.or_false,Bool.false_or,Nat.reduceAdd,Nat.reduceLeDiff,Nat.reduceEqDiff,reduceCtorEq,decide_true,decide_false,Int.reduceEq".splitOn ",").toArray.map fun s=>Lean.mkIdent s.toName
 `(tactic| try simp (implicitDefEqProofs:=false) only [$[$a:term],*])
theorem zw0 {ns:List Int} {x:Int} {j:Nat} (h:ixN ns.length x=some j) (hj:j<ns.length):dIx (L ns) (.int x)=some (.int (ns.getD j 0)):=by
 simp only [L,dIx,dOr,zcf,atI,List.length_map,h,Option.bind_some,List.getElem?_map,List.getElem?_eq_getElem hj,Option.map_some,List.getD_eq_getElem?_getD,Option.getD_some]
theorem z0g {a r:DS->SR} {ρ ρ':DS} (h:a ρ=.nx ρ'):z0z a r ρ=r ρ':=by rw [zm2,h,zm3]
theorem zw1 (d:Int) (ns:List Int):zf4 [L ns,.int d]=some (.int (mxD d ns)):=by simp only [L,zf4,z1m,Option.map_some]
theorem zl4 (c:Int) (p:P2) (ls:List P2) (hl:ls.length<=1000):z18 [.int c,T2 p,.tup (ls.map T2)]=.ok (.int (mxD (c+1) (ends c p ls))):=by
 unfold z18 z3w
 walk_at "dz"
 rw [if_pos (by rw [List.length_map];omega),z7l (en:=T2) (bs:=fun l=>[T2 l]) (p:=pk c p) (g:=fun l=>D.int l.2) ls (fun x _=>rfl) (fun l _=>by
  unfold z36
  simp only [T2]
  walk_at "dz"
  rfl) (fun l _ _=>by
  unfold z37
  simp only [T2]
  walk_at "dz")]
 simp only [R.bind_ok]
 rw [show D.lst ((ls.filter (pk c p)).map fun l=>D.int l.2)=L (ends c p ls) by unfold L ends;rw [List.map_map];rfl]
 walk_at "dz"
 rw [zw1]
 walk_at "dz"
theorem z5g (t:DE->R Bool) (g:DS->SR) (n:Nat) (ρ:DS):z2j t g (n+1) ρ=(t (see ρ)).toS fun b=>if b=true then (g ρ).itr (z2j t g n) else .nx ρ:=by
 rw [z2j];congr 1
theorem zmq (xs:List Int) (v:Int):dIx (L (xs++[v])) (.int (-1))=some (.int v):=by
 have:(xs++[v]).map D.int=xs.map D.int++[D.int v]:=by simp
 simp only [L,dIx,dOr,zcf,this,zjb]
theorem zd3 (ls:List P2) (p:P2) (xs:List Int) (v:Int):z1z [some (T2 p),some (.tup (ls.map T2)),some (L (xs++[v]))]=.ok (decide (v<p.2)):=by
 unfold z1z
 simp only [T2]
 walk_at "dz"
 rw [zmq]
 walk_at "dz"
theorem zij (ls:List P2) (hl:ls.length<=1000) (p:P2) (xs:List Int) (v:Int) (hx:xs.length<1000):z20 [.im (T2 p),.im (.tup (ls.map T2)),.ow (L (xs++[v]))]=.nx [.im (T2 p),.im (.tup (ls.map T2)),.ow (L (xs++[v]++[mxD (v+1) (ends v p ls)]))]:=by
 unfold z20
 walk_at "dz"
 rw [zmq]
 walk_at "dz"
 rw [zl4 _ _ _ hl]
 walk_at "dz"
 rw [zkh (by simp;omega)]
 walk_at "dz"
theorem zq0 {n:Int} {ls ls':List P2} {T:List P3} (I:CInv n ls T) (p:ls'.Perm ls) (hl:ls'.length<=1000) (a c b:Int) (h:(a,c,b)∈T) :
  z23 [T2 (a,b),.tup (ls'.map T2)]=.ok (T3 (a,c,b)):=by
 obtain ⟨g1,g2,g3,g4,_⟩:=I.tri a c b h
 unfold z23 z67
 walk_at "dz"
 have w:z3j 1000 z1z z20 [.im (T2 (a,b)),.im (.tup (ls'.map T2)),.ow (L [a])]=.nx [.im (T2 (a,b)),.im (.tup (ls'.map T2)),.ow (L [a,c,b])]:=by
  have t1:=zd3 ls' (a,b) [] a
  have t2:=zd3 ls' (a,b) [a] c
  have t3:=zd3 ls' (a,b) [a,c] b
  have b1:=zij ls' hl (a,b) [] a (by simp)
  have b2:=zij ls' hl (a,b) [a] c (by simp)
  rw [I.beh1 p h] at b1
  rw [I.beh2 p h] at b2
  simp only [List.nil_append,List.cons_append] at t1 t2 t3 b1 b2
  unfold z3j
  rw [show (1000:Nat)=997+1+1+1 from rfl,z5g]
  simp only [zkd,ze3,za0,zkc]
  rw [t1,z59,decide_eq_true (show a<b by omega),if_pos rfl,b1,ze5,z5g]
  simp only [zkd,ze3,za0,zkc]
  rw [t2,z59,decide_eq_true (show c<b by omega),if_pos rfl,b2,ze5,z5g]
  simp only [zkd,ze3,za0,zkc]
  rw [t3,z59,decide_eq_false (show ¬b<b by omega),if_neg Bool.false_ne_true]
 rw [show D.lst [D.int a]=L [a] from rfl,w]
 walk_at "dz"
 rfl
theorem zq1 {n:Int} {ls ls':List P2} {T:List P3} (I:CInv n ls T) (p:ls'.Perm ls) (hl:ls.length<=60) :
  z7t [.int n,.tup (ls'.map T2)]=.ok (.lst ((so3 T).map T3)):=by
 have hl':ls'.length<=60:=by rw [p.length_eq];exact hl
 unfold z7t zif
 walk_at "dz"
 rw [show zaz (D.lst [D.tup [D.int 0,D.int (n - 1)]]) (D.lst (ls'.map T2))=some (.lst (((0,n - 1)::ls').map T2)) by
  simp only [zaz];rw [if_pos (by simp;omega)];rfl]
 obtain ⟨tops,ht⟩:∃tops:List P2,tops=(0,n - 1)::ls':=⟨_,rfl⟩
 have hlt:tops.length<=61:=by rw [ht,List.length_cons];omega
 rw [<-ht]
 have kp:keeps true (D.lst (tops.map T2))=true:=by rw [za2];exact z1u _ _ fun x _=>z7o x
 simp only [R.of_some,z59,kp]
 walk_at "dz"
 rw [if_pos (by rw [List.length_map];omega),z21 (en:=T2) (bs:=fun q=>[T2 q]) (g:=fun q=>T3 (thr T q)) tops (fun x _=>rfl) (fun q hq=>by
  obtain ⟨m1,m2⟩:=I.top_in p (by rw [<-ht];exact hq)
  unfold zbe
  walk_at "dz"
  generalize thr T q=u at m1 m2
  obtain ⟨a,c,b⟩:=u
  rw [<-m2]
  exact zq0 I p (by omega) a c b m1)]
 walk_at "dz"
 have e1:tops.map (fun q=>T3 (thr T q))=(tops.map (thr T)).map T3:=by rw [List.map_map];rfl
 have pm:(tops.map (thr T)).Perm T:=by rw [ht];exact I.tops p
 rw [e1,zht _ (by rw [List.length_map];omega),ze8 pm]
 walk_at "dz"
theorem zd4 {n:Int} {ls ls':List P2} {T:List P3} (I:CInv n ls T) (p:ls'.Perm ls) (hl:ls.length<=60) :
  z2o [.tup [.int n,.tup (ls'.map T2)]]=.ok (.lst ((so3 T).map T3)):=by
 unfold z2o z7u
 walk_at "dz"
 rw [zq1 I p hl]
 walk_at "dz"
theorem y0u (c x:Int):x+(if decide (c<x)=true then 1 else 0)=sh c x:=by
 unfold sh;by_cases h:c<x
 . rw [decide_eq_true h,if_pos rfl,if_pos h]
 . rw [decide_eq_false h,if_neg Bool.false_ne_true,if_neg h];omega
theorem zd5 (i:Int):z19 [.int i]=.ok (.bl true):=by
 unfold z19 z66
 walk_at "dz"
def pkv (ns:List Int) (k:Int):Int:=(z86 ns (some k) (some (k+1))++[0]).getD 0 0
theorem zik (ns:List Int) (a b:Option Int):(z86 ns a b).length<=ns.length:=by
 unfold z86;simp only [List.length_drop,List.length_take];omega
theorem zmr (ns:List Int) (hl:ns.length<=63) (k:Int):z1l [.scr ns,.int k]=.ok (.int (pkv ns k)):=by
 have h:=zik ns (some k) (some (k+1))
 unfold z1l z7s pkv
 walk_at "dz"
 generalize z86 ns (some k) (some (k+1))=xs at h
 rw [show zaz (L xs) (D.lst [D.int 0])=some (L (xs++[0])) by
  simp only [L,zaz,List.length_map,List.length_cons,List.length_nil,if_pos (show xs.length+(0+1)<=100000 by omega),List.map_append,List.map_cons,List.map_nil]]
 walk_at "dz"
 rw [y0p (by omega) (by simp)]
 rfl
theorem zzn (n:Int) (ls:List P2) (c:Int) (hl:ls.length<1000):z1v [.int n,.lst (ls.map T2),.int c]=.ok (.lst ((ls.map (sh2 c)++[z2q n c]).map T2)):=by
 unfold z1v z5b
 walk_at "dz"
 rw [if_pos (by rw [List.length_map];omega),z21 (en:=T2) (bs:=fun q=>[D.int q.1,D.int q.2]) (g:=fun q=>T2 (sh2 c q)) ls (fun x _=>rfl) (fun q _=>by
  unfold z3x
  walk_at "dz"
  rw [y0u,y0u];rfl)]
 simp only [R.bind_ok]
 rw [show ls.map (fun q=>T2 (sh2 c q))=(ls.map (sh2 c)).map T2 by rw [List.map_map];rfl]
 generalize hls:ls.map (sh2 c)=ls'
 have hl':ls'.length<1000:=by rw [<-hls,List.length_map];exact hl
 walk_at "dz"
 by_cases q:c=n - 1
 . rw [decide_eq_true q]
   walk_at "dz"
   rw [show D.lst [D.tup [D.int 0,D.int (n - 1)]]=D.lst ([z2q n c].map T2) by unfold z2q;rw [if_pos q,<-q];rfl,zmf _ _ (by simp;omega)]
   generalize ls'++[z2q n c]=xs
   walk_at "dz"
 . rw [decide_eq_false q]
   walk_at "dz"
   rw [show D.lst [D.tup [D.int c,D.int (c+2)]]=D.lst ([z2q n c].map T2) by unfold z2q;rw [if_neg q];rfl,zmf _ _ (by simp;omega)]
   generalize ls'++[z2q n c]=xs
   walk_at "dz"
def C:List Int:=[0,1,1,2,5,14,42,132,429,1430,4862,16796,58786,208012,742900,2674440,9694845,35357670,129644790,477638700,1767263190,6564120420,24466267020,91482563640,343059613650,1289904147324,4861946401452,18367353072152,69533550916004,263747951750360,1002242216651368,3814986502092304,14544636039226909,55534064877048198,212336130412243110,812944042149730764,3116285494907301262,11959798385860453492,45950804324621742364,176733862787006701400,680425371729975800390,2622127042276492108820,10113918591637898134020,39044429911904443959240,150853479205085351660700,583300119592996693088040,2257117854077248073253720,8740328711533173390046320,33868773757191046886429490,131327898242169365477991900,509552245179617138054608572,1978261657756160653623774456,7684785670514316385230816156,29869166945772625950142417512,116157871455782434250553845880,451959718027953471447609509424,1759414616608818870992479875972,6852456927844873497549658464312,26700952856774851904245220912664,104088460289122304033498318812080]
theorem zfg:C.length=60:=by decide +kernel
theorem y0v:∀i<58,(∀j<i+1,(0<=C.getD (1+j) 0/\C.getD (1+j) 0<2 ^ 64)\/(0<=C.getD (i+1 - j) 0/\C.getD (i+1 - j) 0<2 ^ 64))/\((List.range (i+1)).map fun j=>C.getD (1+j) 0 * C.getD (i+1 - j) 0).sum=C.getD (i+2) 0:=by decide +kernel
theorem z46 (l:List Int) (k j:Nat) (h:j<k):(l.take k).getD j 0=l.getD j 0:=by
 simp only [List.getD_eq_getElem?_getD,List.getElem?_take,h,if_true]
theorem zef (l:List Int) (k:Nat) (h:k<l.length):l.take k++[l.getD k 0]=l.take (k+1):=by
 rw [List.take_succ,List.getD_eq_getElem?_getD,List.getElem?_eq_getElem h];rfl
theorem zil {α:Type} (xs:List α) (f:α->Int):zh3 [D.lst (xs.map fun j=>D.int (f j))]=some (.int (xs.map f).sum):=by
 have:=zut (xs.map f)
 rw [L,List.map_map] at this
 exact this
theorem zd6 (i:Int):z1n [.int i]=.ok (.bl true):=by
 unfold z1n z5q
 walk_at "dz"
theorem zq2 (n:Int) (h:3<=n/\n<=60):z38 [.int n]=.ok (.bl true):=by
 unfold z38 z8x
 walk_at "dz"
 rw [zd6]
 walk_at "dz"
 rw [decide_eq_true h.1,decide_eq_true h.2]
 walk_at "dz"
theorem zeg (n:Int) (h:3<=n/\n<=60):z1w [.int n]=.ok .non:=by
 unfold z1w z5c
 walk_at "dz"
 rw [zq2 n h]
 walk_at "dz"
theorem y1w (n:Int) (i:Nat) (hi:i<58) (x:Sl) :
  z12 [.im (.int n),.ow (L (C.take (i+2))),.im (.int (2+(i:Int)))]=.nx [.im (.int n),.ow (L (C.take (i+1+2))),.im (.int (2+(i:Int)))]:=by
 obtain ⟨h1,h2⟩:=y0v i hi
 have hl:(C.take (i+2)).length=i+2:=by rw [List.length_take,zfg];omega
 unfold z12
 walk_at "dz"
 rw [zki 1 (2+(i:Int)) (by omega) (by omega) (by walk_at "dz")]
 walk_at "dz"
 rw [show (2+(i:Int) - 1).toNat=i+1 by omega]
 rw [if_pos (by rw [zmb];omega)]
 simp only [zD]
 rw [z21 (en:=fun (j:Nat)=>D.int (1+(j:Int))) (bs:=fun (j:Nat)=>[D.int (1+(j:Int))]) (g:=fun (j:Nat)=>D.int (C.getD (1+j) 0 * C.getD (i+1 - j) 0)) (List.range (i+1)) (fun _ _=>rfl) (fun j hj=>by
  have hj:j<i+1:=List.mem_range.mp hj
  unfold z2s
  walk_at "dz"
  rw [show (1+(j:Int))=((1+j:Nat):Int) by omega,zz1 (by omega),show (2+(i:Int) - ((1+j:Nat):Int))=((i+1 - j:Nat):Int) by omega,zz1 (by omega),z46 _ _ _ (by omega),z46 _ _ _ (by omega)]
  walk_at "dz"
  rcases h1 j hj with z | z
  . rw [zux (by omega)]
    walk_at "dz"
  . rw [zuy (by omega)]
    walk_at "dz")]
 walk_at "dz"
 rw [zil]
 walk_at "dz"
 rw [h2,zkh (by omega)]
 walk_at "dz"
 rw [zef _ _ (by rw [zfg];omega),show i+2+1=i+1+2 by omega]
theorem zzo (n:Nat) (h:3<=n/\n<=60):z0s [.int (n:Int)]=.ok (L (C.take n)):=by
 unfold z0s z3k
 walk_at "dz"
 rw [zki 2 (n:Int) (by omega) (by omega) (by walk_at "dz")]
 walk_at "dz"
 simp only [zD]
 obtain ⟨ρ',e,x,hr⟩:=ze6 (tg:=.n 2) (g:=z12) (n - 2) (fun (d:Nat)=>D.int (2+(d:Int)))
  (fun d ρ=>∃x:Sl,ρ=[.im (.int (n:Int)),.ow (L (C.take (d+2))),x])
  [.im (.int (n:Int)),.ow (L [0,1]),.em] ⟨.em,rfl⟩ (by
   rintro d hd ρ ⟨x,rfl⟩
   exact ⟨_,_,rfl,Or.inl (y1w n d (by omega) x),⟨_,rfl⟩⟩)
 rw [show ((n:Int) - 2).toNat=n - 2 by omega]
 simp only [L,List.map_cons,List.map_nil] at e
 simp only [L]
 rw [e,hr,show n - 2+2=n by omega]
 walk_at "dz"
 rfl
theorem zw2 {ns:List Int} {k:Nat} (h0:1<=k) (h1:k<=ns.length):dIx (L ns) (.int (-(k:Int)))=some (.int (ns.getD (ns.length - k) 0)):=by
 refine zw0 ?_ (by omega)
 unfold ixN
 repeat (first | rw [if_pos (by omega)] | rw [if_neg (by omega)])
 first | rfl | (congr 1;omega)
theorem zeh (f:Nat->Int) (d:Nat):((List.range (d+1)).map f).sum=((List.range d).map f).sum+f d:=by
 rw [List.range_succ,List.map_append,List.sum_append];simp
theorem zw3 (n i:Nat) (hi:i<58) (s2 s3:Sl):∃s2' s3',z1b [.im (.int (n:Int)),.ow (L (C.take (i+2))),s2,s3]=.nx [.im (.int (n:Int)),.ow (L (C.take (i+3))),s2',s3']:=by
 obtain ⟨h1,h2⟩:=y0v i hi
 have hl:(C.take (i+2)).length=i+2:=by rw [List.length_take,zfg];omega
 unfold z1b
 rw [z0g (ρ':=[.im (.int (n:Int)),.ow (L (C.take (i+2))),.im (.int 0),s3]) (by walk_at "dz")]
 obtain ⟨ρ',e,x,hr⟩:=ze6 (tg:=.n 3) (g:=z2e) (i+1) (fun (d:Nat)=>D.int (1+(d:Int)))
  (fun d ρ=>∃x:Sl,ρ=[.im (.int (n:Int)),.ow (L (C.take (i+2))),.im (.int ((List.range d).map fun j=>C.getD (1+j) 0 * C.getD (i+1 - j) 0).sum),x])
  [.im (.int (n:Int)),.ow (L (C.take (i+2))),.im (.int 0),s3] ⟨s3,rfl⟩ (by
   rintro d hd ρ ⟨x,rfl⟩
   refine ⟨_,_,rfl,Or.inl ?_,⟨.im (.int (1+(d:Int))),rfl⟩⟩
   unfold z2e
   walk_at "dz"
   rw [show -(1+(d:Int))=-((1+d:Nat):Int) by omega,zw2 (by omega) (by omega),show (1+(d:Int))=((1+d:Nat):Int) by omega,zz1 (by omega),z46 _ _ _ (by omega),z46 _ _ _ (by omega),hl,show i+2 - (1+d)=i+1 - d by omega]
   walk_at "dz"
   rw [zeh]
   rcases h1 d hd with z | z
   . rw [zux (by omega)]
     walk_at "dz"
   . rw [zuy (by omega)]
     walk_at "dz")
 have sf:zlj true [false,true] (zk1 (z01 (eC (.int 1)) (z01 (eCB zbt (z01 (z02 1) z0h)) z0h))) (.n 3) z2e [.im (.int (n:Int)),.ow (L (C.take (i+2))),.im (.int 0),s3]=.nx ρ':=by
  walk_at "dz"
  rw [zki 1 ((i+2:Nat):Int) (by omega) (by omega) (by walk_at "dz";rw [hl])]
  walk_at "dz"
  simp only [zD]
  rw [show (((i+2:Nat):Int) - 1).toNat=i+1 by omega]
  exact e
 rw [z0g sf,hr]
 walk_at "dz"
 rw [h2,zkh (by omega)]
 walk_at "dz"
 rw [zef _ _ (by rw [zfg];omega)]
 exact ⟨_,_,rfl⟩
theorem zq3 (n i:Nat) (c:List Int) (hl:c.length=i) (s2 s3:Sl):z0x (see [.im (.int (n:Int)),.ow (L c),s2,s3])=.ok (decide ((i:Int)<=(n:Int))):=by
 have e:see [.im (.int (n:Int)),.ow (L c),s2,s3]=[some (.int (n:Int)),some (L c),s2.see true,s3.see true]:=rfl
 rw [e]
 generalize s2.see true=a
 generalize s3.see true=b
 unfold z0x
 walk_at "dz"
 rw [hl]
theorem zw4 (n i:Nat) (hi:i<=58) (s2 s3:Sl):z0x (see [.im (.int (n:Int)),.ow (L (C.take (i+2))),s2,s3])=.ok (decide (((i+2:Nat):Int)<=(n:Int))):=
 zq3 n (i+2) _ (by rw [List.length_take,zfg];omega) s2 s3
theorem zw5 (n:Nat) (T:Nat->List Int) (m:Nat) (ht:∀i,i<=m->∀s2 s3,z0x (see [.im (.int (n:Int)),.ow (L (T i)),s2,s3])=.ok (decide (((i+2:Nat):Int)<=(n:Int))))
  (hb:∀i<m,∀s2 s3,∃s2' s3',z1b [.im (.int (n:Int)),.ow (L (T i)),s2,s3]=.nx [.im (.int (n:Int)),.ow (L (T (i+1))),s2',s3']) (k:Nat) (hk:k+2=n+1) (hm:k<=m)
  (j:Nat):∀(fuel i:Nat),i+j=k->j<fuel->∀s2 s3,∃s2' s3',z2j z0x z1b fuel [.im (.int (n:Int)),.ow (L (T i)),s2,s3]=.nx [.im (.int (n:Int)),.ow (L (T k)),s2',s3']:=by
 induction j with
 | zero=>
  intro fuel i h hf s2 s3
  obtain ⟨f,rfl⟩:∃f,fuel=f+1:=⟨fuel - 1,by omega⟩
  obtain rfl:i=k:=h
  rw [z5g,ht i hm,decide_eq_false (by omega)]
  refine ⟨s2,s3,?_⟩
  rw [z59,if_neg Bool.false_ne_true]
 | succ j ih=>
  intro fuel i h hf s2 s3
  obtain ⟨f,rfl⟩:∃f,fuel=f+1:=⟨fuel - 1,by omega⟩
  obtain ⟨a,b,e⟩:=hb i (by omega) s2 s3
  rw [z5g,ht i (by omega),decide_eq_true (by omega)]
  rw [z59,if_pos rfl,e,ze5]
  exact ih f (i+1) (by omega) (by omega) a b
theorem zw6 (n:Nat) (h2:2<=n) (hn:n<=59):z1x [.int (n:Int)]=.ok (L (C.take (n+1))):=by
 obtain ⟨a,b,e⟩:=zw5 n (fun i=>C.take (i+2)) 58 (fun i hi s2 s3=>zw4 n i hi s2 s3) (fun i hi s2 s3=>zw3 n i hi s2 s3) (n - 1) (by omega) (by omega) (n - 1) 1000 0 (by omega) (by omega) .em .em
 rw [show n - 1+2=n+1 by omega] at e
 unfold z1x
 rw [z9z,if_pos (show [D.int (n:Int)].length=1 from rfl)]
 show SR.out true (z4y [.im (.int (n:Int)),.em,.em,.em])=_
 unfold z4y
 rw [z0g (ρ':=[.im (.int (n:Int)),.ow (L (C.take (0+2))),.em,.em]) (by walk_at "dz";rfl)]
 rw [z0g (a:=z3j 1000 z0x z1b) (by unfold z3j;exact e)]
 walk_at "dz"
abbrev Tm:=List Int×Int
def TM (t:Tm):D:=.tup [.tup (t.1.map D.int),.int t.2]
def zab (l:List Tm):List (List Int):=l.map (·.1)
def nz (t:Tm):Bool:=decide (t.2≠0)
def kN (ps:List Int):NK:=.t (ps.map NK.i)
theorem zim:∀ps:List Int,zmg (ps.map D.int)=some (ps.map NK.i)
 | []=>by simp only [List.map_nil,zmg]
 | p::ps=>by simp only [List.map_cons,zmg,nkD,zim ps]
theorem zms (ps:List Int):nkD (.tup (ps.map D.int))=some (kN ps):=by simp only [nkD,zim,Option.map_some,kN]
theorem zei:∀ps:List Int,z3i (ps.map NK.i)=0
 | []=>by simp only [List.map_nil,z3i]
 | p::ps=>by simp only [List.map_cons,z3i,zei ps,NK.dep,Nat.max_self]
theorem zmt (ps:List Int):(kN ps).dep<=8:=by simp only [kN,NK.dep,zei];decide
theorem zbm:∀{a b:List Int},a.map NK.i=b.map NK.i->a=b
 | [],[],_=>rfl
 | [],_::_,h=>by simp at h
 | _::_,[],h=>by simp at h
 | x::a,y::b,h=>by
  simp only [List.map_cons,List.cons.injEq,NK.i.injEq] at h
  rw [h.1,zbm h.2]
theorem zmu {a b:List Int} (h:kN a=kN b):a=b:=zbm (NK.t.inj h)
def dnA (l:List Tm):D:=.dn (l.map fun t=>kN t.1) (l.map fun t=>.int t.2)
theorem zin:∀l:List Tm,pairsD (l.map TM)=some (l.map (fun t=>kN t.1),l.map fun t=>.int t.2)
 | []=>rfl
 | t::l=>by
  rw [List.map_cons]
  show (match nkD (.tup (t.1.map D.int)),pairsD (l.map TM) with | some k,some (ks,vs)=>some (k::ks,D.int t.2::vs) | _,_=>none)=_
  rw [zms,zin l];rfl
theorem zl5 {l:List Tm} (h:(zab l).Nodup):(l.map fun t=>kN t.1).Nodup:=by
 unfold zab List.Nodup at *
 rw [List.pairwise_map] at h ⊢
 exact h.imp fun z e=>z (zmu e)
theorem zw7 {l:List Tm} (h:(zab l).Nodup) (hl:l.length<=1000):dDictL [.lst (l.map TM)]=some (dnA l):=by
 show (match pairsD (l.map TM) with | some (ks,vs)=>_ | none=>none)=_
 rw [zin]
 show (if _ then some _ else none)=_
 rw [if_pos ⟨zl5 h,by rw [List.length_map];omega,fun k hk=>by
  obtain ⟨t,_,rfl⟩:=List.mem_map.mp hk
  exact zmt _⟩]
 rfl
inductive Tr where
 | lf
 | nd (l r:Tr)
def Tr.sp:Tr->Nat
 | .lf=>1
 | .nd l r=>l.sp+r.sp
theorem Tr.sp1:∀t:Tr,1<=t.sp
 | .lf=>Nat.le_refl 1
 | .nd l r=>by have:=l.sp1;have:=r.sp1;simp only [Tr.sp];omega
def Tr.th:Tr->Nat->List Nat
 | .lf,_=>[]
 | .nd l r,a=>(a+l.sp)::(l.th a++r.th (a+l.sp))
theorem Tr.th_len:∀(t:Tr) (a:Nat),(t.th a).length+1=t.sp
 | .lf,_=>rfl
 | .nd l r,a=>by
  have:=l.th_len a;have:=r.th_len (a+l.sp)
  simp only [Tr.th,Tr.sp,List.length_cons,List.length_append];omega
def ah (c:Nat->Nat) (s:Nat):Nat->Nat
 | 0=>0
 | m+1=>ah c s m+c (m+1) * c (s - (m+1))
theorem z84 (c:Nat->Nat) (s:Nat) {m k:Nat} (h:m<=k):ah c s m<=ah c s k:=by
 induction k with
 | zero=>rw [Nat.le_zero.mp h];exact Nat.le_refl _
 | succ k ih=>
  by_cases e:m=k+1
  . rw [e];exact Nat.le_refl _
  . exact Nat.le_trans (ih (by omega)) (Nat.le_add_right _ _)
structure Cat (c:Nat->Nat) (N:Nat):Prop where
 one:c 1=1
 rc:∀s,2<=s->s<=N->c s=ah c s (s - 1)
def Tr.pl (c:Nat->Nat):Tr->Nat
 | .lf=>0
 | .nd l r=>ah c (l.sp+r.sp) (l.sp - 1)+l.pl c * c r.sp+r.pl c
section
variable {c:Nat->Nat} {N:Nat}
theorem zej {x y m n:Nat} (h:x<m) (k:y<n):x * n+y<m * n:=by
 calc x * n+y<x * n+n:=by omega
  _=(x+1) * n:=by rw [Nat.add_mul,Nat.one_mul]
  _<=m * n:=Nat.mul_le_mul_right n h
theorem zd7 (l r:Tr):ah c (l.sp+r.sp) l.sp=ah c (l.sp+r.sp) (l.sp - 1)+c l.sp * c r.sp:=by
 obtain ⟨k,e⟩:∃k,l.sp=k+1:=⟨l.sp - 1,by have:=l.sp1;omega⟩
 rw [e,Nat.add_sub_cancel]
 show ah c _ k+c (k+1) * c (k+1+r.sp - (k+1))=_
 rw [Nat.add_sub_cancel_left]
theorem Cat.lt (C:Cat c N):∀t:Tr,t.sp<=N->t.pl c<c t.sp
 | .lf,_=>by simp only [Tr.pl,Tr.sp,C.one];exact Nat.one_pos
 | .nd l r,h=>by
  have h1:=l.sp1;have h2:=r.sp1
  simp only [Tr.sp] at h
  have il:=C.lt l (by omega)
  have ir:=C.lt r (by omega)
  have:=zej il ir
  have e:=zd7 (c:=c) l r
  have m:=z84 c (l.sp+r.sp) (show l.sp<=l.sp+r.sp - 1 by omega)
  have rc:=C.rc (l.sp+r.sp) (by omega) h
  simp only [Tr.pl,Tr.sp]
  omega
theorem Cat.in_l (C:Cat c N) (l r:Tr) (h:l.sp+r.sp<=N):ah c (l.sp+r.sp) (l.sp - 1)<=(Tr.nd l r).pl c/\(Tr.nd l r).pl c<ah c (l.sp+r.sp) l.sp:=by
 have h1:=l.sp1;have h2:=r.sp1
 have:=zej (C.lt l (by omega)) (C.lt r (by omega))
 have e:=zd7 (c:=c) l r
 simp only [Tr.pl]
 omega
def lx:List Nat->List Nat->Prop
 | [],_::_=>True
 | x::a,y::b=>x<y\/(x=y/\lx a b)
 | _,[]=>False
theorem zio:∀a,¬lx a a
 | []=>id
 | x::a=>by
  intro h
  rcases h with h | h
  . exact Nat.lt_irrefl _ h
  . exact zio a h.2
theorem ziq:∀{a a':List Nat} (b b':List Nat),a.length=a'.length->(lx (a++b) (a'++b')↔lx a a'\/(a=a'/\lx b b'))
 | [],[],b,b',_=>by simp [lx]
 | [],_::_,_,_,h=>by simp at h
 | _::_,[],_,_,h=>by simp at h
 | x::a,y::a',b,b',h=>by
  have ih:=ziq (a:=a) (a':=a') b b' (by simpa using h)
  simp only [List.cons_append,lx,ih,List.cons.injEq]
  constructor
  . rintro (z | ⟨z,w | w⟩)
    . exact .inl (.inl z)
    . exact .inl (.inr ⟨z,w⟩)
    . exact .inr ⟨⟨z,w.1⟩,w.2⟩
  . rintro ((z | z) | ⟨z,w⟩)
    . exact .inl z
    . exact .inr ⟨z.1,.inl z.2⟩
    . exact .inr ⟨z.1,.inr ⟨z.2,w⟩⟩
theorem zmv {x y x' y' n:Nat} (h:y<n) (h':y'<n):(x * n+y=x' * n+y'↔x=x'/\y=y')/\(x * n+y<x' * n+y'↔x<x'\/(x=x'/\y<y')):=by
 have key:∀{x x' y:Nat},y<n->x<x'->x * n+y<x' * n:=fun k q=>zej q k
 rcases Nat.lt_trichotomy x x' with q | q | q
 . have:=key h q
   refine ⟨⟨fun e=>by omega,fun e=>by omega⟩,⟨fun _=>.inl q,fun _=>by omega⟩⟩
 . subst q
   refine ⟨⟨fun e=>⟨rfl,by omega⟩,fun e=>by rw [e.2]⟩,⟨fun e=>.inr ⟨rfl,by omega⟩,fun e=>by omega⟩⟩
 . have:=key h' q
   refine ⟨⟨fun e=>by omega,fun e=>by omega⟩,⟨fun _=>by omega,fun e=>by omega⟩⟩
theorem Cat.cmp (C:Cat c N):∀(t u:Tr) (a:Nat),t.sp=u.sp->t.sp<=N->((t.pl c<u.pl c↔lx (t.th a) (u.th a))/\(u.pl c<t.pl c↔lx (u.th a) (t.th a))/\(t.pl c=u.pl c↔t=u))
 | .lf,.lf,a,_,_=>by simp [Tr.pl,Tr.th,lx]
 | .lf,.nd l r,a,e,_=>by have:=l.sp1;have:=r.sp1;simp only [Tr.sp] at e;omega
 | .nd l r,.lf,a,e,_=>by have:=l.sp1;have:=r.sp1;simp only [Tr.sp] at e;omega
 | .nd l r,.nd l' r',a,e,h=>by
  simp only [Tr.sp] at e h
  have h1:=l.sp1;have h2:=r.sp1;have h3:=l'.sp1;have h4:=r'.sp1
  have b1:=C.in_l l r h
  have b2:=C.in_l l' r' (by omega)
  rw [<-e] at b2
  simp only [Tr.th,lx,Tr.nd.injEq]
  rcases Nat.lt_trichotomy l.sp l'.sp with q | q | q
  . have:=z84 c (l.sp+r.sp) (show l.sp<=l'.sp - 1 by omega)
    exact ⟨⟨fun _=>.inl (by omega),fun _=>by omega⟩,⟨fun z=>by omega,fun z=>by omega⟩,⟨fun z=>by omega,fun z=>by rw [z.1] at q;omega⟩⟩
  . have q2:r.sp=r'.sp:=by omega
    obtain ⟨i1,i3,i2⟩:=C.cmp l l' a q (by omega)
    obtain ⟨j1,j3,j2⟩:=C.cmp r r' (a+l.sp) q2 (by omega)
    have hr:=C.lt r (by omega)
    have hr':r'.pl c<c r.sp:=by rw [q2];exact C.lt r' (by omega)
    have m:=zmv (x:=l.pl c) (x':=l'.pl c) hr hr'
    have m':=zmv (x:=l'.pl c) (x':=l.pl c) hr' hr
    have p1:(Tr.nd l r).pl c=ah c (l.sp+r.sp) (l.sp - 1)+(l.pl c * c r.sp+r.pl c):=by simp only [Tr.pl];omega
    have p2:(Tr.nd l' r').pl c=ah c (l.sp+r.sp) (l.sp - 1)+(l'.pl c * c r.sp+r'.pl c):=by simp only [Tr.pl];rw [<-e,<-q,<-q2];omega
    rw [p1,p2,<-q]
    have th_eq:l.th a=l'.th a↔l=l':=⟨fun z=>i2.mp (by
     have n1:¬l.pl c<l'.pl c:=fun w=>by rw [i1,z] at w;exact zio _ w
     have n2:¬l'.pl c<l.pl c:=fun w=>by rw [i3,z] at w;exact zio _ w
     omega),fun z=>by rw [z]⟩
    have ln:(l.th a).length=(l'.th a).length:=by have:=l.th_len a;have:=l'.th_len a;omega
    have ec:(l'.pl c=l.pl c)↔l=l':=by rw [eq_comm];exact i2
    have et:(l'.th a=l.th a)↔l=l':=by rw [eq_comm];exact th_eq
    refine ⟨?_,?_,?_⟩
    . rw [Nat.add_lt_add_iff_left,m.2,i1,i2,j1]
      simp only [Nat.lt_irrefl,false_or,true_and,ziq _ _ ln,th_eq]
    . rw [Nat.add_lt_add_iff_left,m'.2,i3,ec,j3]
      simp only [Nat.lt_irrefl,false_or,true_and,ziq _ _ ln.symm,et]
    . rw [Nat.add_left_cancel_iff,m.1,i2,j2]
  . have:=z84 c (l.sp+r.sp) (show l'.sp<=l.sp - 1 by omega)
    exact ⟨⟨fun _=>by omega,fun z=>by omega⟩,⟨fun _=>.inl (by omega),fun _=>by omega⟩,⟨fun z=>by omega,fun z=>by rw [z.1] at q;omega⟩⟩
theorem zir (s k:Nat):∀m,k<ah c s m->∃j,j<m/\ah c s j<=k/\k<ah c s (j+1)
 | 0,h=>by simp [ah] at h
 | m+1,h=>by
  by_cases z:k<ah c s m
  . obtain ⟨j,h1,h2,h3⟩:=zir s k m z
    exact ⟨j,by omega,h2,h3⟩
  . exact ⟨m,Nat.lt_succ_self _,by omega,h⟩
theorem Cat.has (C:Cat c N):∀(s k:Nat),1<=s->s<=N->k<c s->∃t:Tr,t.sp=s/\t.pl c=k:=by
 intro s
 induction s using Nat.strongRecOn with
 | ind s ih=>
  intro k h1 hN hk
  by_cases e:s=1
  . subst e
    rw [C.one] at hk
    exact ⟨.lf,rfl,by simp only [Tr.pl];omega⟩
  . rw [C.rc s (by omega) hN] at hk
    obtain ⟨j,j1,j2,j3⟩:=zir s k _ hk
    have e3:ah c s (j+1)=ah c s j+c (j+1) * c (s - (j+1)):=rfl
    have hp:0<c (s - (j+1)):=Nat.pos_of_ne_zero fun z=>by rw [z,Nat.mul_zero] at e3;omega
    have hd:=Nat.div_add_mod (k - ah c s j) (c (s - (j+1)))
    have hm:=Nat.mod_lt (k - ah c s j) hp
    have hq:(k - ah c s j) / c (s - (j+1))<c (j+1):=by
     rw [Nat.div_lt_iff_lt_mul hp];omega
    obtain ⟨l,l1,l2⟩:=ih (j+1) (by omega) _ (by omega) (by omega) hq
    obtain ⟨r,r1,r2⟩:=ih (s - (j+1)) (by omega) _ (by omega) (by omega) hm
    refine ⟨.nd l r,by simp only [Tr.sp,l1,r1];omega,?_⟩
    simp only [Tr.pl,l1,r1,l2,r2]
    rw [show j+1+(s - (j+1))=s by omega,Nat.add_sub_cancel]
    rw [Nat.mul_comm] at hd
    omega
end
def Tr.gr:Tr->Nat->Tr
 | .lf,_=>.nd .lf .lf
 | .nd l r,i=>if i<l.sp then .nd (l.gr i) r else .nd l (r.gr (i - l.sp))
theorem Tr.gr_sp:∀(t:Tr) (i:Nat),(t.gr i).sp=t.sp+1
 | .lf,_=>rfl
 | .nd l r,i=>by
  unfold Tr.gr
  split
  . simp only [Tr.sp,l.gr_sp i];omega
  . simp only [Tr.sp,r.gr_sp];omega
theorem Tr.was:∀t:Tr,2<=t.sp->∃(u:Tr) (i:Nat),i<u.sp/\t=u.gr i
 | .lf,h=>by simp [Tr.sp] at h
 | .nd l r,h=>by
  by_cases hl:2<=l.sp
  . obtain ⟨u,i,h1,h2⟩:=l.was hl
    exact ⟨.nd u r,i,by simp only [Tr.sp];omega,by unfold Tr.gr;rw [if_pos h1,h2]⟩
  . have:l=.lf:=by
     cases l with
     | lf=>rfl
     | nd a b=>have:=a.sp1;have:=b.sp1;simp only [Tr.sp] at hl;omega
    subst this
    by_cases hr:2<=r.sp
    . obtain ⟨u,i,h1,h2⟩:=r.was hr
      exact ⟨.nd .lf u,i+1,by simp only [Tr.sp];omega,by unfold Tr.gr;rw [if_neg (by simp only [Tr.sp];omega),h2];simp only [Tr.sp,Nat.add_sub_cancel]⟩
    . have:r=.lf:=by
       cases r with
       | lf=>rfl
       | nd a b=>have:=a.sp1;have:=b.sp1;simp only [Tr.sp] at hr;omega
      subst this
      exact ⟨.lf,0,Nat.one_pos,rfl⟩
def Tr.ts:Tr->Int->List P3
 | .lf,_=>[]
 | .nd l r,a=>(a,a+(l.sp:Nat),a+(l.sp+r.sp:Nat))::(l.ts a++r.ts (a+(l.sp:Nat)))
def Tr.st:Tr->Int->List P2
 | .lf,a=>[(a,a+1)]
 | .nd l r,a=>(a,a+(l.sp+r.sp:Nat))::(l.st a++r.st (a+(l.sp:Nat)))
theorem Tr.low:∀(t:Tr) (a c:Int),a+(t.sp:Nat)<=c->(t.ts a).map (sh3 c)=t.ts a
 | .lf,_,_,_=>rfl
 | .nd l r,a,c,h=>by
  have h1:=l.sp1;have h2:=r.sp1
  simp only [Tr.sp] at h
  simp only [Tr.ts,List.map_cons,List.map_append]
  rw [l.low a c (by omega),r.low _ c (by omega)]
  congr 1
  unfold sh3 sh
  simp only [Prod.mk.injEq]
  rw [if_neg (by omega),if_neg (by omega),if_neg (by omega)]
  exact ⟨rfl,rfl,rfl⟩
theorem Tr.high:∀(t:Tr) (a c:Int),c<a->(t.ts a).map (sh3 c)=t.ts (a+1)
 | .lf,_,_,_=>rfl
 | .nd l r,a,c,h=>by
  simp only [Tr.ts,List.map_cons,List.map_append]
  rw [l.high a c h,r.high _ c (by omega),show a+(l.sp:Nat)+1=a+1+(l.sp:Nat) by omega]
  congr 1
  unfold sh3 sh
  simp only [Prod.mk.injEq]
  rw [if_pos (by omega),if_pos (by omega),if_pos (by omega)]
  exact ⟨rfl,by omega,by omega⟩
theorem Tr.gr_ts:∀(t:Tr) (a:Int) (i:Nat),i<t.sp->((t.gr i).ts a).Perm ((a+i,a+i+1,a+i+2)::(t.ts a).map (sh3 (a+i)))
 | .lf,a,i,h=>by
  have:i=0:=by simp only [Tr.sp] at h;omega
  subst this
  show [(a,a+((1:Nat):Int),a+((1+1:Nat):Int))].Perm [(a+((0:Nat):Int),a+((0:Nat):Int)+1,a+((0:Nat):Int)+2)]
  rw [show a+((0:Nat):Int)=a by omega,show a+((1+1:Nat):Int)=a+2 by omega]
  exact .refl _
 | .nd l r,a,i,h=>by
  have h1:=l.sp1;have h2:=r.sp1
  simp only [Tr.sp] at h
  unfold Tr.gr
  by_cases q:i<l.sp
  . rw [if_pos q]
    have ih:=l.gr_ts a i q
    simp only [Tr.ts,List.map_cons,List.map_append,l.gr_sp]
    rw [r.high _ _ (show a+(i:Int)<a+(l.sp:Nat) by omega)]
    rw [show sh3 (a+(i:Int)) (a,a+(l.sp:Nat),a+(l.sp+r.sp:Nat))=(a,a+(l.sp+1:Nat),a+(l.sp+1+r.sp:Nat)) by
     unfold sh3 sh;simp only [Prod.mk.injEq];rw [if_neg (by omega),if_pos (by omega),if_pos (by omega)];exact ⟨rfl,by omega,by omega⟩]
    rw [show a+((l.sp+1:Nat):Int)=a+(l.sp:Nat)+1 by omega]
    refine List.Perm.trans (.cons _ (ih.append_right _)) ?_
    exact .swap _ _ _
  . rw [if_neg q]
    have ih:=r.gr_ts (a+(l.sp:Nat)) (i - l.sp) (by omega)
    rw [show a+(l.sp:Nat)+((i - l.sp:Nat):Int)=a+i by omega] at ih
    simp only [Tr.ts,List.map_cons,List.map_append,r.gr_sp]
    rw [l.low a _ (show a+(l.sp:Nat)<=a+(i:Int) by omega)]
    rw [show sh3 (a+(i:Int)) (a,a+(l.sp:Nat),a+(l.sp+r.sp:Nat))=(a,a+(l.sp:Nat),a+(l.sp+(r.sp+1):Nat)) by
     unfold sh3 sh;simp only [Prod.mk.injEq];rw [if_neg (by omega),if_neg (by omega),if_pos (by omega)];exact ⟨rfl,rfl,by omega⟩]
    refine List.Perm.trans (.cons _ ((List.Perm.append_left _ ih).trans List.perm_middle)) ?_
    exact .swap _ _ _
def Tc (n:Int) (T:List P3) (t:Tr):Prop:=n=(t.sp:Nat)+1/\T.Perm (t.ts 0)
theorem tc3:Tc 3 [(0,1,2)] (.nd .lf .lf):=⟨rfl,.refl _⟩
theorem Tc.grow {n:Int} {T:List P3} {t:Tr} (h:Tc n T t) (c:Int) (h0:0<=c) (h1:c<n):∃u,Tc (n+1) (T.map (sh3 c)++[z8w n c]) u:=by
 obtain ⟨e,p⟩:=h
 have hp:(T.map (sh3 c)++[z8w n c]).Perm (z8w n c::(t.ts 0).map (sh3 c)):=(List.perm_append_comm (l₁:=T.map (sh3 c)) (l₂:=[z8w n c])).trans (.cons _ (p.map _))
 by_cases q:c=n - 1
 . refine ⟨.nd t .lf,by simp only [Tr.sp];omega,hp.trans ?_⟩
   rw [t.low 0 c (by omega)]
   simp only [Tr.ts,List.append_nil,Tr.sp]
   rw [show z8w n c=((0:Int),(0:Int)+((t.sp:Nat):Int),(0:Int)+((t.sp+1:Nat):Int)) by unfold z8w;rw [if_pos q];simp only [Prod.mk.injEq];exact ⟨trivial,by omega,by omega⟩]
 . refine ⟨t.gr c.toNat,by rw [t.gr_sp];omega,hp.trans ?_⟩
   have:=t.gr_ts 0 c.toNat (by omega)
   rw [show (0:Int)+(c.toNat:Nat)=c by omega] at this
   refine List.Perm.trans ?_ this.symm
   rw [show z8w n c=(c,c+1,c+2) by unfold z8w;rw [if_neg q]]
theorem Tc.all:∀(m:Nat) (t:Tr),t.sp=m+2->∃ls T,CInv ((t.sp:Nat)+1) ls T/\Tc ((t.sp:Nat)+1) T t/\ls.length+2=t.sp
 | 0,t,h=>by
  obtain ⟨u,i,h1,h2⟩:=t.was (by omega)
  have hu:u=.lf:=by
   subst h2
   rw [u.gr_sp] at h
   cases u with
   | lf=>rfl
   | nd a b=>have:=a.sp1;have:=b.sp1;simp only [Tr.sp] at h;omega
  subst hu
  subst h2
  exact ⟨[],[(0,1,2)],y0t,tc3,rfl⟩
 | m+1,t,h=>by
  obtain ⟨u,i,h1,h2⟩:=t.was (by omega)
  subst h2
  rw [u.gr_sp] at h ⊢
  obtain ⟨ls,T,I,⟨e,p⟩,hl⟩:=Tc.all m u (by omega)
  have g:=I.grow (i:Int) (by omega) (by omega)
  rw [show ((u.sp+1:Nat):Int)+1=((u.sp:Nat):Int)+1+1 by omega]
  refine ⟨_,_,g,⟨by rw [u.gr_sp];omega,?_⟩,by rw [List.length_append,List.length_map,List.length_singleton];omega⟩
  have:=u.gr_ts 0 i h1
  rw [show (0:Int)+(i:Nat)=i by omega] at this
  refine List.Perm.trans ((List.perm_append_comm (l₁:=T.map (sh3 i)) (l₂:=[_])).trans (.cons _ (p.map _))) (List.Perm.trans ?_ this.symm)
  rw [show z8w (((u.sp:Nat):Int)+1) (i:Int)=((i:Int),(i:Int)+1,(i:Int)+2) by unfold z8w;rw [if_neg (by omega)]]
def Tr.ln (t:Tr):List P2:=((t.ts 0).map outer).tail
theorem Tc.ls {n:Int} {ls:List P2} {T:List P3} {t:Tr} (I:CInv n ls T) (h:Tc n T t):ls.Perm t.ln:=by
 obtain ⟨e,p⟩:=h
 have h3:=I.n3
 cases t with
 | lf=>simp only [Tr.sp] at e;omega
 | nd l r=>
  have q:=I.prm.symm.trans (p.map outer)
  unfold Tr.ln
  simp only [Tr.ts,List.map_cons,List.tail_cons,outer] at q ⊢
  rw [show ((0:Int),n - 1)=(0,0+((l.sp+r.sp:Nat):Int)) by simp only [Tr.sp] at e;simp only [Prod.mk.injEq];exact ⟨trivial,by omega⟩] at q
  exact q.cons_inv
def cf (k:Nat):Nat:=(C.getD k 0).toNat
theorem cat59:Cat cf 59:=⟨by decide +kernel,fun s h1 h2=>(show ∀s<60,2<=s->cf s=ah cf s (s - 1) by decide +kernel) s (by omega) h1⟩
theorem zwz:∀k<60,C.getD k 0=(cf k:Int)/\cf k<2 ^ 200:=by decide +kernel
theorem zis {x:Nat} (h:x<2 ^ 250):PySem.Builtin.Int.intBits (x:Int)<=2 ^ 20:=
 Nat.le_trans (PySem.intBits_le_iff.mpr (show (x:Int).natAbs<2 ^ 250 by rw [Int.natAbs_natCast];exact h)) (by decide)
theorem zw8 {x y:Nat} (hx:x<2 ^ 250) (hy:y<2 ^ 250):zba (.int (x:Int)) (.int (y:Int))=some (.int ((x * y:Nat):Int)):=by
 rw [zze (zis hx) (zis hy)];rfl
theorem ixC {n k:Nat} (h:k<n) (hn:n<=60) {i:Int} (hi:i=(k:Int)):dIx (L (C.take n)) (.int i)=some (.int (cf k:Int)):=by
 have hl:(C.take n).length=n:=by rw [List.length_take,zfg];omega
 subst hi
 rw [zw0 (j:=k) (by unfold ixN;rw [if_pos (by omega),if_pos (by omega)];simp) (by omega),z46 _ _ _ h,(zwz k (by omega)).1]
def mds (T:List P3):List Tm:=T.map fun p=>([p.1,p.2.2],p.2.1)
theorem zw9 {l:List Tm} {t:Tm} (hn:(zab l).Nodup) (h:t∈l):valN (l.map fun t=>kN t.1) (l.map fun t=>D.int t.2) (kN t.1)=some (.int t.2):=by
 induction l with
 | nil=>cases h
 | cons u l ih=>
  rw [List.map_cons,List.map_cons]
  unfold valN
  rw [List.zip_cons_cons]
  simp only [zab,List.map_cons,List.nodup_cons] at hn
  rcases List.mem_cons.mp h with rfl | h
  . rw [List.find?_cons_of_pos (by simp)];rfl
  . rw [List.find?_cons_of_neg (by simp only [decide_eq_true_eq,beq_iff_eq];exact fun e=>hn.1 (List.mem_map.mpr ⟨t,h,(zmu e).symm⟩))]
    exact ih hn.2 h
theorem ixM {T:List P3} (hn:(zab (mds T)).Nodup) {p:P3} (h:p∈T):dIxN (dnA (mds T)) (.tup [.int p.1,.int p.2.2])=some (.int p.2.1):=by
 have:=zw9 hn (t:=([p.1,p.2.2],p.2.1)) (List.mem_map.mpr ⟨p,h,rfl⟩)
 have e:nkD (.tup [.int p.1,.int p.2.2])=some (kN [p.1,p.2.2]):=zms [p.1,p.2.2]
 unfold dIxN dnA
 simp only [e]
 rw [if_pos (zmt _)]
 exact this
theorem zmw (s:Nat):∀m,(((List.range m).map fun j=>((cf (j+1) * cf (s - (j+1)):Nat):Int)).sum)=((ah cf s m:Nat):Int)
 | 0=>rfl
 | m+1=>by rw [zeh,zmw s m];simp only [ah];omega
theorem zwa {t:Tr} (h:t.sp<=59):t.pl cf<2 ^ 250:=by
 have h1:=cat59.lt t h
 have:=(zwz t.sp (by omega)).2
 have:(2:Nat) ^ 200<=2 ^ 250:=Nat.pow_le_pow_right (by decide) (by decide)
 omega
theorem zac {k:Nat} (h:k<60):cf k<2 ^ 250:=by
 have:=(zwz k h).2
 have:(2:Nat) ^ 200<=2 ^ 250:=Nat.pow_le_pow_right (by decide) (by decide)
 omega
theorem z61 {n:Nat} (hn:n<=60) {T:List P3} (hk:(zab (mds T)).Nodup):∀(t:Tr) (a d:Nat),t.sp<=d->a+t.sp<n->(∀p∈t.ts (a:Int),p∈T) ->
  z89 false 4 2 z0p d [L (C.take n),dnA (mds T),.int (a:Int),.int ((a+t.sp:Nat):Int)]=.ok (.int ((t.pl cf:Nat):Int))
 | .lf,a,d,hd,hs,hT=>by
  obtain ⟨d,rfl⟩:∃e,d=e+1:=⟨d - 1,by have:=Tr.sp1 .lf;omega⟩
  show mOf false 4 2 (z0p (z89 false 4 2 z0p d)) _=_
  generalize z89 false 4 2 z0p d=M
  generalize L (C.take n)=A
  generalize dnA (mds T)=B
  unfold z0p
  walk_at "dz"
  rw [show decide (((a+Tr.lf.sp:Nat):Int)=(a:Int)+1)=true from decide_eq_true (by simp only [Tr.sp];omega)]
  walk_at "dz"
  rfl
 | .nd l r,a,d,hd,hs,hT=>by
  have h1:=l.sp1;have h2:=r.sp1
  simp only [Tr.sp] at hd hs
  obtain ⟨d,rfl⟩:∃e,d=e+1:=⟨d - 1,by omega⟩
  have il:=z61 hn hk l a d (by omega) (by omega) fun p hp=>hT p (by simp only [Tr.ts];exact List.mem_cons_of_mem _ (List.mem_append_left _ hp))
  have ir:=z61 hn hk r (a+l.sp) d (by omega) (by omega) fun p hp=>hT p (by simp only [Tr.ts];refine List.mem_cons_of_mem _ (List.mem_append_right _ ?_);rwa [Int.natCast_add] at hp)
  have im:=ixM hk (hT ((a:Int),(a:Int)+(l.sp:Nat),(a:Int)+((l.sp+r.sp:Nat):Int)) (by simp only [Tr.ts];exact List.mem_cons_self))
  dsimp only at im
  show mOf false 4 2 (z0p (z89 false 4 2 z0p d)) _=_
  generalize z89 false 4 2 z0p d=M at *
  rw [show (a:Int)+((l.sp+r.sp:Nat):Int)=((a+(Tr.nd l r).sp:Nat):Int) by simp only [Tr.sp];omega,show (a:Int)+(l.sp:Nat)=((a+l.sp:Nat):Int) by omega] at im
  rw [show a+l.sp+r.sp=a+(Tr.nd l r).sp by simp only [Tr.sp];omega] at ir
  have hb:a+(Tr.nd l r).sp=a+l.sp+r.sp:=by simp only [Tr.sp];omega
  generalize a+(Tr.nd l r).sp=b at *
  generalize hc:a+l.sp=c at *
  have ic:∀k:Nat,k<n->∀i:Int,i=(k:Int)->dIx (L (C.take n)) (.int i)=some (.int (cf k:Int)):=fun k h i hi=>ixC h hn hi
  generalize L (C.take n)=A at *
  generalize dnA (mds T)=B at *
  rw [z9z,if_pos (show [A,B,D.int (a:Int),D.int (b:Int)].length=4 from rfl)]
  show SR.out false (z0p M [.im A,.im B,.im (.int (a:Int)),.im (.int (b:Int)),.em,.em])=_
  unfold z0p
  rw [z0g (ρ':=[.im A,.im B,.im (.int (a:Int)),.im (.int (b:Int)),.em,.em]) (by
   walk_at "dz"
   rw [decide_eq_false (by omega)]
   walk_at "dz")]
  rw [z0g (ρ':=[.im A,.im B,.im (.int (a:Int)),.im (.int (b:Int)),.im (.int (c:Int)),.em]) (by
   walk_at "dz"
   rw [im]
   walk_at "dz")]
  rw [z0g (ρ':=[.im A,.im B,.im (.int (a:Int)),.im (.int (b:Int)),.im (.int (c:Int)),.im (.int ((ah cf (l.sp+r.sp) (l.sp - 1):Nat):Int))]) (by
   walk_at "dz"
   rw [zki ((a:Int)+1) (c:Int) (by omega) (by omega) (by walk_at "dz")]
   walk_at "dz"
   rw [show ((c:Int) - ((a:Int)+1)).toNat=l.sp - 1 by omega]
   rw [if_pos (by rw [zmb];omega)]
   simp only [zD]
   rw [z21 (en:=fun (j:Nat)=>D.int ((a:Int)+1+(j:Int))) (bs:=fun (j:Nat)=>[D.int ((a:Int)+1+(j:Int))]) (g:=fun (j:Nat)=>D.int ((cf (j+1) * cf (l.sp+r.sp - (j+1)):Nat):Int)) (List.range (l.sp - 1)) (fun _ _=>rfl) (fun j hj=>by
    have hj:j<l.sp - 1:=List.mem_range.mp hj
    unfold z69
    walk_at "dz"
    rw [ic (j+1) (by omega) _ (by omega),ic (l.sp+r.sp - (j+1)) (by omega) _ (by omega)]
    walk_at "dz"
    rw [zw8 (zac (by omega)) (zac (by omega))]
    walk_at "dz")]
   walk_at "dz"
   rw [zil,zmw]
   walk_at "dz")]
  walk_at "dz"
  rw [il]
  walk_at "dz"
  rw [ic r.sp (by omega) _ (by omega)]
  walk_at "dz"
  rw [zw8 (zwa (by omega)) (zac (by omega))]
  walk_at "dz"
  rw [ir]
  walk_at "dz"
  simp only [Tr.pl]
  rw [Int.natCast_add,Int.natCast_add]
theorem zbn {tt:DE->R Bool} {g:DS->SR} (P:Nat->DS) (m:Nat) (ht:∀j,j<m->tt (see (P j))=.ok true) (hg:∀j,j<m->g (P j)=.nx (P (j+1))) (hf:tt (see (P m))=.ok false):∀(k j:Nat),j<=m->m - j<k->z2j tt g k (P j)=.nx (P m)
 | 0,_,_,h=>by omega
 | k+1,j,hj,h=>by
  unfold z2j
  by_cases e:j=m
  . subst e
    rw [hf];rfl
  . rw [ht j (by omega),z59,if_pos rfl,hg j (by omega)]
    exact zbn P m ht hg hf k (j+1) (by omega) (by omega)
theorem zit {a b:List P2} (h:a.length+b.length<=1000):zaz (.lst (a.map T2)) (.lst (b.map T2))=some (.lst ((a++b).map T2)):=by
 simp only [zaz,List.length_map]
 rw [if_pos (by omega),List.map_append]
theorem Tr.st_len:∀(t:Tr) (a:Int),(t.st a).length+1=2 * t.sp
 | .lf,_=>rfl
 | .nd l r,a=>by
  have:=l.st_len a;have:=r.st_len (a+(l.sp:Nat))
  simp only [Tr.st,Tr.sp,List.length_cons,List.length_append];omega
theorem zq4 {n:Nat} (hn:n<=60):∀(t:Tr) (a d:Nat),t.sp<=d->a+t.sp<n ->
  z89 true 4 4 z09 d [L (C.take n),.int (a:Int),.int ((a+t.sp:Nat):Int),.int ((t.pl cf:Nat):Int)]=.ok (.lst ((t.st (a:Int)).map T2))
 | .lf,a,d,hd,hs=>by
  obtain ⟨d,rfl⟩:∃e,d=e+1:=⟨d - 1,by have:=Tr.sp1 .lf;omega⟩
  show mOf true 4 4 (z09 (z89 true 4 4 z09 d)) _=_
  generalize z89 true 4 4 z09 d=M
  generalize L (C.take n)=A
  unfold z09
  walk_at "dz"
  rw [show decide (((a+Tr.lf.sp:Nat):Int)=(a:Int)+1)=true from decide_eq_true (by simp only [Tr.sp];omega)]
  walk_at "dz"
  simp only [Tr.st,Tr.sp,T2,List.map_cons,List.map_nil]
  rw [show ((a+1:Nat):Int)=(a:Int)+1 by omega]
 | .nd l r,a,d,hd,hs=>by
  have h1:=l.sp1;have h2:=r.sp1
  have hs':=hs
  simp only [Tr.sp] at hd hs
  obtain ⟨d,rfl⟩:∃e,d=e+1:=⟨d - 1,by omega⟩
  have il:=zq4 hn l a d (by omega) (by omega)
  have ir:=zq4 hn r (a+l.sp) d (by omega) (by omega)
  show mOf true 4 4 (z09 (z89 true 4 4 z09 d)) _=_
  generalize z89 true 4 4 z09 d=M at *
  rw [show a+l.sp+r.sp=a+(Tr.nd l r).sp by simp only [Tr.sp];omega] at ir
  have hb:a+(Tr.nd l r).sp=a+l.sp+r.sp:=by simp only [Tr.sp];omega
  generalize a+(Tr.nd l r).sp=b at *
  have ic:∀k:Nat,k<n->∀i:Int,i=(k:Int)->dIx (L (C.take n)) (.int i)=some (.int (cf k:Int)):=fun k h i hi=>ixC h hn hi
  generalize L (C.take n)=A at *
  have bds:=cat59.in_l l r (by omega)
  have hpl:(Tr.nd l r).pl cf=ah cf (l.sp+r.sp) (l.sp - 1)+(l.pl cf * cf r.sp+r.pl cf):=by simp only [Tr.pl];omega
  have mx:=zej (cat59.lt l (by omega)) (cat59.lt r (by omega))
  have hr:=cat59.lt r (by omega)
  generalize hk:(Tr.nd l r).pl cf=k at *
  rw [z9z,if_pos (show [A,D.int (a:Int),D.int (b:Int),D.int (k:Int)].length=4 from rfl)]
  show SR.out true (z09 M [.im A,.im (.int (a:Int)),.im (.int (b:Int)),.im (.int (k:Int)),.em,.em,.em,.em])=_
  unfold z09
  rw [z0g (ρ':=[.im A,.im (.int (a:Int)),.im (.int (b:Int)),.im (.int (k:Int)),.em,.em,.em,.em]) (by
   walk_at "dz"
   rw [decide_eq_false (by omega)]
   walk_at "dz")]
  rw [z0g (ρ':=[.im A,.im (.int (a:Int)),.im (.int (b:Int)),.im (.int (k:Int)),.im (.int ((a:Int)+1)),.em,.em,.em]) (by walk_at "dz")]
  rw [z0g (ρ':=[.im A,.im (.int (a:Int)),.im (.int (b:Int)),.im (.int (k:Int)),.im (.int ((a:Int)+1)),.im (.int (k:Int)),.em,.em]) (by walk_at "dz")]
  have hw:=zbn (tt:=z1k) (g:=z25) (fun j=>[.im A,.im (.int (a:Int)),.im (.int (b:Int)),.im (.int (k:Int)),.im (.int ((a:Int)+1+(j:Int))),.im (.int ((k - ah cf (l.sp+r.sp) j:Nat):Int)),.em,.em]) (l.sp - 1)
   (fun j hj=>by
    have e:ah cf (l.sp+r.sp) (j+1)=ah cf (l.sp+r.sp) j+cf (j+1) * cf (l.sp+r.sp - (j+1)):=rfl
    have:=z84 cf (l.sp+r.sp) (show j+1<=l.sp - 1 by omega)
    unfold z1k
    walk_at "dz"
    rw [ic (j+1) (by omega) _ (by omega),ic (l.sp+r.sp - (j+1)) (by omega) _ (by omega)]
    walk_at "dz"
    rw [zw8 (zac (by omega)) (zac (by omega))]
    walk_at "dz"
    rw [decide_eq_true (by omega)])
   (fun j hj=>by
    have e:ah cf (l.sp+r.sp) (j+1)=ah cf (l.sp+r.sp) j+cf (j+1) * cf (l.sp+r.sp - (j+1)):=rfl
    have:=z84 cf (l.sp+r.sp) (show j+1<=l.sp - 1 by omega)
    unfold z25
    rw [z0g (ρ':=[.im A,.im (.int (a:Int)),.im (.int (b:Int)),.im (.int (k:Int)),.im (.int ((a:Int)+1+(j:Int))),.im (.int ((k - ah cf (l.sp+r.sp) (j+1):Nat):Int)),.em,.em]) (by
     unfold zct
     dsimp only [List.getElem?_cons_succ,List.getElem?_cons_zero]
     walk_at "dz"
     rw [ic (j+1) (by omega) _ (by omega),ic (l.sp+r.sp - (j+1)) (by omega) _ (by omega)]
     walk_at "dz"
     rw [zw8 (zac (by omega)) (zac (by omega))]
     walk_at "dz"
     rw [show ((k - ah cf (l.sp+r.sp) j:Nat):Int) - ((cf (j+1) * cf (l.sp+r.sp - (j+1)):Nat):Int)=((k - ah cf (l.sp+r.sp) (j+1):Nat):Int) by omega])]
    unfold zct
    dsimp only [List.getElem?_cons_succ,List.getElem?_cons_zero]
    walk_at "dz"
    rw [show (a:Int)+1+(j:Int)+1=(a:Int)+1+((j+1:Nat):Int) by omega])
   (by
    have e:ah cf (l.sp+r.sp) l.sp=ah cf (l.sp+r.sp) (l.sp - 1)+cf l.sp * cf r.sp:=zd7 l r
    unfold z1k
    walk_at "dz"
    rw [ic l.sp (by omega) _ (by omega),ic r.sp (by omega) _ (by omega)]
    walk_at "dz"
    rw [zw8 (zac (by omega)) (zac (by omega))]
    walk_at "dz"
    rw [decide_eq_false (by omega)]) 1000 0 (Nat.zero_le _) (by omega)
  rw [z0g (ρ':=[.im A,.im (.int (a:Int)),.im (.int (b:Int)),.im (.int (k:Int)),.im (.int ((a+l.sp:Nat):Int)),.im (.int ((l.pl cf * cf r.sp+r.pl cf:Nat):Int)),.em,.em]) (by
   have z:(k - ah cf (l.sp+r.sp) (l.sp - 1))=l.pl cf * cf r.sp+r.pl cf:=by omega
   rw [z,show (a:Int)+1+((l.sp - 1:Nat):Int)=((a+l.sp:Nat):Int) by omega] at hw
   simp only [ah,Nat.sub_zero] at hw
   unfold z3j
   rw [show (a:Int)+1=(a:Int)+1+((0:Nat):Int) by omega]
   exact hw)]
  have hp:0<cf r.sp:=by omega
  have kf:∀x:List P2,z3q (x.map T2)=true:=fun x=>z1u _ _ fun y _=>z7o y
  rw [z0g (ρ':=[.im A,.im (.int (a:Int)),.im (.int (b:Int)),.im (.int (k:Int)),.im (.int ((a+l.sp:Nat):Int)),.im (.int ((l.pl cf * cf r.sp+r.pl cf:Nat):Int)),.ow (.lst ((l.st (a:Int)).map T2)),.em]) (by
   have kl:=kf (l.st (a:Int))
   generalize (l.st (a:Int)).map T2=X at *
   walk_at "dz"
   rw [ic r.sp (by omega) _ (by omega)]
   walk_at "dz"
   rw [zvf (by omega) (by have:=(zwz r.sp (by omega)).2;have:(2:Nat) ^ 200<=2 ^ 9000:=Nat.pow_le_pow_right (by decide) (by decide);rw [Int.natAbs_natCast];omega)]
   walk_at "dz"
   rw [show ((l.pl cf * cf r.sp+r.pl cf:Nat):Int) / (cf r.sp:Int)=((l.pl cf:Nat):Int) by
    rw [<-Int.natCast_ediv,Nat.mul_comm,Nat.mul_add_div hp,Nat.div_eq_of_lt hr,Nat.add_zero],il]
   walk_at "dz"
   rw [kl]
   walk_at "dz")]
  rw [z0g (ρ':=[.im A,.im (.int (a:Int)),.im (.int (b:Int)),.im (.int (k:Int)),.im (.int ((a+l.sp:Nat):Int)),.im (.int ((l.pl cf * cf r.sp+r.pl cf:Nat):Int)),.ow (.lst ((l.st (a:Int)).map T2)),.ow (.lst ((r.st ((a+l.sp:Nat):Int)).map T2))]) (by
   have kl:=kf (r.st ((a+l.sp:Nat):Int))
   generalize (l.st (a:Int)).map T2=X at *
   generalize (r.st ((a+l.sp:Nat):Int)).map T2=Y at *
   walk_at "dz"
   rw [ic r.sp (by omega) _ (by omega)]
   walk_at "dz"
   rw [zcn (by omega)]
   walk_at "dz"
   rw [show ((l.pl cf * cf r.sp+r.pl cf:Nat):Int) % (cf r.sp:Int)=((r.pl cf:Nat):Int) by
    rw [<-Int.natCast_emod,Nat.mul_comm,Nat.mul_add_mod,Nat.mod_eq_of_lt hr],ir]
   walk_at "dz"
   rw [kl]
   walk_at "dz")]
  have l1:=l.st_len (a:Int)
  have l2:=r.st_len ((a+l.sp:Nat):Int)
  have e1:=zit (a:=[((a:Int),(b:Int))]) (b:=l.st (a:Int)) (by simp only [List.length_singleton];omega)
  have e2:=zit (a:=[((a:Int),(b:Int))]++l.st (a:Int)) (b:=r.st ((a+l.sp:Nat):Int)) (by simp only [List.length_append,List.length_singleton];omega)
  have e3:[((a:Int),(b:Int))]++l.st (a:Int)++r.st ((a+l.sp:Nat):Int)=(Tr.nd l r).st (a:Int):=by
   simp only [Tr.st]
   rw [show (a:Int)+((l.sp+r.sp:Nat):Int)=(b:Int) by omega,show (a:Int)+((l.sp:Nat):Int)=((a+l.sp:Nat):Int) by omega]
   rfl
  rw [e3] at e2
  rw [show [((a:Int),(b:Int))].map T2=[D.tup [.int (a:Int),.int (b:Int)]] from rfl] at e1
  generalize (l.st (a:Int)).map T2=X1 at *
  generalize (r.st ((a+l.sp:Nat):Int)).map T2=X2 at *
  generalize ([((a:Int),(b:Int))]++l.st (a:Int)).map T2=X3 at *
  generalize ((Tr.nd l r).st (a:Int)).map T2=X4 at *
  walk_at "dz"
  rw [e1]
  walk_at "dz"
  rw [e2]
  walk_at "dz"
theorem zq5 (p:P3):z5d [some (.int p.1),some (.int p.2.1),some (.int p.2.2)]=.ok (TM ([p.1,p.2.2],p.2.1)):=by
 unfold z5d
 walk_at "dz"
 rfl
theorem zmx {n:Int} {ls:List P2} {T:List P3} (I:CInv n ls T):(zab (mds (so3 T))).Nodup:=by
 have h:((so3 T).map outer).Nodup:=by
  have p:((so3 T).map outer).Perm ((0,n - 1)::ls):=((z6n T).map outer).trans I.prm
  rw [p.nodup_iff,List.nodup_cons]
  exact ⟨fun m=>(I.lin 0 (n - 1) m).2.2.2 ⟨rfl,rfl⟩,I.nd⟩
 unfold zab mds List.Nodup at *
 rw [List.map_map,List.pairwise_map]
 rw [List.pairwise_map] at h
 exact h.imp fun {p q} z e=>z (by
  simp only [Function.comp,List.cons.injEq,and_true] at e
  unfold outer;rw [e.1,e.2])
theorem ziu {n:Nat} {ls:List P2} {T:List P3} {t:Tr} (I:CInv (n:Int) ls T) (h:Tc (n:Int) T t) (hl:ls.length+3=n) (hn:n<=60) :
  z3z [.tup [.int (n:Int),.tup ((so2 ls).map T2)]]=.ok (.int ((t.pl cf:Nat):Int)):=by
 have h3:=I.n3
 have et:=zd4 I (z1y ls) (by omega)
 have es:=zzo n (by omega)
 have hT:(so3 T).length<=60:=by
  have:=I.prm.length_eq
  rw [List.length_map,List.length_cons] at this
  rw [(z6n T).length_eq];omega
 have hsp:t.sp+1=n:=by have:=h.1;omega
 have ed:=zw7 (l:=mds (so3 T)) (zmx I) (by unfold mds;rw [List.length_map];omega)
 have ep:=z61 (T:=so3 T) hn (zmx I) t 0 64 (by omega) (by omega) fun p hp=>(z6n T).mem_iff.mpr (h.2.mem_iff.mpr hp)
 have ep':z5r [L (C.take n),dnA (mds (so3 T)),.int 0,.int ((n:Int) - 1)]=.ok (.int ((t.pl cf:Nat):Int)):=by
  rw [show (n:Int) - 1=((0+t.sp:Nat):Int) by omega]
  exact ep
 have em:z1s (bT 3) z52 z5d [] ((so3 T).map T3)=.ok ((mds (so3 T)).map TM):=by
  rw [z21 (en:=T3) (bs:=fun p:P3=>[.int p.1,.int p.2.1,.int p.2.2]) (g:=fun p=>TM ([p.1,p.2.2],p.2.1)) (so3 T) (fun x _=>rfl) (fun p _=>zq5 p)]
  unfold mds
  rw [List.map_map];rfl
 have lT:((so3 T).map T3).length<=1000:=by rw [List.length_map];omega
 have kn:z3q ((mds (so3 T)).map fun t=>D.int t.2)=true:=z1u _ _ fun t _=>z7j t.2
 unfold dnA at *
 generalize ((mds (so3 T)).map fun t=>kN t.1)=ks at *
 generalize ((mds (so3 T)).map fun t=>D.int t.2)=vs at *
 generalize (mds (so3 T)).map TM=X at *
 generalize (so3 T).map T3=Y at *
 generalize (so2 ls).map T2=Z at *
 generalize L (C.take n)=A at *
 unfold z3z zig
 walk_at "dz"
 rw [et]
 walk_at "dz"
 rw [if_pos (by omega),em]
 walk_at "dz"
 rw [ed]
 walk_at "dz"
 rw [show keeps true (D.dn ks vs)=z3q vs by simp only [keeps,D.shal,if_true],kn]
 walk_at "dz"
 rw [es]
 walk_at "dz"
 rw [ep']
 walk_at "dz"
theorem zwb (n a b:Int):z3v [.int n,.tup [.int a,.int b]]=.ok (.bl (decide (0<=a/\b<n/\(b=a+1\/(a=0/\b=n - 1))))):=by
 unfold z3v zbc
 walk_at "dz"
 by_cases h1:a<0
 . rw [decide_eq_true h1]
   walk_at "dz"
   rw [decide_eq_false (by omega)]
 . rw [decide_eq_false h1]
   walk_at "dz"
   by_cases h2:n<=b
   . rw [decide_eq_true h2]
     walk_at "dz"
     rw [decide_eq_false (by omega)]
   . rw [decide_eq_false h2]
     walk_at "dz"
     by_cases h3:b=a+1
     . rw [decide_eq_true h3]
       walk_at "dz"
       rw [decide_eq_true (by omega)]
     . rw [decide_eq_false h3]
       walk_at "dz"
       by_cases h4:a=0
       . rw [decide_eq_true h4]
         walk_at "dz"
         by_cases h5:b=n - 1
         . rw [decide_eq_true h5,decide_eq_true (by omega)]
         . rw [decide_eq_false h5,decide_eq_false (by omega)]
       . rw [decide_eq_false h4]
         walk_at "dz"
         rw [decide_eq_false (by omega)]
def isL (n:Int) (p:P2):Bool:=decide (0<=p.1/\p.1<p.2/\p.2<n/\¬(p.2=p.1+1\/(p.1=0/\p.2=n - 1)))
theorem zwc (n:Int) (p:P2) (h0:0<=p.1) (h1:p.1<p.2) (h2:p.2<n):z3y [.int n,T2 p]=.ok (.bl (isL n p)):=by
 obtain ⟨a,b⟩:=p
 have es:=zwb n a b
 unfold T2 isL at *
 dsimp only at *
 unfold z3y zbd
 walk_at "dz"
 rw [decide_eq_true h0]
 walk_at "dz"
 rw [decide_eq_true h1]
 walk_at "dz"
 rw [decide_eq_true h2]
 walk_at "dz"
 rw [es]
 walk_at "dz"
 by_cases q:b=a+1\/(a=0/\b=n - 1)
 . rw [decide_eq_true (by omega),decide_eq_false (by omega)];rfl
 . rw [decide_eq_false (by omega),decide_eq_true (by omega)];rfl
theorem Tr.st_b:∀(t:Tr) (a:Int) (p:P2),p∈t.st a->a<=p.1/\p.1<p.2/\p.2<=a+(t.sp:Nat)
 | .lf,a,p,h=>by
  simp only [Tr.st,List.mem_singleton] at h
  subst h
  simp only [Tr.sp];omega
 | .nd l r,a,p,h=>by
  have h1:=l.sp1;have h2:=r.sp1
  simp only [Tr.sp]
  rcases List.mem_cons.mp h with rfl | h
  . dsimp only;omega
  . rcases List.mem_append.mp h with h | h
    . have:=l.st_b a p h;omega
    . have:=r.st_b _ p h;omega
theorem zek {n:Int}:∀(t:Tr) (a:Int),0<=a->a+(t.sp:Nat)<n->¬(a=0/\a+(t.sp:Nat)=n - 1)->(t.st a).filter (isL n)=(t.ts a).map outer
 | .lf,a,_,_,_=>by
  have:isL n (a,a+1)=false:=decide_eq_false (by dsimp only;omega)
  simp only [Tr.st,Tr.ts,List.map_nil]
  rw [List.filter_cons_of_neg (by rw [this];exact Bool.false_ne_true)];rfl
 | .nd l r,a,h0,h1,h2=>by
  have g1:=l.sp1;have g2:=r.sp1
  simp only [Tr.sp] at h1 h2
  have:isL n (a,a+((l.sp+r.sp:Nat):Int))=true:=decide_eq_true (by dsimp only;omega)
  simp only [Tr.st,Tr.ts,List.map_cons,List.map_append]
  rw [List.filter_cons_of_pos this,List.filter_append,zek l a h0 (by omega) (by omega),zek r _ (by omega) (by omega) (by omega)]
  rfl
theorem zzp {n:Nat} {t:Tr} (h:t.sp+1=n) (h3:3<=n):(t.st 0).filter (isL (n:Int))=t.ln:=by
 cases t with
 | lf=>simp only [Tr.sp] at h;omega
 | nd l r=>
  have g1:=l.sp1;have g2:=r.sp1
  simp only [Tr.sp] at h
  have:isL (n:Int) (0,0+((l.sp+r.sp:Nat):Int))=false:=decide_eq_false (by dsimp only;omega)
  unfold Tr.ln
  simp only [Tr.st,Tr.ts,List.map_cons,List.map_append,List.tail_cons]
  rw [List.filter_cons_of_neg (by rw [this];exact Bool.false_ne_true),List.filter_append,zek l 0 (by omega) (by omega) (by omega),zek r _ (by omega) (by omega) (by omega)]
theorem Tr.ts_len:∀(t:Tr) (a:Int),(t.ts a).length+1=t.sp
 | .lf,_=>rfl
 | .nd l r,a=>by
  have:=l.ts_len a;have:=r.ts_len (a+(l.sp:Nat))
  simp only [Tr.ts,Tr.sp,List.length_cons,List.length_append];omega
theorem Tr.ln_len (t:Tr):t.ln.length=t.sp - 2:=by
 unfold Tr.ln
 rw [List.length_tail,List.length_map]
 have:=t.ts_len 0;omega
theorem y0w {n:Nat} (h3:3<=n) (hn:n<=60) {t:Tr} (h:t.sp+1=n):z0u [.int (n:Int),.int ((t.pl cf:Nat):Int)]=.ok (.tup [.int (n:Int),.tup ((so2 t.ln).map T2)]):=by
 have e1:=zeg (n:Int) (by omega)
 have es:=zzo n (by omega)
 have ew:=zd6 ((t.pl cf:Nat):Int)
 have ei:dIx (L (C.take n)) (.int ((n:Int) - 1))=some (.int (cf t.sp:Int)):=ixC (by omega) hn (by omega)
 have hp:=cat59.lt t (by omega)
 have er:=zq4 hn t 0 64 (by omega) (by omega)
 have er':z30 [L (C.take n),.int 0,.int ((n:Int) - 1),.int ((t.pl cf:Nat):Int)]=.ok (.lst ((t.st 0).map T2)):=by
  rw [show (n:Int) - 1=((0+t.sp:Nat):Int) by omega]
  exact er
 have hl:=t.st_len 0
 have ef:z1s b1 z2t z2u [some (.int (n:Int))] ((t.st 0).map T2)=.ok (t.ln.map T2):=by
  rw [<-zzp h h3]
  rw [z7l (en:=T2) (bs:=fun p:P2=>[T2 p]) (p:=isL (n:Int)) (g:=T2) (t.st 0) (fun x _=>rfl) (fun p hp=>by
   have b:=t.st_b 0 p hp
   have el:=zwc (n:Int) p (by omega) (by omega) (by omega)
   show z2t [some (T2 p),some (.int (n:Int))]=_
   unfold z2t
   generalize T2 p=x at *
   walk_at "dz"
   rw [el]
   walk_at "dz") (fun p _ _=>by
   show z2u [some (T2 p),some (.int (n:Int))]=_
   unfold z2u
   generalize T2 p=x
   walk_at "dz")]
 have so:=zb9 t.ln (by rw [t.ln_len];omega)
 have lT:((t.st 0).map T2).length<=100000:=by rw [List.length_map];omega
 have kl:z3q ((so2 t.ln).map T2)=true:=z1u _ _ fun y _=>z7o y
 have kA:z3q ((C.take n).map D.int)=true:=z1u D.int _ fun x _=>z7j x
 unfold L at *
 generalize (C.take n).map D.int=A at *
 generalize (t.st 0).map T2=X at *
 generalize t.ln.map T2=Y at *
 generalize (so2 t.ln).map T2=Z at *
 generalize t.pl cf=k at *
 unfold z0u
 rw [z9z,if_pos (show [D.int (n:Int),D.int (k:Int)].length=2 from rfl)]
 show SR.out false (z39 [.im (.int (n:Int)),.im (.int (k:Int)),.em])=_
 unfold z39
 rw [z0g (ρ':=[.im (.int (n:Int)),.im (.int (k:Int)),.em]) (by
  walk_at "dz"
  rw [e1]
  walk_at "dz")]
 rw [z0g (ρ':=[.im (.int (n:Int)),.im (.int (k:Int)),.ow (.lst A)]) (by
  walk_at "dz"
  rw [es]
  walk_at "dz"
  rw [kA]
  walk_at "dz")]
 rw [z0g (ρ':=[.im (.int (n:Int)),.im (.int (k:Int)),.ow (.lst A)]) (by
  walk_at "dz"
  rw [ew]
  walk_at "dz"
  rw [decide_eq_true (by omega)]
  walk_at "dz"
  rw [ei]
  walk_at "dz"
  rw [decide_eq_true (by omega)]
  walk_at "dz")]
 walk_at "dz"
 rw [er']
 walk_at "dz"
 rw [if_pos lT,ef]
 walk_at "dz"
 rw [so]
 walk_at "dz"
theorem zbo (x:Nat):∀(prs:List (Int×Int)) (nss:List (List Int)),(z2z nss prs)[x]?=(nss[x]?).map fun s=>s++(prs.filter fun q=>decide (q.1.toNat=x)).map (·.2)
 | [],nss=>by simp [z2z]
 | q::r,nss=>by
  show (z2z (nss.modify q.1.toNat (·++[q.2])) r)[x]?=_
  rw [zbo x r,List.getElem?_modify]
  by_cases h:q.1.toNat=x
  . rw [List.filter_cons_of_pos (by simpa using h)]
    cases nss[x]? with
    | none=>rfl
    | some s=>simp [h]
  . rw [List.filter_cons_of_neg (by simpa using h)]
    cases nss[x]? with
    | none=>rfl
    | some s=>simp [h]
def zbp (n:Nat):List (List Int):=(List.range n).map fun (k:Nat)=>[(k:Int)+1]
def zx0 (n:Nat) (ls:List P2) (x:Nat):List Int:=((x:Int)+1)::((so2 ls).filter fun q=>decide (q.1.toNat=x)).map (·.2)
theorem zd8 {n:Nat} {ls:List P2} {x:Nat} (h:x<n):(z2z (zbp n) (so2 ls))[x]?=some (zx0 n ls x):=by
 rw [zbo]
 unfold zbp
 rw [List.getElem?_map,List.getElem?_range h];rfl
theorem zd9 {n:Int} {ls:List P2} {T:List P3} (I:CInv n ls T) {m x:Nat} {y:Int}:y∈zx0 m ls x↔y=(x:Int)+1\/((x:Int),y)∈ls:=by
 unfold zx0
 rw [List.mem_cons,List.mem_map]
 refine or_congr Iff.rfl ⟨fun ⟨q,hq,e⟩=>?_,fun h=>⟨((x:Int),y),List.mem_filter.mpr ⟨(z1y ls).mem_iff.mpr h,by simp⟩,rfl⟩⟩
 obtain ⟨h1,h2⟩:=List.mem_filter.mp hq
 have h1:=(z1y ls).mem_iff.mp h1
 have b:=I.lin q.1 q.2 h1
 simp only [decide_eq_true_eq] at h2
 rw [show (x:Int)=q.1 by omega,<-e];exact h1
structure Thd (F:List (List Int)) (p:P3):Prop where
 a0:0<=p.1
 cl:p.2.1.toNat<F.length
 ac:p.1<p.2.1
 cb:p.2.1<p.2.2
 i1:∃f,F[p.1.toNat]?=some f/\p.2.1∈f/\∀y∈f,y<p.2.2->y<=p.2.1
 i2:∃f,F[p.2.1.toNat]?=some f/\p.2.2∈f
theorem zwd {n:Nat} {ls:List P2} {T:List P3} (I:CInv (n:Int) ls T) {p:P3} (h:p∈T):Thd (z2z (zbp n) (so2 ls)) p:=by
 obtain ⟨a,c,b⟩:=p
 obtain ⟨h0,h1,h2,h3,h4,h5⟩:=I.tri a c b h
 have hl:(z2z (zbp n) (so2 ls)).length=n:=by rw [z5a];simp [zbp]
 refine ⟨h0,by rw [hl];dsimp only;omega,h1,h2,⟨_,zd8 (by dsimp only;omega),(zd9 I).mpr ?_,fun y hy hb=>?_⟩,⟨_,zd8 (by dsimp only;omega),(zd9 I).mpr ?_⟩⟩
 . dsimp only
   rw [Int.toNat_of_nonneg h0]
   rcases h4 with h4 | h4
   . exact .inr h4
   . exact .inl h4
 . dsimp only at hy hb ⊢
   rw [zd9 I,Int.toNat_of_nonneg h0] at hy
   rcases hy with rfl | hy
   . omega
   . rcases h5 with h5 | h5
     . have:=I.nc a y c b hy h5;omega
     . omega
 . dsimp only
   rw [Int.toNat_of_nonneg (by omega)]
   rcases h5 with h5 | h5
   . exact .inr h5
   . exact .inl h5
theorem zwe {n:Int} {ns:List Int} {c:Int} (h:c∈n::ns) (k:∀y∈n::ns,y<=c):zfk n ns=c:=by
 obtain ⟨h1,h2⟩:=z7i ns n
 exact Int.le_antisymm (k _ h1) (h2 c h)
theorem zwf {xs:List Int} {c:Int} (h:c∈xs) (k:∀y∈xs,y<=c):zf3 [.lst (xs.map D.int)]=some (.int c):=by
 cases xs with
 | nil=>cases h
 | cons n ns=>simp only [zf3,z1m,zwe h k]
theorem zzq (k:Int) (xs:List Int) (h:k∈xs):dIn true (.int k) (L xs)=some (.bl false):=by
 have e:(xs.map D.int).any (fun e=>eqD e (.int k))=true:=by
  rw [List.any_map,List.any_eq_true]
  exact ⟨k,h,by simp [eqD]⟩
 have h1:z4e (xs.map D.int)<=0:=za3 xs D.int 0 fun x=>by simp [D.dep]
 have h2:pls (xs.map D.int)=true:=L2.pls_of xs D.int fun x=>rfl
 unfold L dIn dOr zwp
 simp only [D.pl,h2,true_and,if_pos (show z4e (xs.map D.int)<=20 by omega),e,if_true]
 rfl
theorem y0x {F:List (List Int)} {k:Nat} {i:Int} {f:List Int} (hi:i=(k:Int)) (h:F[k]?=some f):dIx (LL F) (.int i)=some (L f):=by
 subst hi
 have e:(F.map L)[k]?=some (L f):=by rw [List.getElem?_map,h];rfl
 exact zm8 e
def prW (w:Tr×Nat):P2:=((w.2:Int),((w.2+w.1.sp:Nat):Int))
def thW:List (Tr×Nat)->List Int
 | []=>[]
 | w::r=>thW r++(w.1.th w.2).map fun (k:Nat)=>(k:Int)
def wtW:List (Tr×Nat)->Nat
 | []=>0
 | w::r=>wtW r+(2 * w.1.sp - 1)
theorem zad:∀a b,thW (a++b)=thW b++thW a
 | [],b=>by simp [thW]
 | w::a,b=>by simp only [List.cons_append,thW,zad a b,List.append_assoc]
theorem z62:∀a b,wtW (a++b)=wtW a+wtW b
 | [],b=>by simp [wtW]
 | w::a,b=>by simp only [List.cons_append,wtW,z62 a b];omega
theorem zq6 (A:D) (F:List (List Int)) (found:List Int) (W:List (Tr×Nat)) (s2 s3 s6:Sl) :
  z0k (see [.im A,.im (LL F),s2,s3,.ow (L found),.ow (.lst (W.map fun w=>T2 (prW w))),s6])=.ok (decide (0<W.length)):=by
 unfold z0k
 generalize L found=B
 generalize LL F=G
 have hl:(W.map fun w=>T2 (prW w)).length=W.length:=List.length_map _
 generalize (W.map fun w=>T2 (prW w))=X at *
 walk_at "dz"
 rw [hl]
 congr 1
 exact decide_eq_decide.mpr (by omega)
theorem ziv (A G B:D) (W:List (Tr×Nat)) (t:Tr) (a:Nat) (s2 s3 s6:Sl):zf7 5 (.t [2,3]) [.im A,.im G,s2,s3,.ow B,.ow (.lst ((W++[(t,a)]).map fun w=>T2 (prW w))),s6] =
  .nx [.im A,.im G,.im (.int (a:Int)),.im (.int ((a+t.sp:Nat):Int)),.ow B,.ow (.lst (W.map fun w=>T2 (prW w))),s6]:=by
 unfold zf7
 dsimp only [List.getElem?_cons_succ,List.getElem?_cons_zero]
 rw [List.map_append,List.map_cons,List.map_nil,List.getLast?_concat,List.dropLast_concat]
 rfl
theorem zq7 (A G B:D) (W:List (Tr×Nat)) (a:Nat) (s2 s3 s6:Sl) :
  z0b [.im A,.im G,s2,s3,.ow B,.ow (.lst ((W++[(Tr.lf,a)]).map fun w=>T2 (prW w))),s6]=.nx [.im A,.im G,.im (.int (a:Int)),.im (.int ((a+1:Nat):Int)),.ow B,.ow (.lst (W.map fun w=>T2 (prW w))),s6]:=by
 unfold z0b
 rw [z0g (ziv A G B W .lf a s2 s3 s6)]
 generalize (W.map fun w=>T2 (prW w))=X
 simp only [Tr.sp]
 walk_at "dz"
 rw [decide_eq_false (by omega)]
 walk_at "dz"
theorem zq8 (A:D) (F:List (List Int)) (found:List Int) (hf:found.length<=1000) (W:List (Tr×Nat)) (hW:W.length<=1000) (l r:Tr) (a:Nat) (ht:Thd F ((a:Int),(a:Int)+(l.sp:Nat),(a:Int)+((l.sp+r.sp:Nat):Int))) (hb:∀f∈F,f.length<=1000) (s2 s3 s6:Sl) :
  z0b [.im A,.im (LL F),s2,s3,.ow (L found),.ow (.lst ((W++[(Tr.nd l r,a)]).map fun w=>T2 (prW w))),s6] =
   .nx [.im A,.im (LL F),.im (.int (a:Int)),.im (.int ((a+(l.sp+r.sp):Nat):Int)),.ow (L (found++[((a+l.sp:Nat):Int)])),.ow (.lst ((W++[(r,a+l.sp),(l,a)]).map fun w=>T2 (prW w))),.im (.int ((a+l.sp:Nat):Int))]:=by
 have g1:=l.sp1;have g2:=r.sp1
 obtain ⟨f,f1,f2,f3⟩:=ht.i1
 obtain ⟨g,k1,k2⟩:=ht.i2
 dsimp only at f1 f2 f3 k1 k2
 rw [show (a:Int)+((l.sp:Nat):Int)=((a+l.sp:Nat):Int) by omega,show (a:Int)+((l.sp+r.sp:Nat):Int)=((a+(l.sp+r.sp):Nat):Int) by omega] at *
 have ef:z1s b1 z0q z0r [some (.int ((a+(l.sp+r.sp):Nat):Int))] (f.map D.int)=.ok ((f.filter fun y=>decide (y<((a+(l.sp+r.sp):Nat):Int))).map D.int):=
  z7l (en:=D.int) (bs:=fun y:Int=>[.int y]) (p:=fun y=>decide (y<((a+(l.sp+r.sp):Nat):Int))) (g:=D.int) f (fun x _=>rfl) (fun y _=>by
   show z0q [some (.int y),some (.int _)]=_
   unfold z0q
   walk_at "dz") (fun y _ _=>by
   show z0r [some (.int y),some (.int _)]=_
   unfold z0r
   walk_at "dz")
 have em:zf3 [.lst ((f.filter fun y=>decide (y<((a+(l.sp+r.sp):Nat):Int))).map D.int)]=some (.int ((a+l.sp:Nat):Int)):=
  zwf (List.mem_filter.mpr ⟨f2,decide_eq_true (by omega)⟩) fun y hy=>f3 y (List.mem_filter.mp hy).1 (of_decide_eq_true (List.mem_filter.mp hy).2)
 have e1:dIx (LL F) (.int (a:Int))=some (L f):=y0x rfl (by rw [Int.toNat_natCast] at f1;exact f1)
 have e2:dIx (LL F) (.int ((a+l.sp:Nat):Int))=some (L g):=y0x rfl (by rw [Int.toNat_natCast] at k1;exact k1)
 have e3:=zzq _ g k2
 have lf:(f.map D.int).length<=100000:=by rw [List.length_map];have:=hb f (List.mem_of_getElem? f1);omega
 have kw:z3q (W.map fun w=>T2 (prW w))=true:=z1u _ _ fun w _=>z7o _
 have lW:(W.map fun w=>T2 (prW w)).length<=1000:=by rw [List.length_map];exact hW
 have eX:(W++[(r,a+l.sp),(l,a)]).map (fun w=>T2 (prW w))=W.map (fun w=>T2 (prW w))++[.tup [.int ((a+l.sp:Nat):Int),.int ((a+(l.sp+r.sp):Nat):Int)],.tup [.int (a:Int),.int ((a+l.sp:Nat):Int)]]:=by
  rw [List.map_append]
  simp only [List.map_cons,List.map_nil,prW,T2]
  rw [show a+l.sp+r.sp=a+(l.sp+r.sp) by omega]
 unfold z0b
 rw [z0g (ziv A (LL F) (L found) W (.nd l r) a s2 s3 s6),eX]
 simp only [Tr.sp]
 generalize LL F=G at *
 generalize (W.map fun w=>T2 (prW w))=X at *
 have ea:=zkh (ns:=found) (x:=((a+l.sp:Nat):Int)) (by omega)
 have hB:isT "list" (L found)=true:=rfl
 have e5:∀d e:D,zcm (.lst X) [d]=some (.lst (X++[d]))/\zcm (.lst (X++[d])) [e]=some (.lst (X++[d,e])):=fun d e=>by
  simp only [zcm]
  rw [if_pos (by omega),if_pos (by rw [List.length_append,List.length_singleton];omega),List.append_assoc]
  exact ⟨rfl,rfl⟩
 generalize L (found++[((a+l.sp:Nat):Int)])=B' at *
 generalize L found=B at *
 unfold L at e1 e2 e3
 generalize g.map D.int=g' at *
 generalize (f.filter fun y=>decide (y<((a+(l.sp+r.sp):Nat):Int))).map D.int=f'' at *
 generalize f.map D.int=f' at *
 walk_at "dz"
 rw [decide_eq_true (by omega)]
 walk_at "dz"
 rw [e1]
 walk_at "dz"
 rw [if_pos lf,ef]
 walk_at "dz"
 rw [em]
 walk_at "dz"
 rw [e2]
 walk_at "dz"
 rw [e3]
 walk_at "dz"
 rw [ea]
 walk_at "dz"
 rw [hB,(e5 _ (.tup [.int (a:Int),.int ((a+l.sp:Nat):Int)])).1]
 walk_at "dz"
 rw [(e5 _ _).2]
 walk_at "dz"
theorem zda (A:D) (F:List (List Int)) (hF:∀f∈F,f.length<=1000):∀(k:Nat) (W:List (Tr×Nat)) (found:List Int) (s2 s3 s6:Sl),wtW W<k->wtW W<=900->found.length+wtW W<=900->W.length+wtW W<=900->(∀w∈W,∀p∈w.1.ts (w.2:Int),Thd F p)->∃s2' s3' s6':Sl,
  z2j z0k z0b k [.im A,.im (LL F),s2,s3,.ow (L found),.ow (.lst (W.map fun w=>T2 (prW w))),s6]=.nx [.im A,.im (LL F),s2',s3',.ow (L (found++thW W)),.ow (.lst []),s6']
 | 0,_,_,_,_,_,h,_,_,_,_=>by omega
 | k+1,W,found,s2,s3,s6,hk,h1,h2,h3,hT=>by
  unfold z2j
  rw [zq6,z59]
  rcases List.eq_nil_or_concat W with rfl | ⟨W',w,rfl⟩
  . exact ⟨s2,s3,s6,by simp [thW]⟩
  . rw [List.concat_eq_append] at *
    obtain ⟨t,a⟩:=w
    rw [z62] at hk h1 h2 h3
    rw [List.length_append,List.length_singleton] at h3
    simp only [wtW] at hk h1 h2 h3
    rw [decide_eq_true (by rw [List.length_append,List.length_singleton];omega),if_pos rfl]
    cases t with
    | lf=>
     simp only [Tr.sp] at hk h1 h2 h3
     rw [zq7]
     obtain ⟨u2,u3,u6,e⟩:=zda A F hF k W' found _ _ s6 (by omega) (by omega) (by omega) (by omega) fun w hw=>hT w (List.mem_append_left _ hw)
     refine ⟨u2,u3,u6,?_⟩
     rw [zad]
     exact e
    | nd l r=>
     have g1:=l.sp1;have g2:=r.sp1
     simp only [Tr.sp] at hk h1 h2 h3
     have hn:=hT (.nd l r,a) (List.mem_append_right _ List.mem_cons_self)
     simp only [Tr.ts] at hn
     rw [zq8 A F found (by omega) W' (by omega) l r a (hn _ List.mem_cons_self) hF]
     obtain ⟨u2,u3,u6,e⟩:=zda A F hF k (W'++[(r,a+l.sp),(l,a)]) (found++[((a+l.sp:Nat):Int)]) _ _ _ (by rw [z62];simp only [wtW];omega) (by rw [z62];simp only [wtW];omega) (by rw [z62,List.length_append];simp only [wtW,List.length_singleton];omega) (by rw [z62,List.length_append];simp only [wtW,List.length_cons,List.length_nil];omega) (fun w hw=>by
      rcases List.mem_append.mp hw with hw | hw
      . exact hT w (List.mem_append_left _ hw)
      . rcases List.mem_cons.mp hw with rfl | hw
        . exact fun p hp=>hn p (List.mem_cons_of_mem _ (List.mem_append_right _ (by rwa [Int.natCast_add] at hp)))
        . rw [List.mem_singleton] at hw
          subst hw
          exact fun p hp=>hn p (List.mem_cons_of_mem _ (List.mem_append_left _ hp)))
     refine ⟨u2,u3,u6,?_⟩
     show z2j _ _ k _=_
     rw [e,zad,zad]
     simp only [thW,Tr.th,List.nil_append,List.map_cons,List.map_append,List.append_assoc,List.cons_append]
theorem y1x (n:Nat):zD 0 n=(List.range n).map fun (k:Nat)=>D.int (k:Int):=by
 simp only [zD]
 apply List.map_congr_left
 intro k _
 rw [Int.zero_add]
theorem zzr {n:Nat} {ls:List P2} {T:List P3} (I:CInv (n:Int) ls T) (hl:ls.length<=57) (hn:n<=60):∃s2 s3:Sl,
  zpr 1 2 3 [true,false,false,false,true,true,true] z0l [] z0c z0m [.im (.tup [.int (n:Int),.tup ((so2 ls).map T2)]),.em,.em,.em,.em,.em,.em] =
   .nx [.im (.tup [.int (n:Int),.tup ((so2 ls).map T2)]),.im (LL (z2z (zbp n) (so2 ls))),s2,s3,.em,.em,.em]:=by
 have h3:=I.n3
 have ls2:(so2 ls).length<=57:=by rw [(z1y ls).length_eq];exact hl
 have bd:∀q∈so2 ls,0<=q.1/\q.1<((zbp n).length:Int):=fun q hq=>by
  have:=I.lin q.1 q.2 ((z1y ls).mem_iff.mp hq)
  rw [show (zbp n).length=n by simp [zbp]];omega
 have v:vis [true,false,false,false,true,true,true] [.im (.tup [.int (n:Int),.tup ((so2 ls).map T2)]),.em,.em,.em,.em,.em,.em]=[some (.tup [.int (n:Int),.tup ((so2 ls).map T2)]),none,none,none,none,none,none]:=by
  generalize D.tup [.int (n:Int),.tup ((so2 ls).map T2)]=A
  walk_at "dz"
 have i1:z0l [some (.tup [.int (n:Int),.tup ((so2 ls).map T2)]),none,none,none,none,none,none]=.ok ((List.range n).map fun (k:Nat)=>D.int (k:Int)):=by
  generalize (so2 ls).map T2=X
  unfold z0l
  rw [zz7 (n:Int) (by omega) (by walk_at "dz"),Int.toNat_natCast,y1x]
 have i2:z1s b1 z52 z0c (L2.sel [] [some (.tup [.int (n:Int),.tup ((so2 ls).map T2)]),none,none,none,none,none,none]) ((List.range n).map fun (k:Nat)=>D.int (k:Int))=.ok ((zbp n).map L):=by
  rw [z21 (en:=fun (k:Nat)=>D.int (k:Int)) (bs:=fun (k:Nat)=>[D.int (k:Int)]) (g:=fun (k:Nat)=>L [(k:Int)+1]) (List.range n) (fun _ _=>rfl) (fun k _=>by
   show z0c [some (.int (k:Int))]=_
   unfold z0c
   walk_at "dz"
   rfl)]
  unfold zbp
  rw [List.map_map];rfl
 have i3:z0m [some (.tup [.int (n:Int),.tup ((so2 ls).map T2)]),none,none,none,none,none,none]=.ok ((so2 ls).map T2):=by
  generalize (so2 ls).map T2=X
  unfold z0m
  walk_at "dz"
 rw [zvo (nss:=zbp n) (prs:=so2 ls) v rfl rfl rfl i1 (by rw [i3];rfl) i2 (by decide) (by decide) (by decide) (by rw [List.length_map,List.length_range];omega) (by omega) bd (fun ns hns=>by
  obtain ⟨k,_,rfl⟩:=List.mem_map.mp hns
  show 1<=1000
  omega)]
 clear v i1 i2 i3
 unfold zwv
 generalize LL (z2z (zbp n) (so2 ls))=G
 generalize D.tup [.int (n:Int),.tup ((so2 ls).map T2)]=A
 cases (so2 ls).getLast? with
 | none=>exact ⟨_,_,rfl⟩
 | some q=>exact ⟨_,_,rfl⟩
theorem ziw {n:Nat} {ls:List P2} {T:List P3} {t:Tr} (I:CInv (n:Int) ls T) (h:Tc (n:Int) T t) (hl:ls.length+3=n) (hn:n<=60) :
  z0a [.tup [.int (n:Int),.tup ((so2 ls).map T2)]]=.ok (L ((t.th 0).map fun (k:Nat)=>(k:Int))):=by
 have h3:=I.n3
 have hsp:t.sp+1=n:=by have:=h.1;omega
 obtain ⟨s2,s3,ef⟩:=zzr I (by omega) hn
 have hF:∀f∈z2z (zbp n) (so2 ls),f.length<=1000:=fun f hf=>by
  obtain ⟨k,hk,e⟩:=List.mem_iff_getElem.mp hf
  have hk':k<n:=by rw [z5a] at hk;simpa [zbp] using hk
  have:=zd8 (n:=n) (ls:=ls) hk'
  rw [List.getElem?_eq_getElem hk,e] at this
  cases this
  unfold zx0
  rw [List.length_cons,List.length_map]
  exact Nat.le_trans (Nat.succ_le_succ (List.length_filter_le _ _)) (by have:=(z1y ls).length_eq;omega)
 obtain ⟨u2,u3,u6,ew⟩:=zda (.tup [.int (n:Int),.tup ((so2 ls).map T2)]) (z2z (zbp n) (so2 ls)) hF 1000 [(t,0)] [] s2 s3 .em (by simp only [wtW];omega) (by simp only [wtW];omega) (by simp only [wtW,List.length_nil];omega) (by simp only [wtW,List.length_singleton];omega) (fun w hw p hp=>by
  rw [List.mem_singleton] at hw
  subst hw
  exact zwd I (h.2.mem_iff.mpr hp))
 have eW:[(t,0)].map (fun w=>T2 (prW w))=[D.tup [.int 0,.int ((n:Int) - 1)]]:=by
  simp only [List.map_cons,List.map_nil,prW,T2]
  rw [show ((0+t.sp:Nat):Int)=(n:Int) - 1 by omega];rfl
 rw [eW] at ew
 simp only [thW,List.nil_append] at ew
 generalize z2z (zbp n) (so2 ls)=F at *
 unfold z0a
 rw [z9z,if_pos (show [D.tup [.int (n:Int),.tup ((so2 ls).map T2)]].length=1 from rfl)]
 show SR.out true (z1d [.im (.tup [.int (n:Int),.tup ((so2 ls).map T2)]),.em,.em,.em,.em,.em,.em])=_
 unfold z1d
 rw [z0g ef]
 clear ef
 generalize (so2 ls).map T2=X at *
 generalize LL F=G at *
 rw [z0g (ρ':=[.im (.tup [.int (n:Int),.tup X]),.im G,s2,s3,.ow (L []),.em,.em]) (by
  walk_at "dz"
  rfl)]
 rw [z0g (ρ':=[.im (.tup [.int (n:Int),.tup X]),.im G,s2,s3,.ow (L []),.ow (.lst [D.tup [.int 0,.int ((n:Int) - 1)]]),.em]) (by
  generalize L []=B
  walk_at "dz")]
 rw [z0g (a:=z3j 1000 z0k z0b) ew]
 generalize L ((t.th 0).map fun (k:Nat)=>(k:Int))=B
 walk_at "dz"
open L2 (so2 z1y z7n ltT T2 Srt z58 z2n z8s zkj z6o zme D)
theorem zmy (p q:P2):ltT (T2 p) (T2 q)=decide (p.1<q.1\/(p.1=q.1/\p.2<q.2)):=by
 obtain ⟨a,b⟩:=p;obtain ⟨c,d⟩:=q
 simp only [T2,L2.ltT,L2.ltTs,L2.eqD]
 by_cases h1:a<c
 . have:¬a=c:=by omega
   simp [h1,this]
 . by_cases h2:c<a
   . simp [h1,show ¬a=c by omega]
   . have:a=c:=by omega
     subst this
     by_cases h3:b<d
     . simp [h3,show ¬b=d by omega]
     . by_cases h4:b=d
       . simp [h4]
       . simp [h3,h4]
def le2 (a b:P2):Prop:=a.1<b.1\/(a.1=b.1/\a.2<=b.2)
theorem zq9 (xs:List P2):Srt (xs.map T2)↔xs.Pairwise le2:=by
 unfold Srt
 rw [List.pairwise_map]
 constructor
 . exact fun h=>h.imp fun {a b} h=>(by rw [zmy,decide_eq_false_iff_not] at h;unfold le2;omega)
 . exact fun h=>h.imp fun {a b} h=>(by rw [zmy,decide_eq_false_iff_not];unfold le2 at h;omega)
theorem zwg (ls:List P2):(so2 ls).Pairwise le2:=by
 rw [<-zq9,<-z7n];exact z2n (z8s ls T2 zkj)
theorem zqa {n:Int} {p:P2} (h0:0<=p.1) (h1:p.1+1<p.2) (h2:p.2<n) (h3:¬(p.1=0/\p.2=n - 1)):z1i [T2 p,.int n]=.ok (.bl true):=by
 obtain ⟨a,b⟩:=p
 dsimp only at *
 have e1:=zd5 a
 have e2:=zd5 b
 unfold z1i z4k T2
 dsimp only
 walk_at "dz"
 rw [e1]
 walk_at "dz"
 rw [e2]
 walk_at "dz"
 rw [decide_eq_true h0]
 walk_at "dz"
 rw [decide_eq_true h1]
 walk_at "dz"
 rw [decide_eq_true h2]
 walk_at "dz"
 by_cases q:a=0
 . rw [decide_eq_true q,decide_eq_false (fun z=>h3 ⟨q,z⟩)];rfl
 . rw [decide_eq_false q];rfl
theorem zmz {α:Type} {R:α->α->Prop}:∀{xs:List α},xs.Pairwise R->∀p∈xs.zip (xs.drop 1),R p.1 p.2
 | [],_,p,hp=>by simp at hp
 | [_],_,p,hp=>by simp at hp
 | x::y::r,h,p,hp=>by
  rw [List.pairwise_cons] at h
  have hp:p∈(x,y)::(y::r).zip ((y::r).drop 1):=hp
  rcases List.mem_cons.mp hp with rfl | hp
  . exact h.1 y (by simp)
  . exact zmz h.2 p hp
theorem zzs {p q:P2} (h:le2 p q) (e:p≠q):zpn (T2 p) (T2 q)=some (.bl false):=by
 obtain ⟨a,b⟩:=p;obtain ⟨c,d⟩:=q
 have h':a<c\/(a=c/\b<d):=by
  rcases h with h | h
  . exact .inl h
  . refine .inr ⟨h.1,?_⟩
    rcases Int.lt_or_le b d with k | k
    . exact k
    . exact (e (by rw [show a=c from h.1,show b=d from Int.le_antisymm h.2 k])).elim
 have:zpn (.tup ([a,b].map D.int)) (.tup ([c,d].map D.int))=some (.bl (z5o [a,b] [c,d])):=by simp only [zpn,z1m]
 show zpn (.tup ([a,b].map D.int)) (.tup ([c,d].map D.int))=_
 rw [this,z8u]
 by_cases q:a=c
 . rw [if_pos q,z8u,if_neg (by omega),decide_eq_false (by omega)]
 . rw [if_neg q,decide_eq_false (by omega)]
theorem y1y (xs:List D):zvw (.tup xs) (some 1) none=some (.tup (xs.drop 1)):=by
 simp only [zvw]
 split
 . rename_i h
   cases xs with
   | nil=>rfl
   | cons x r=>exfalso;have:=h.1;simp [HT.sIx] at this
 . simp only [z86,HT.sIx]
   congr 2
   rw [List.take_of_length_le (by simp only [List.length_drop];omega)]
   by_cases h:xs.length=0
   . rw [List.eq_nil_of_length_eq_zero h];simp
   . congr 1;simp;omega
theorem zix {n:Nat} {ls:List P2} {T:List P3} (I:CInv (n:Int) ls T) (hl:ls.length+3=n) (hn:n<=60):z0t [.tup [.int (n:Int),.tup ((so2 ls).map T2)],.int (n:Int)]=.ok (.bl true):=by
 have h3:=I.n3
 have l2:(so2 ls).length=ls.length:=(z1y ls).length_eq
 have ea:z1s b1 z52 z13 [some (.int (n:Int))] ((so2 ls).map T2)=.ok ((so2 ls).map fun _=>D.bl true):=by
  rw [z21 (en:=T2) (bs:=fun p:P2=>[T2 p]) (g:=fun _=>D.bl true) (so2 ls) (fun _ _=>rfl) (fun p hp=>by
   have b:=I.lin p.1 p.2 ((z1y ls).mem_iff.mp hp)
   have el:=zqa (n:=(n:Int)) (p:=p) (by omega) (by omega) (by omega) b.2.2.2
   show z13 [some (T2 p),some (.int (n:Int))]=_
   unfold z13
   generalize T2 p=x at *
   walk_at "dz"
   rw [el])]
 have nd:(so2 ls).Nodup:=((z1y ls).nodup_iff).mpr I.nd
 have pw:(so2 ls).Pairwise fun p q=>le2 p q/\p≠q:=(zwg ls).and nd
 have ez:((so2 ls).map T2).zip (((so2 ls).map T2).drop 1)=((so2 ls).zip ((so2 ls).drop 1)).map fun q=>(T2 q.1,T2 q.2):=by
  rw [<-List.map_drop,List.zip_map];rfl
 have hz:((so2 ls).zip ((so2 ls).drop 1)).length<=60:=by rw [List.length_zip];omega
 have ey:z1s (bT 2) z52 z14 [] ((((so2 ls).map T2).zip (((so2 ls).map T2).drop 1)).map fun p=>D.tup [p.1,p.2])=.ok (((so2 ls).zip ((so2 ls).drop 1)).map fun _=>D.bl false):=by
  rw [ez,List.map_map,show ((fun p:D×D=>D.tup [p.1,p.2])∘fun q:P2×P2=>(T2 q.1,T2 q.2))=fun q:P2×P2=>D.tup [T2 q.1,T2 q.2] from rfl,z21 (en:=fun q:P2×P2=>D.tup [T2 q.1,T2 q.2]) (bs:=fun q:P2×P2=>[T2 q.1,T2 q.2]) (g:=fun _=>D.bl false) ((so2 ls).zip ((so2 ls).drop 1)) (fun _ _=>rfl) (fun q hq=>by
   have g:=zmz pw q hq
   have e:=zzs g.1 g.2
   show z14 [some (T2 q.1),some (T2 q.2)]=_
   unfold z14
   generalize T2 q.1=x at *
   generalize T2 q.2=y at *
   walk_at "dz"
   rw [e]
   walk_at "dz")]
 have s1:=y1y ((so2 ls).map T2)
 have lZ:((((so2 ls).map T2).zip (((so2 ls).map T2).drop 1)).map fun p=>D.tup [p.1,p.2]).length<=100000:=by rw [List.length_map,ez,List.length_map];omega
 have e3:=all_map (so2 ls) fun _=>true
 have e4:=any_map ((so2 ls).zip ((so2 ls).drop 1)) fun _=>false
 rw [show ((so2 ls).all fun _=>true)=true by simp] at e3
 rw [show (((so2 ls).zip ((so2 ls).drop 1)).any fun _=>false)=false by simp] at e4
 have lX:((so2 ls).map T2).length=n - 3:=by rw [List.length_map];omega
 generalize ((so2 ls).map fun _=>D.bl true)=Y at *
 generalize (((so2 ls).zip ((so2 ls).drop 1)).map fun _=>D.bl false)=W at *
 generalize (so2 ls).map T2=X at *
 unfold z0t z3l
 walk_at "dz"
 rw [decide_eq_true (show ((2:Nat):Int)=2 from rfl)]
 walk_at "dz"
 rw [lX,decide_eq_true (show ((n - 3:Nat):Int)=(n:Int) - 3 by omega)]
 walk_at "dz"
 rw [if_pos (by omega),ea]
 walk_at "dz"
 rw [e3]
 walk_at "dz"
 simp only [zky]
 walk_at "dz"
 rw [s1]
 walk_at "dz"
 rw [if_pos lZ,ey]
 walk_at "dz"
 rw [e4]
 walk_at "dz"
theorem zqb (A0:Sl) (n:Nat) (ls:List P2) (cell:Int) (h3:3<=n) (hl:ls.length<900) :
  ∃c:Nat,c<n/\z1h [A0,.im (.int (n:Int)),.ow (.lst (ls.map T2)),.im (.int cell)] =
   .nx [A0,.im (.int ((n:Int)+1)),.ow (.lst ((ls.map (sh2 (c:Int))++[z2q (n:Int) (c:Int)]).map T2)),.im (.int cell)]:=by
 have m0:0<=cell % (n:Int):=Int.emod_nonneg _ (by omega)
 have m1:cell % (n:Int)<n:=Int.emod_lt_of_pos _ (by omega)
 unfold z1h
 walk_at "dz"
 rw [zcn (by omega)]
 walk_at "dz"
 rw [zzn _ _ _ (by omega)]
 generalize hxs:(ls.map (sh2 (cell % (n:Int)))++[z2q (n:Int) (cell % (n:Int))])=xs
 walk_at "dz"
 refine ⟨(cell % (n:Int)).toNat,by omega,?_⟩
 rw [Int.toNat_of_nonneg m0,hxs]
theorem zqc (A0:D) (cs:List Int) (hl:cs.length<=57):∃(n:Nat) (ls:List P2) (T:List P3) (t:Tr) (s3:Sl),(CInv (n:Int) ls T/\Tc (n:Int) T t/\ls.length+3=n)/\n=cs.length+3 /\
  zdo (.n 3) z1h (cs.map D.int) [.im A0,.im (.int 3),.ow (.lst []),.em]=.nx [.im A0,.im (.int (n:Int)),.ow (.lst (ls.map T2)),s3]:=by
 obtain ⟨ρ',e,n,ls,T,t,s3,F,hn,hr⟩:=zkg (tg:=.n 3) (g:=z1h) (en:=D.int)
  (fun r ρ=>∃(n:Nat) (ls:List P2) (T:List P3) (t:Tr) (s3:Sl),(CInv (n:Int) ls T/\Tc (n:Int) T t/\ls.length+3=n)/\n+r.length=cs.length+3/\ρ=[.im A0,.im (.int (n:Int)),.ow (.lst (ls.map T2)),s3])
  cs [.im A0,.im (.int 3),.ow (.lst []),.em] ⟨3,[],[(0,1,2)],.nd .lf .lf,.em,⟨y0t,tc3,rfl⟩,by omega,rfl⟩ (by
   rintro x r ρ ⟨n,ls,T,t,s3,⟨I,h,hll⟩,hn,rfl⟩
   have h3:=I.n3
   simp only [List.length_cons] at hn
   obtain ⟨c,hc,e⟩:=zqb (.im A0) n ls x (by omega) (by omega)
   obtain ⟨u,hu⟩:=h.grow (c:Int) (by omega) (by omega)
   exact ⟨_,_,rfl,Or.inl e,⟨n+1,_,_,u,.im (.int x),⟨I.grow (c:Int) (by omega) (by omega),hu,by rw [List.length_append,List.length_map,List.length_singleton];omega⟩,by omega,rfl⟩⟩)
 exact ⟨n,ls,T,t,s3,F,by simpa using hn,by rw [e,hr]⟩
theorem zqd (ms:List Int) (hm:ms.length<=63):∃(n:Nat) (ls:List P2) (T:List P3) (t:Tr),CInv (n:Int) ls T/\Tc (n:Int) T t/\ls.length+3=n/\n<=60/\z1o [L ms]=.ok (.tup [.int (n:Int),.tup ((so2 ls).map T2)]):=by
 have hc:(z86 ms none (some 57)).length<=57:=by
  simp only [z86,HT.sIx]
  rw [List.length_take]
  simp
  omega
 obtain ⟨n,ls,T,t,s3,⟨I,h,hl⟩,hn,e⟩:=zqc (L ms) (z86 ms none (some 57)) hc
 refine ⟨n,ls,T,t,I,h,hl,by omega,?_⟩
 have so:=zb9 ls (by omega)
 have kl:z3q ((so2 ls).map T2)=true:=z1u _ _ fun y _=>z7o y
 have lc:(z86 ms none (some 57)).length<=100000:=by omega
 unfold z1o z68
 walk_at "dz"
 rw [e]
 generalize ls.map T2=X at *
 generalize (so2 ls).map T2=Y at *
 walk_at "dz"
 rw [so]
 walk_at "dz"
def zzt (n:Nat) (bad:D):Prop:=(∃x:Int,bad=.int x/\¬(0<=x/\x<(cf (n - 1):Int)))\/bad=.bl true\/bad=.non\/bad=.str "0"\/bad=.tup [.int 0]
theorem zzu {n:Nat} (h3:3<=n) (hn:n<=60) {bad:D} (h:zzt n bad):z0u [.int (n:Int),bad]=.er ⟨"NoPlace",[]⟩:=by
 have e1:=zeg (n:Int) (by omega)
 have es:=zzo n (by omega)
 have ei:dIx (L (C.take n)) (.int ((n:Int) - 1))=some (.int (cf (n - 1):Int)):=ixC (by omega) hn (by omega)
 have nw:∀d:D,d=.bl true\/d=.non\/d=.str "0"\/d=.tup [.int 0]->z1n [d]=.ok (.bl false):=by
  rintro d (rfl | rfl | rfl | rfl)<;>unfold z1n z5q<;>walk_at "dz"
  . rw [show z4w "int" (.bl true)=some (.bl true) by simp [z4w,z3t,z4r,zc4]]
    walk_at "dz"
  . rw [show z4w "int" .non=some (.bl false) by simp [z4w,z3t,z4r,zc4]]
    walk_at "dz"
  . rw [show z4w "int" (.str "0")=some (.bl false) by simp [z4w,z3t,z4r,zc4]]
    walk_at "dz"
  . rw [show z4w "int" (.tup [.int 0])=some (.bl false) by simp [z4w,z3t,z4r,zc4]]
    walk_at "dz"
 have kA:z3q ((C.take n).map D.int)=true:=z1u D.int _ fun x _=>z7j x
 unfold L at *
 generalize (C.take n).map D.int=A at *
 unfold z0u
 rw [z9z,if_pos (show [D.int (n:Int),bad].length=2 from rfl)]
 show SR.out false (z39 [.im (.int (n:Int)),.im bad,.em])=_
 unfold z39
 rw [z0g (ρ':=[.im (.int (n:Int)),.im bad,.em]) (by
  walk_at "dz"
  rw [e1]
  walk_at "dz")]
 rw [z0g (ρ':=[.im (.int (n:Int)),.im bad,.ow (.lst A)]) (by
  walk_at "dz"
  rw [es]
  walk_at "dz"
  rw [kA]
  walk_at "dz")]
 rcases h with ⟨x,rfl,h⟩ | h
 . walk_at "dz"
   rw [zd6]
   walk_at "dz"
   rw [ei]
   walk_at "dz"
   by_cases q:0<=x
   . rw [decide_eq_true q,decide_eq_false (fun z=>h ⟨q,z⟩)]
     walk_at "dz"
     simp only [z64]
     walk_at "dz"
   . rw [decide_eq_false q]
     walk_at "dz"
     simp only [z64]
     walk_at "dz"
 . walk_at "dz"
   rw [nw bad h]
   walk_at "dz"
   simp only [z64]
   walk_at "dz"
theorem y1z {n:Nat} (h3:3<=n) (x:Int):∃bad:D,zzt n bad/\∀r:DS->SR,z0z (z2i false 3 [false,false,true] (eOp zgw (eOp zsk (z02 2) (eC (.int 7))) (eOp zsl (eC (.int 10)) (eC (.int 30)))))
  (z0z (z2i false 4 [false,true,true,true] (eOp dIx (z76 (z01 (z02 1) (z01 (eOp z2y (z02 1) (z02 3)) (z01 (eOp z5j (eUn zlm (eC (.int 1))) (z02 3)) (z01 (eC (.bl true)) (z01 (eC .non) (z01 (eC (.str "0")) (z01 (z88 (z01 (eC (.int 0)) z0h)) z0h)))))))) (eOp zgw (z02 2) (eC (.int 7))))) r) [.im (.int (n:Int)),.im (.int (cf (n - 1):Int)),.im (.int x),.em,.em,.em,.em] =
  r [.im (.int (n:Int)),.im (.int (cf (n - 1):Int)),.im (.int x),.im (.int (x / 7 % 10 ^ 30)),.im bad,.em,.em]:=by
 have hp:(0:Int)<10 ^ 30:=Int.pow_pos (by decide)
 have e30:zsl (.int 10) (.int 30)=some (.int (10 ^ 30)):=by
  unfold zsl;rw [z7k,if_pos (show zn5 10 30 from ⟨by decide,by decide,by decide⟩)];rfl
 generalize (10:Int) ^ 30=big at *
 have f0:0<=x / 7 % big:=Int.emod_nonneg _ (by omega)
 have d7:=zz6 (i:=x) (j:=7) (by omega)
 have m7:=zcn (i:=x) (j:=7) (by omega)
 have mb:=zcn (i:=x / 7) (j:=big) hp
 have j0:0<=x % 7:=Int.emod_nonneg _ (by decide)
 have j1:x % 7<7:=Int.emod_lt_of_pos _ (by decide)
 generalize x / 7 % big=far at *
 generalize x % 7=j at *
 generalize x / 7=y at *
 have c0:(0:Int)<=(cf (n - 1):Int):=by omega
 have:∃bad:D,zzt n bad/\keeps false bad=true/\dIx (.lst [.int (cf (n - 1):Int),.int ((cf (n - 1):Int)+far),.int (-1 - far),.bl true,.non,.str "0",.tup [.int 0]]) (.int j)=some bad:=by
  have:j=0\/j=1\/j=2\/j=3\/j=4\/j=5\/j=6:=by omega
  rcases this with rfl | rfl | rfl | rfl | rfl | rfl | rfl
  . exact ⟨_,.inl ⟨_,rfl,by omega⟩,rfl,rfl⟩
  . exact ⟨_,.inl ⟨_,rfl,by omega⟩,rfl,rfl⟩
  . exact ⟨_,.inl ⟨_,rfl,by omega⟩,rfl,rfl⟩
  . exact ⟨_,.inr (.inl rfl),rfl,rfl⟩
  . exact ⟨_,.inr (.inr (.inl rfl)),rfl,rfl⟩
  . exact ⟨_,.inr (.inr (.inr (.inl rfl))),rfl,rfl⟩
  . exact ⟨_,.inr (.inr (.inr (.inr rfl))),rfl,rfl⟩
 obtain ⟨bad,hb,kb,eb⟩:=this
 refine ⟨bad,hb,fun r=>?_⟩
 generalize (cf (n - 1):Int)=m at *
 rw [z0g (ρ':=[.im (.int (n:Int)),.im (.int m),.im (.int x),.im (.int far),.em,.em,.em]) (by
  walk_at "dz"
  rw [d7]
  walk_at "dz"
  rw [e30]
  walk_at "dz"
  rw [mb]
  walk_at "dz")]
 rw [z0g (ρ':=[.im (.int (n:Int)),.im (.int m),.im (.int x),.im (.int far),.im bad,.em,.em]) (by
  walk_at "dz"
  rw [m7]
  walk_at "dz"
  rw [eb]
  walk_at "dz"
  rw [kb]
  walk_at "dz")]
theorem ziy {n:Nat} (h3:3<=n) (hn:n<=60) (x:Int):z1j [.int (n:Int),.int (cf (n - 1):Int),.int x]=.ok (.bl true):=by
 obtain ⟨bad,hb,hr⟩:=y1z h3 x
 have er:=zzu h3 hn hb
 unfold z1j
 rw [z9z,if_pos (show [D.int (n:Int),D.int (cf (n - 1):Int),D.int x].length=3 from rfl)]
 show SR.out false (z31 [.im (.int (n:Int)),.im (.int (cf (n - 1):Int)),.im (.int x),.em,.em,.em,.em])=_
 unfold z31
 rw [hr]
 generalize D.int (x / 7 % 10 ^ 30)=f
 generalize D.int (cf (n - 1):Int)=m
 rw [z0g (ρ':=[.im (.int (n:Int)),.im m,.im (.int x),.im f,.im bad,.ow (.lst []),.em]) (by walk_at "dz")]
 have body:z9g (zqn knX z0u (z01 (z02 0) (z01 (z02 4) z0h))) [.im (.int (n:Int)),.im m,.im (.int x),.im f,.im bad,.ow (.lst []),.em]=.er ⟨"NoPlace",[]⟩:=by
  walk_at "dz"
  simp only [zqn]
  walk_at "dz"
  rw [er]
  rfl
 rw [z0g (ρ':=[.im (.int (n:Int)),.im m,.im (.int x),.im f,.im bad,.ow (.lst [.bl true,.bl true,.bl false,.bl false,.bl false]),.em]) (by
  unfold zwt
  rw [body]
  rfl)]
 walk_at "dz"
 rw [zkn (by simp [D.pl,pls]) (by simp [D.dep,z4e])]
 walk_at "dz"
theorem zn0:∀a b:List Nat,∃c,z2b ((a.map fun (k:Nat)=>(k:Int)).map D.int) ((b.map fun (k:Nat)=>(k:Int)).map D.int)=some c/\(c=true↔lx a b)
 | [],[]=>⟨false,rfl,by simp [lx]⟩
 | [],_::_=>⟨true,rfl,by simp [lx]⟩
 | _::_,[]=>⟨false,rfl,by simp [lx]⟩
 | x::a,y::b=>by
  obtain ⟨c,h1,h2⟩:=zn0 a b
  simp only [List.map_cons,z2b,lx]
  by_cases q:x=y
  . subst q
    exact ⟨c,by rw [if_pos (by simp [eqD])];exact h1,by rw [h2];simp⟩
  . refine ⟨decide ((x:Int)<(y:Int)),by rw [if_neg (by simp [eqD];omega)];simp only [z2l],?_⟩
    rw [decide_eq_true_eq]
    omega
theorem zzv (a b:List Nat):∃c,zvu (L (a.map fun (k:Nat)=>(k:Int))) (L (b.map fun (k:Nat)=>(k:Int)))=some (.bl c)/\(c=true↔lx a b):=by
 obtain ⟨c,h1,h2⟩:=zn0 a b
 exact ⟨c,by simp only [zvu,L,z1m];rw [h1];rfl,h2⟩
theorem ziz:∀a b:List P2,z4s (a.map T2) (b.map T2)=decide (a=b)
 | [],[]=>by simp [z4s]
 | [],_::_=>by simp [z4s]
 | _::_,[]=>by simp [z4s]
 | x::a,y::b=>by simp only [List.map_cons,z4s,zv7,ziz a b,List.cons.injEq,Bool.decide_and]
def z6t (n:Nat) (ls:List P2):D:=.tup [.int (n:Int),.tup ((so2 ls).map T2)]
theorem zbq (n:Nat) (ls:List P2):(z6t n ls).pl=true/\(z6t n ls).dep<=20:=by
 have:=za3 (so2 ls) T2 1 zmc
 have:=pls_of (so2 ls) T2 zz8
 unfold z6t
 simp only [D.pl,pls,D.dep,z4e]
 constructor
 . simp [this]
 . omega
theorem zwh (n:Nat) (ls ls':List P2):dEq (z6t n ls) (z6t n ls')=some (.bl (decide (so2 ls=so2 ls'))):=by
 unfold dEq
 rw [if_pos ⟨(zbq n ls).1,(zbq n ls').1,(zbq n ls).2⟩]
 unfold z6t
 simp [eqD,z4s,ziz]
theorem zl6:∀ns:List Int,ns.length<=63->zfc [.scr ns]=.ok (.bl true):=by
 intro ns hl
 obtain ⟨n,ls,T,t,I,h,hll,hn,eg⟩:=zqd (z86 ns (some 2) none) (Nat.le_trans (zik ns _ _) hl)
 have h3:=I.n3
 have ep0:=zmr ns hl 0
 have ep1:=zmr ns hl 1
 have hsp:t.sp+1=n:=by have:=h.1;omega
 have ew:z1x [.int ((n:Int) - 1)]=.ok (L (C.take n)):=by
  have:=zw6 (n - 1) (by omega) (by omega)
  rw [show ((n - 1:Nat):Int)=(n:Int) - 1 by omega,show n - 1+1=n by omega] at this
  exact this
 have ei:dIx (L (C.take n)) (.int ((n:Int) - 1))=some (.int (cf (n - 1):Int)):=ixC (by omega) hn (by omega)
 have er:=ziy (n:=n) (by omega) hn (pkv ns 0)
 have p1:z3z [z6t n ls]=.ok (.int ((t.pl cf:Nat):Int)):=ziu I h hll hn
 have hlt:=cat59.lt t (by omega)
 rw [show t.sp=n - 1 by omega] at hlt
 have a1:z0u [.int (n:Int),.int ((t.pl cf:Nat):Int)]=.ok (z6t n ls):=by
  rw [y0w (by omega) hn hsp,z6p (Tc.ls I h).symm];rfl
 have k0:0<=pkv ns 0 % (cf (n - 1):Int):=Int.emod_nonneg _ (by omega)
 have k1:pkv ns 0 % (cf (n - 1):Int)<(cf (n - 1):Int):=Int.emod_lt_of_pos _ (by omega)
 have mk:=zcn (i:=pkv ns 0) (j:=(cf (n - 1):Int)) (by omega)
 obtain ⟨u,us,up⟩:=cat59.has (n - 1) (pkv ns 0 % (cf (n - 1):Int)).toNat (by omega) (by omega) (by omega)
 obtain ⟨ls',T',I',h',hl'⟩:=Tc.all (n - 3) u (by omega)
 rw [show ((u.sp:Nat):Int)+1=(n:Int) by omega] at I' h'
 rw [show pkv ns 0 % (cf (n - 1):Int)=((u.pl cf:Nat):Int) by omega] at mk
 have p2:z3z [z6t n ls']=.ok (.int ((u.pl cf:Nat):Int)):=ziu I' h' (by omega) hn
 have a2:z0u [.int (n:Int),.int ((u.pl cf:Nat):Int)]=.ok (z6t n ls'):=by
  rw [y0w (by omega) hn (by omega),z6p (Tc.ls I' h').symm];rfl
 have s2:z0t [z6t n ls',.int (n:Int)]=.ok (.bl true):=zix I' (by omega) hn
 have t1:z0a [z6t n ls]=.ok (L ((t.th 0).map fun (k:Nat)=>(k:Int))):=ziw I h hll hn
 have t2:z0a [z6t n ls']=.ok (L ((u.th 0).map fun (k:Nat)=>(k:Int))):=ziw I' h' (by omega) hn
 have ne1:=zkm (zbq n ls).1 (zbq n ls).2
 have eq1:=zwh n ls ls'
 have cm:=cat59.cmp t u 0 (by omega) (by omega)
 obtain ⟨c,hc,hx⟩:=zzv (t.th 0) (u.th 0)
 have hsame:(so2 ls=so2 ls')↔t.pl cf=u.pl cf:=by
  constructor
  . intro e
    have:z6t n ls=z6t n ls':=by unfold z6t;rw [e]
    rw [this,p2] at p1
    exact (Int.ofNat.inj (D.int.inj (R.ok.inj p1))).symm
  . intro e
    have e:=cm.2.2.mp e
    subst e
    rw [z6p (Tc.ls I h),z6p (Tc.ls I' h')]
 have f1:(decide (((t.pl cf:Nat):Int)<((u.pl cf:Nat):Int))==c)=true:=by
  rw [beq_iff_eq,Bool.eq_iff_iff,decide_eq_true_eq,hx,<-cm.1];omega
 have f2:(decide (((t.pl cf:Nat):Int)=((u.pl cf:Nat):Int))==decide (so2 ls=so2 ls'))=true:=by
  rw [beq_iff_eq,Bool.eq_iff_iff,decide_eq_true_eq,decide_eq_true_eq,hsame];omega
 have lu:=u.th_len 0
 have llu:((u.th 0).map fun (k:Nat)=>(k:Int)).length=n - 2:=by rw [List.length_map];omega
 have pl1:=zd5 ((t.pl cf:Nat):Int)
 change z1o [L (z86 ns (some 2) none)]=.ok (z6t n ls) at eg
 have ix0:dIx (z6t n ls) (.int 0)=some (.int (n:Int)):=rfl
 have kc:keeps false (z6t n ls)=true:=by unfold z6t;rw [za1];walk_at "dz"
 have kc':keeps false (z6t n ls')=true:=by unfold z6t;rw [za1];walk_at "dz"
 generalize z6t n ls=X at *
 generalize z6t n ls'=Y at *
 generalize ((u.th 0).map fun (k:Nat)=>(k:Int))=W at *
 generalize ((t.th 0).map fun (k:Nat)=>(k:Int))=V at *
 unfold zfc
 rw [z9z,if_pos (show [D.scr ns].length=1 from rfl)]
 show SR.out false (zpy [.im (.scr ns),.em,.em,.em,.em,.em,.em,.em,.em])=_
 unfold zpy
 rw [z0g (ρ':=[.im (.scr ns),.im X,.em,.em,.em,.em,.em,.em,.em]) (by
  walk_at "dz"
  rw [eg]
  walk_at "dz"
  rw [kc]
  walk_at "dz")]
 rw [z0g (ρ':=[.im (.scr ns),.im X,.im (.int (n:Int)),.em,.em,.em,.em,.em,.em]) (by
  walk_at "dz"
  rw [ix0]
  walk_at "dz")]
 rw [z0g (ρ':=[.im (.scr ns),.im X,.im (.int (n:Int)),.im (.int (cf (n - 1):Int)),.em,.em,.em,.em,.em]) (by
  walk_at "dz"
  rw [ew]
  walk_at "dz"
  rw [ei]
  walk_at "dz")]
 by_cases q:pkv ns 1 % 7=6
 . walk_at "dz"
   rw [ep1]
   walk_at "dz"
   rw [zcn (by omega)]
   walk_at "dz"
   rw [decide_eq_true q]
   walk_at "dz"
   rw [ep0]
   walk_at "dz"
   rw [er]
   walk_at "dz"
 . rw [z0g (ρ':=[.im (.scr ns),.im X,.im (.int (n:Int)),.im (.int (cf (n - 1):Int)),.em,.em,.em,.em,.em]) (by
    walk_at "dz"
    rw [ep1]
    walk_at "dz"
    rw [zcn (by omega)]
    walk_at "dz"
    rw [decide_eq_false q]
    walk_at "dz")]
   rw [z0g (ρ':=[.im (.scr ns),.im X,.im (.int (n:Int)),.im (.int (cf (n - 1):Int)),.im (.int ((u.pl cf:Nat):Int)),.em,.em,.em,.em]) (by
    walk_at "dz"
    rw [ep0]
    walk_at "dz"
    rw [mk]
    walk_at "dz")]
   rw [z0g (ρ':=[.im (.scr ns),.im X,.im (.int (n:Int)),.im (.int (cf (n - 1):Int)),.im (.int ((u.pl cf:Nat):Int)),.im (.int ((t.pl cf:Nat):Int)),.em,.em,.em]) (by
    walk_at "dz"
    rw [p1]
    walk_at "dz")]
   rw [z0g (ρ':=[.im (.scr ns),.im X,.im (.int (n:Int)),.im (.int (cf (n - 1):Int)),.im (.int ((u.pl cf:Nat):Int)),.im (.int ((t.pl cf:Nat):Int)),.em,.em,.em]) (by
    walk_at "dz"
    rw [pl1]
    walk_at "dz"
    rw [decide_eq_true (by omega)]
    walk_at "dz"
    rw [decide_eq_true (by omega)]
    walk_at "dz"
    rw [a1]
    walk_at "dz"
    rw [ne1]
    walk_at "dz")]
   rw [z0g (ρ':=[.im (.scr ns),.im X,.im (.int (n:Int)),.im (.int (cf (n - 1):Int)),.im (.int ((u.pl cf:Nat):Int)),.im (.int ((t.pl cf:Nat):Int)),.im Y,.em,.em]) (by
    walk_at "dz"
    rw [a2]
    walk_at "dz"
    rw [kc']
    walk_at "dz")]
   rw [z0g (ρ':=[.im (.scr ns),.im X,.im (.int (n:Int)),.im (.int (cf (n - 1):Int)),.im (.int ((u.pl cf:Nat):Int)),.im (.int ((t.pl cf:Nat):Int)),.im Y,.em,.em]) (by
    walk_at "dz"
    rw [s2]
    walk_at "dz"
    rw [p2]
    walk_at "dz")]
   rw [z0g (ρ':=[.im (.scr ns),.im X,.im (.int (n:Int)),.im (.int (cf (n - 1):Int)),.im (.int ((u.pl cf:Nat):Int)),.im (.int ((t.pl cf:Nat):Int)),.im Y,.ow (L V),.em]) (by
    walk_at "dz"
    rw [t1]
    walk_at "dz")]
   rw [z0g (ρ':=[.im (.scr ns),.im X,.im (.int (n:Int)),.im (.int (cf (n - 1):Int)),.im (.int ((u.pl cf:Nat):Int)),.im (.int ((t.pl cf:Nat):Int)),.im Y,.ow (L V),.ow (L W)]) (by
    walk_at "dz"
    rw [t2]
    walk_at "dz")]
   rw [z0g (ρ':=[.im (.scr ns),.im X,.im (.int (n:Int)),.im (.int (cf (n - 1):Int)),.im (.int ((u.pl cf:Nat):Int)),.im (.int ((t.pl cf:Nat):Int)),.im Y,.ow (L V),.ow (L W)]) (by
    walk_at "dz"
    rw [llu,decide_eq_true (show ((n - 2:Nat):Int)=(n:Int) - 2 by omega)]
    walk_at "dz")]
   walk_at "dz"
   rw [hc]
   walk_at "dz"
   rw [f1]
   walk_at "dz"
   rw [eq1]
   walk_at "dz"
   rw [f2]
end K83
namespace K83
open PySem PySem.Spec PyProof.Rows L2
theorem walk {l:PySem.W.OpenLaw} {q:Program} {loose:List Str} {XP:(Str->Option Value)->Heap->Prop} {YP:World->Heap->Prop} {d:DefRec} {K:Params->Frag} (hn:l.most=some 63) (hdf:d.params.defaults=[])
  (hY:∀(w:World) (h:Heap),YP w h->(K w.params).In h)
  (F:∀(w:World) (mg:Str->Option Value) (fa:Addr) (h:Heap),(K w.params).In h->h.Ns mainGlobals mg->mg d.name=some (.ref fa) ->
   ∃fd:FuncData,(∀(s:Shared) (u:Value),BindsTo s fd ⟨[u],[]⟩ [("_law_script",u)])/\∀base:Heap,(K w.params).In base->base.Ns mainGlobals mg->FnOk l.prog w (K w.params) mg base (CX1 l.prog w) 68 fa fd ["_law_script"] (spL (K w.params) false zfc 1)) :
  PySem.W.WalkO q loose XP YP l.row.toRowW d [] (fun f vs=>PySem.call f vs):=
 L2.walk_of (n:=63) (k:=68) (x:="_law_script") (CX:=fun w=>CX1 l.prog w) (sp:=fun w=>(spL (K w.params) false zfc 1)) hn (by decide) hdf ⟨rfl,by decide,by decide⟩ hY F (fun _ _ a ns hl hO hS=>zt9 hO hS (zl6 ns hl)) fun _ _ _ _ _ ⟨_,_,_,_,_,_,z⟩=>z
end K83
open PySem PySem.W PyProof.Rows
set_option maxRecDepth 100000 in
set_option maxHeartbeats 0 in
theorem PySem.Challenge.cw_friezeyard_k83_whole_places_holds : PySem.Challenge.rw_friezeyard_k83_whole_places.Holds := by
 w_on;o_law
 refine holds_open (q:=K83.q) (loose:=[]) (Xt:=K83.xtH) (XP:=XL K83.q []) (Yf:=K83.hook.obs) (Ya:=K83.hook.val)
  (YP:=K83.hook.says) (N:=9452) K83.left K83.hook.of K83.hook.keeps
  (fun s e=>xl_of s (Bool.and_eq_true_iff.mp e).1) XL.keeps (by rfl) (by rfl) (by rfl)
  (fun s e=>recFacts_of (Bool.and_eq_true_iff.mp e).2) (by rfl) (by assumption) (by decide +kernel)
  ⟨rfl,rfl,rfl,rfl,rfl,by decide +kernel⟩ ?hw ?hc
 (case hw=>w_witness2)
 refine K83.walk (l:=PySem.Challenge.rw_friezeyard_k83_whole_places) (K:=K83.K) rfl rfl (fun w h Y=>Y) ?F
 case F=>
  intro w mg fa h KX G hmg
  k_fill
  refine' K83.all_mk KX G hmg ?A0 ?A1 ?A2 ?A3 ?A4 ?A5 ?A6 ?A7 ?A8 ?A9 ?A10 ?A11 ?A12 ?A13 ?A14 ?A15 ?A16 ?A17 ?A18 ?A19 ?A20 ?A21 ?A22 ?A23 ?T ?Z
  (case A0=>apply L2.fat;k_is;k_is;k_is;k_is)
  (case A1=>apply L2.fat;k_is;k_is;k_is;k_is)
  (case A2=>apply L2.fat;k_is;k_is;k_is;k_is)
  (case A3=>apply L2.fat;k_is;k_is;k_is;k_is)
  (case A4=>apply L2.fat;k_is;k_is;k_is;k_is)
  (case A5=>apply L2.fat;k_is;k_is;k_is;k_is)
  (case A6=>apply L2.fat;k_is;k_is;k_is;k_is)
  (case A7=>apply L2.fat;k_is;k_is;k_is;k_is)
  (case A8=>apply L2.fat;k_is;k_is;k_is;k_is)
  (case A9=>apply L2.fat;k_is;k_is;k_is;k_is)
  (case A10=>apply L2.fat;k_is;k_is;k_is;k_is)
  (case A11=>apply L2.fat;k_is;k_is;k_is;k_is)
  (case A12=>apply L2.fat;k_is;k_is;k_is;k_is)
  (case A13=>apply L2.fat;k_is;k_is;k_is;k_is)
  (case A14=>apply L2.fat;k_is;k_is;k_is;k_is)
  (case A15=>apply L2.fat;k_is;k_is;k_is;k_is)
  (case A16=>apply L2.fat;k_is;k_is;k_is;k_is)
  (case A17=>apply L2.fat;k_is;k_is;k_is;k_is)
  (case A18=>apply L2.fat;k_is;k_is;k_is;k_is)
  (case A19=>apply L2.fat;k_is;k_is;k_is;k_is)
  (case A20=>apply L2.fat;k_is;k_is;k_is;k_is)
  (case A21=>apply L2.fat;k_is;k_is;k_is;k_is)
  (case A22=>apply L2.fat;k_is;k_is;k_is;k_is)
  (case A23=>apply L2.fat;k_is;k_is;k_is;k_is)
  (case T=>constructor<;>exact mg_none_of KX G (by k_is))
  (case Z=>constructor;exact mg_of KX G (by k_is);exact mg_of KX G (by k_is);exact mg_of KX G (by k_is);exact mg_of KX G (by k_is);exact mg_of KX G (by k_is);exact mg_of KX G (by k_is);exact mg_of KX G (by k_is);exact mg_of KX G (by k_is);exact mg_of KX G (by k_is);exact mg_of KX G (by k_is);exact mg_of KX G (by k_is);exact mg_of KX G (by k_is);exact mg_of KX G (by k_is);exact mg_of KX G (by k_is);exact mg_of KX G (by k_is);exact mg_of KX G (by k_is);exact mg_of KX G (by k_is);exact mg_of KX G (by k_is);k_is;k_is;k_is;k_exc;k_exc;k_exc;k_is;k_is;k_is;k_is;k_is;k_is;kit_is;kit_is;kit_is;kit_is;kit_is;k_is;k_is;k_is;k_is;k_is;k_is;kit_is;kit_is;kit_is;kit_is;kit_is)
