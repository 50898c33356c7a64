import PyProof.Rows.All
import Wide.All
import OpenK.AllK
import Wide.FinOn
import Lean
import PyProof.EqAt
import PyProof.EqKinds
import PyProof.TupleCall
import KE.KIsAll
import KE.RegKIsAll
import PyProof.ExcArgsOwn
import PyProof.InstStoreFacts
import PyProof.Rows.MinMaxN
import PyProof.Rows.CallKwBuiltin
import KE.KMinKey
import KE.KDictOf
import PyProof.AttrMissSeq
import KE.KSortAsk
import KE.KSortKey
import KE.KSortTup
import PyProof.SetKind
import PyProof.IsRules
import PyProof.SetNew
import PyProof.Rows.SetFrom
import PySem.Challenge.RW_friezeyard_k66_fractions_by_sharings
set_option compiler.extract_closed false
noncomputable section
open PySem.W (Frag codeIn hideAll hideAll_get hideAll_none keepIn kia_one)
set_option Elab.async false
set_option linter.all false
set_option maxRecDepth 100000
namespace L2
open PySem PySem.Spec PyProof.Rows
abbrev Key:=Sum Int Str
noncomputable def S6:Key->Value->Bool
 | .inl k,v=>Value.isInt k v
 | .inr x,v=>Value.isStrOf x v
noncomputable def y34 (w:World):Key->Int
 | .inl k=>hashInt k
 | .inr x=>hashStr w x
theorem J8:∀{k:Key} {v:Value},S6 k v=true->(∃i t,k=Sum.inl i/\v=Value.int i t)\/(∃x t,k=Sum.inr x/\v=Value.str x t)
 | .inl i,v,h=>by obtain ⟨t,e⟩:=Value.isInt_shape (k:=i) (v:=v) h;exact .inl ⟨i,t,rfl,e⟩
 | .inr x,v,h=>by obtain ⟨t,e⟩:=Value.isStrOf_shape (x:=x) (v:=v) h;exact .inr ⟨x,t,rfl,e⟩
theorem zc (i:Int) (t:Tok):S6 (.inl i) (.int i t)=true:=by simp [S6,Value.isInt]
theorem zb (x:Str) (t:Tok):S6 (.inr x) (.str x t)=true:=by simp [S6,Value.isStrOf]
theorem vd (a b:Int):decide ((Sum.inl a:Key)=Sum.inl b)=(a==b):=by
 by_cases e:a=b
 . subst e;simp
 . have h:¬(Sum.inl a:Key)=Sum.inl b:=fun q=>e (Sum.inl.inj q)
   rw [decide_eq_false h];exact (beq_eq_false_iff_ne.mpr e).symm
theorem qZ (a b:Str):decide ((Sum.inr a:Key)=Sum.inr b)=decide (a=b):=by
 by_cases e:a=b
 . subst e;simp
 . have h:¬(Sum.inr a:Key)=Sum.inr b:=fun q=>e (Sum.inr.inj q)
   rw [decide_eq_false h,decide_eq_false e]
theorem qY (a:Int) (b:Str):decide ((Sum.inl a:Key)=Sum.inr b)=false:=decide_eq_false (fun q=>nomatch q)
theorem qX (a:Str) (b:Int):decide ((Sum.inr a:Key)=Sum.inl b)=false:=decide_eq_false (fun q=>nomatch q)
noncomputable def w6 (prog:Program) (w:World):PySem.KeyKind prog w Key where
 is:=S6
 hash:=y34 w
 inj:=fun v a b ha hb=>by
  rcases J8 ha with ⟨i,t,rfl,rfl⟩ | ⟨x,t,rfl,rfl⟩
  . rcases J8 hb with ⟨j,u,rfl,e⟩ | ⟨y,u,rfl,e⟩
    . injection e with e1 _;rw [e1]
    . exact nomatch e
  . rcases J8 hb with ⟨j,u,rfl,e⟩ | ⟨y,u,rfl,e⟩
    . exact nomatch e
    . injection e with e1 _;rw [e1]
 byValue:=fun k v h=>by rcases J8 h with ⟨i,t,rfl,rfl⟩ | ⟨x,t,rfl,rfl⟩<;>rfl
 pyHash:=fun hv h=>by
  rcases J8 hv with ⟨i,t,rfl,rfl⟩ | ⟨x,t,rfl,rfl⟩
  . exact wpAny_pyHash_int h
  . exact wpAny_pyHash_str h
 eqBool:=fun hu hv h=>by
  rcases J8 hu with ⟨i,t,rfl,rfl⟩ | ⟨x,t,rfl,rfl⟩
  . rcases J8 hv with ⟨j,u,rfl,rfl⟩ | ⟨y,u,rfl,rfl⟩
    . rw [vd] at h;exact wpAny_eqBool_int h
    . rw [qY] at h;exact SeqAt.EqAt.int_str i t y u _ _ _ _ h
  . rcases J8 hv with ⟨j,u,rfl,rfl⟩ | ⟨y,u,rfl,rfl⟩
    . rw [qX] at h;exact SeqAt.EqAt.str_int x t j u _ _ _ _ h
    . rw [qZ] at h;exact wpAny_eqBool_str h
 «strs»:=fun k x t v h=>by
  rcases J8 h with ⟨i,u,rfl,e⟩ | ⟨y,u,rfl,e⟩
  . exact nomatch e
  . injection e with e1 _;subst e1;cases v<;>rfl
theorem zR (prog:Program) (w:World) (i:Int) (t:Tok):(w6 prog w).is (.inl i) (.int i t)=true:=zc i t
theorem zQ (prog:Program) (w:World) (x:Str) (t:Tok):(w6 prog w).is (.inr x) (.str x t)=true:=zb x t
inductive V where
 | non | bl (b:Bool) | int (i:Int) | str (x:Str) | byt (b:Array UInt8) | flt (b:UInt64) | ref (a:Addr) | ty (n:String)
 deriving DecidableEq
def RelV:V->Value->Prop
 | .non,u=>u=Value.none
 | .bl b,u=>u=Value.bool b
 | .int i,u=>∃t,u=Value.int i t
 | .str x,u=>∃t,u=Value.str x t
 | .byt b,u=>∃t,u=Value.bytes b t
 | .flt b,u=>∃t,u=Value.float b t
 | .ref a,u=>u=Value.ref a
 | .ty n,u=>u=Value.type n
abbrev Vals:List V->List Value->Prop:=Paired RelV
theorem Vals.length {xs:List V} {us:List Value} (r:Vals xs us):xs.length=us.length:=Paired.length r
theorem Vals.get:∀{xs:List V} {us:List Value} {i:Nat} {x:V},Vals xs us->xs[i]?=some x->∃u,us[i]?=some u/\RelV x u
 | _,_,_,_,.nil,e=>by simp at e
 | _,_,0,_,.cons r _,e=>by simp at e;subst e;exact ⟨_,rfl,r⟩
 | _,_,i+1,x,.cons _ t,e=>by obtain ⟨u,h1,h2⟩:=Vals.get (i:=i) (x:=x) t (by simpa using e);exact ⟨u,by simpa using h1,h2⟩
theorem Vals.set {x:V} {u:Value} (r:RelV x u):∀{xs:List V} {us:List Value} (i:Nat),Vals xs us->Vals (xs.set i x) (us.set i u)
 | _,_,_,.nil=>.nil
 | _,_,0,.cons _ t=>.cons r t
 | _,_,i+1,.cons q t=>.cons q (Vals.set r i t)
theorem Vals.append:∀{xs ys:List V} {us ws:List Value},Vals xs us->Vals ys ws->Vals (xs++ys) (us++ws)
 | _,_,_,_,.nil,s=>s
 | _,_,_,_,.cons r t,s=>.cons r (Vals.append t s)
theorem Vals.take:∀{xs:List V} {us:List Value} (n:Nat),Vals xs us->Vals (xs.take n) (us.take n)
 | _,_,0,_=>.nil
 | _,_,_+1,.nil=>.nil
 | _,_,n+1,.cons r t=>.cons r (Vals.take n t)
theorem Vals.drop:∀{xs:List V} {us:List Value} (n:Nat),Vals xs us->Vals (xs.drop n) (us.drop n)
 | _,_,0,r=>r
 | _,_,_+1,.nil=>.nil
 | _,_,n+1,.cons _ t=>Vals.drop n t
def RelO:Option V->Option Value->Prop
 | some v,some u=>RelV v u
 | none,none=>True
 | _,_=>False
def KV {κ:Type}:List (κ×V)->List (κ×Value)->Prop:=Paired fun (p:κ×V) (q:κ×Value)=>p.1=q.1/\RelV p.2 q.2
noncomputable def kV:Key->V
 | .inl i=>.int i
 | .inr x=>.str x
def IsTp (h:Heap) (a:Addr) (its:Array Value):Prop:=∃o,h.get? a=some o/\o.cls=.type "tuple"/\(∃n,o.data=.seq its n)/\o.dict=none
theorem IsTp.tup {h:Heap} {a:Addr} {its:Array Value} (p:IsTp h a its):IsTup h a its:=by obtain ⟨o,e,c,d,_⟩:=p;exact ⟨o,e,c,d⟩
theorem IsTp.lt {h:Heap} {a:Addr} {its:Array Value} (p:IsTp h a its):a<h.objs.size:=by obtain ⟨o,e,_⟩:=p;exact Heap.lt_size e
theorem IsTp.mk' {h:Heap} {a:Addr} {its:Array Value} {n:Nat} {sl:Array (Option Value)} (e:h.get? a=some { cls:=.type "tuple",data:=.seq its n,slots:=sl }):IsTp h a its:=⟨_,e,rfl,⟨n,rfl⟩,rfl⟩
inductive HO where
 /-- a list -/
 | lst (xs:List V)
 /-- a tuple (never changes) -/
 | tup (xs:List V)
 /-- a dict whose keys are ints and texts;one whose keys are tuples of ints and texts (the empty one is both) -/
 | dK (kvs:List (Key×V)) | dT (kvs:List (List Key×V))
 /-- a set of ints: its members,its size -/
 | set (S:Int->Bool) (n:Nat)
 /-- an instance of the class at C,its dict at dx,its attributes -/
 | ins (C dx:Addr) (fs:List (Str×V))
 /-- the dict of the instance at x -/
 | own (x:Addr)
 /-- the dict of an exception -/
 | xd (fs:List (Str×V))
 /-- a bound method,f of x -/
 | met (f x:Addr)
 /-- a range object lo,lo+1,.. below hi -/
 | rng (lo hi:Int)
 /-- a thing that is known to the object (the script;a dict while a loop walks it): read,never written while it is so -/
 | frz (o:Obj) (u:HO)
 /-- a code object's table -/
 | tbl (ps:Array Value)
 /-- the table of a def that makes lambdas,all of the qualname q -/
 | ctb (q:Str)
 /-- any other thing,by what is true of its one object (a def of one's own: SetO a S n:=HO.ext fun h=>..) -/
 | ext (φ:Heap->Prop)
abbrev Hp:=Addr->Option HO
noncomputable def upd (H:Hp) (a:Addr) (o:HO):Hp:=fun b=>if b=a then some o else H b
theorem m7 {H:Hp} {a:Addr} {o:HO}:upd H a o a=some o:=by unfold upd;rw [if_pos rfl]
theorem h8 {H:Hp} {a b:Addr} {o:HO} (h:b≠a):upd H a o b=H b:=by unfold upd;rw [if_neg h]
theorem jH {H:Hp} {a b:Addr} {o u:HO} (h:H a=some o) (h':H b=some u) (d:o≠u):a≠b:=by intro e;subst e;rw [h] at h';exact d (Option.some.inj h')
theorem t7 {H:Hp} {a b:Addr} {o:HO} (h:H a=some o) (h':H b=none):a≠b:=by intro e;subst e;rw [h] at h';cases h'
section
variable (P:Program) (w:World)
def ObjOk (H:Hp) (h:Heap) (a:Addr):HO->Prop
 | .lst xs=>xs.length<=sizeLine/\∃(its:List Value) (n:Nat),Vals xs its/\h.get? a=some { cls:=.type "list",data:=.seq its.toArray n }
 | .tup xs=>xs.length<=sizeLine/\∃its:List Value,Vals xs its/\IsTp h a its.toArray
 | .dK kvs=>kvs.length<=sizeLine/\(a==sysModules)=false/\∃vs,KV kvs vs/\h.DictOf (w6 P w) a vs
 | .dT kvs=>kvs.length<=sizeLine/\(a==sysModules)=false/\∃xs:List (List Key×Addr×Value),
  Paired (fun (p:List Key×V) (q:List Key×Addr×Value)=>p.1=q.1/\H q.2.1=some (.tup (p.1.map kV))/\RelV p.2 q.2.2) kvs xs /\
  ∃o es ep,h.get? a=some o/\o.ExactDict/\o.data=.dict es ep/\es.toList=xs.map (entryOfKey (tupleKind (w6 P w)))/\(xs.map (·.1)).Nodup
 | .set S n=>h.SetOf (intKind P w) a S n
 | .ins C dx fs=>H dx=some (.own a)/\fs.length<=1000/\dx≠a/\h.get? a=some (PySem.W.instObj C dx) /\
  ∃mA,h.Ns1 dx mA/\(∀f,RelO (fs.lookup f) (mA f))/\PySem.Within mA (fs.map (·.1))
 | .own _=>∃o,h.get? a=some o
 | .xd fs=>∃mA,h.Ns1 a mA/\∀f,RelO (fs.lookup f) (mA f)
 | .rng lo hi=>∃t u v,h.get? a=some { cls:=.type "range",data:=.fields #[.int lo t,.int hi u,.int 1 v] }
 | .frz o u=>h.get? a=some o/\ObjOk H h a u
 | .tbl ps=>h.get? a=some { cls:=.none,data:=.fields ps }
 | .ctb q=>∃ps:Array Value,h.get? a=some { cls:=.none,data:=.fields ps }/\TriplesOk ps.toList/\∀(pos:Pos) (v:Value),codeAmong pos ps.toList=some v->∃c,v=.ref c/\H c=some (.own a)/\h.CodeRec (.ref c) q
 | .met f x=>h.get? a=some (PySem.W.methodObj (.ref f) (.ref x))
 | .ext φ=>φ h/\(∃o,h.get? a=some o)/\∀h1 h2:Heap,φ h1->(∀o,h1.get? a=some o->h2.get? a=some o)->φ h2
def HOk (H:Hp) (h:Heap):Prop:=∀a o,H a=some o->ObjOk P w H h a o
end
section
variable {P:Program} {w:World} {H H':Hp} {h h':Heap} {a:Addr} {o:HO}
theorem ObjOk.lt (x:ObjOk P w H h a o):a<h.objs.size:=by
 cases o with
 | lst xs=>obtain ⟨_,_,_,_,e⟩:=x;exact Heap.lt_size e
 | tup xs=>obtain ⟨_,_,_,p⟩:=x;exact p.lt
 | dK kvs=>obtain ⟨_,_,_,_,o,_,_,e,_⟩:=x;exact Heap.lt_size e
 | dT kvs=>obtain ⟨_,_,_,_,o,_,_,e,_⟩:=x;exact Heap.lt_size e
 | set S n=>obtain ⟨o,_,_,_,e,_⟩:=x;exact Heap.lt_size e
 | ins C dx fs=>obtain ⟨_,_,_,e,_⟩:=x;exact Heap.lt_size e
 | own y=>obtain ⟨_,e⟩:=x;exact Heap.lt_size e
 | xd fs=>obtain ⟨_,⟨_,_,_,e,_⟩,_⟩:=x;exact Heap.lt_size e
 | rng lo hi=>obtain ⟨_,_,_,e⟩:=x;exact Heap.lt_size e
 | frz ob u=>obtain ⟨e,_⟩:=x;exact Heap.lt_size e
 | tbl ps=>exact Heap.lt_size (show h.get? a=some _ from x)
 | ctb q=>obtain ⟨_,e,_⟩:=x;exact Heap.lt_size e
 | met f y=>exact Heap.lt_size (show h.get? a=some _ from x)
 | ext φ=>obtain ⟨_,⟨_,e⟩,_⟩:=x;exact Heap.lt_size e
theorem Paired.mapP {α β:Type} {F G:α->β->Prop}:∀{l₁:List α} {l₂:List β},Paired F l₁ l₂->(∀a b,F a b->G a b)->Paired G l₁ l₂
 | _,_,.nil,_=>.nil
 | _,_,.cons r t,f=>.cons (f _ _ r) (Paired.mapP t f)
theorem ObjOk.stay (x:ObjOk P w H h a o) (k:∀b u,(b=a\/H b=some (.own a))->h.get? b=some u->h'.get? b=some u)
  (ho:∀b,H b=some (.own a)->H' b=some (.own a)) (ht:∀b xs,H b=some (.tup xs)->H' b=some (.tup xs)):ObjOk P w H' h' a o:=by
 induction o with
 | lst xs=>obtain ⟨z,its,n,r,e⟩:=x;exact ⟨z,its,n,r,k _ _ (.inl rfl) e⟩
 | tup xs=>obtain ⟨z,its,r,ob,e,c⟩:=x;exact ⟨z,its,r,ob,k _ _ (.inl rfl) e,c⟩
 | dK kvs=>obtain ⟨z,y,vs,r,ob,es,ep,e,c⟩:=x;exact ⟨z,y,vs,r,ob,es,ep,k _ _ (.inl rfl) e,c⟩
 | dT kvs=>
  obtain ⟨z,y,xs,r,ob,es,ep,e,c⟩:=x
  exact ⟨z,y,xs,Paired.mapP r fun p q z=>⟨z.1,ht _ _ z.2.1,z.2.2⟩,ob,es,ep,k _ _ (.inl rfl) e,c⟩
 | set S n=>obtain ⟨ob,es,ep,t,e,c⟩:=x;exact ⟨ob,es,ep,t,k _ _ (.inl rfl) e,c⟩
 | ins C dx fs=>
  obtain ⟨d,z,ne,e,mA,⟨od,es,ep,e2,c⟩,r⟩:=x
  exact ⟨ho _ d,z,ne,k _ _ (.inl rfl) e,mA,⟨od,es,ep,k _ _ (.inr d) e2,c⟩,r⟩
 | own y=>obtain ⟨ob,e⟩:=x;exact ⟨ob,k _ _ (.inl rfl) e⟩
 | xd fs=>obtain ⟨mA,⟨od,es,ep,e,c⟩,r⟩:=x;exact ⟨mA,⟨od,es,ep,k _ _ (.inl rfl) e,c⟩,r⟩
 | rng lo hi=>obtain ⟨t,u,v,e⟩:=x;exact ⟨t,u,v,k _ _ (.inl rfl) e⟩
 | frz ob u ih=>obtain ⟨e,q⟩:=x;exact ⟨k _ _ (.inl rfl) e,ih q⟩
 | tbl ps=>
  have e:h.get? a=some { cls:=.none,data:=.fields ps }:=x
  show h'.get? a=some { cls:=.none,data:=.fields ps }
  exact k a _ (.inl rfl) e
 | ctb q=>
  obtain ⟨ps,e,t,c⟩:=x
  refine ⟨ps,k _ _ (.inl rfl) e,t,fun pos v hb=>?_⟩
  obtain ⟨b,rfl,z,c2,oc,vs,tq,e1,e2,e3⟩:=c pos v hb
  cases e1
  exact ⟨b,rfl,ho _ z,b,oc,vs,tq,rfl,k _ _ (.inr z) e2,e3⟩
 | met f y=>
  have e:h.get? a=some (PySem.W.methodObj (.ref f) (.ref y)):=x
  show h'.get? a=some (PySem.W.methodObj (.ref f) (.ref y))
  exact k a _ (.inl rfl) e
 | ext φ=>obtain ⟨p,⟨o,e⟩,st⟩:=x;exact ⟨st _ _ p fun o q=>k _ _ (.inl rfl) q,⟨o,k _ _ (.inl rfl) e⟩,st⟩
theorem HOk.lt (x:HOk P w H h) (e:H a=some o):a<h.objs.size:=(x a o e).lt
theorem HOk.fresh (x:HOk P w H h) (e:h.objs.size<=a):H a=none:=by
 cases q:H a with
 | none=>rfl
 | some u=>exact absurd (Nat.lt_of_lt_of_le (x.lt q) e) (Nat.lt_irrefl _)
theorem HOk.kept (x:HOk P w H h) (k:∀b u,h.get? b=some u->h'.get? b=some u):HOk P w H h':=fun a o e=>
 (x a o e).stay (fun b u _ q=>k b u q) (fun _ q=>q) fun _ _ q=>q
theorem HOk.laid (x:HOk P w H h) (k:∀b u,h.get? b=some u->h'.get? b=some u) (hp:h.objs.size<=a) (new:ObjOk P w (upd H a o) h' a o):HOk P w (upd H a o) h':=fun b u e=>by
 have hn:=x.fresh hp;by_cases hb:b=a
 . subst hb;rw [m7] at e;cases e;exact new
 . rw [h8 hb] at e;exact (x b u e).stay (fun c v _ q=>k c v q) (fun c q=>by rw [h8 (t7 q hn)];exact q) fun c xs q=>by rw [h8 (t7 q hn)];exact q
end
def Rd (H:Hp) (a:Addr) (u:HO):Prop:=H a=some u\/∃o,H a=some (.frz o u)
theorem Rd.ok {P:Program} {w:World} {H:Hp} {h:Heap} {a:Addr} {u:HO} (r:Rd H a u) (x:HOk P w H h):ObjOk P w H h a u:=by
 rcases r with r | ⟨o,r⟩
 . exact x a u r
 . obtain ⟨_,q⟩:=x a _ r;exact q
def Mut:Option HO->Prop
 | some (.lst _)=>True
 | some (.dK _)=>True
 | some (.dT _)=>True
 | some (.set _ _)=>True
 | some (.ins _ _ _)=>True
 | some (.ext _)=>True
 | _=>False
section
variable {P:Program} {w:World} {H:Hp} {h h':Heap} {x e:Addr} {o':HO}
theorem HOk.write (ok:HOk P w H h) (mu:Mut (H x)) (he:e=x\/H e=some (.own x)) (k:∀b u,b≠e->h.get? b=some u->h'.get? b=some u) (heo:∃u,h'.get? e=some u)
  (new:ObjOk P w (upd H x o') h' x o'):HOk P w (upd H x o') h':=fun b u q=>by
 have nown:∀c y,H c=some (.own y)->c≠x:=fun c y r z=>by subst z;rw [r] at mu;exact mu
 have ntup:∀c xs,H c=some (.tup xs)->c≠x:=fun c xs r z=>by subst z;rw [r] at mu;exact mu
 by_cases hb:b=x
 . subst hb;rw [m7] at q;cases q;exact new
 . rw [h8 hb] at q;by_cases hbe:b=e
   . have q':H b=some (.own x):=by
      rcases he with z | z
      . exact absurd (hbe.trans z) hb
      . rw [hbe];exact z
     rw [q] at q';cases q'
     obtain ⟨v,hv⟩:=heo
     exact ⟨v,by rw [hbe];exact hv⟩
   . refine (ok b u q).stay (fun c v hc r=>k c v ?_ r) (fun c r=>by rw [h8 (nown c b r)];exact r) fun c xs r=>by rw [h8 (ntup c xs r)];exact r
     rcases hc with rfl | hc
     . exact hbe
     . rintro rfl;rcases he with z | z
       . exact nown c b hc z
       . rw [hc] at z;cases z;exact hb rfl
end
structure Un (fs ex:List Addr) (H H':Hp) (h h':Heap):Prop where
 keep:∀b o,h.get? b=some o->H b=none->b∉fs->b∉ex->h'.get? b=some o
 slot:∀b o,h.get? b=some o->H b=none->b∈fs->b∉ex->∃sl,h'.get? b=some { o with slots:=sl }
 free:∀b o,h.get? b=some o->H b=none->b∉ex->H' b=none
 there:∀b o,h.get? b=some o->b∉ex->∃o',h'.get? b=some o'
 tups:∀b xs,H b=some (.tup xs)->H' b=some (.tup xs)
 frzs:∀b o u,H b=some (.frz o u)->H' b=some (.frz o u)
 tbls:∀b ps,H b=some (.tbl ps)->∃more,H' b=some (.tbl (ps++more))
section
variable {fs ex:List Addr} {H H1:Hp} {h h1 h':Heap} {a x e:Addr} {o:HO}
theorem Un.any (u:Un fs ex H H1 h h1) {b:Addr} {ob:Obj} (q:h.get? b=some ob) (n:H b=none) (hx:b∉ex):∃sl,h1.get? b=some { ob with slots:=sl }:=by
 by_cases hb:b∈fs
 . exact u.slot b ob q n hb hx
 . exact ⟨ob.slots,u.keep b ob q n hb hx⟩
theorem Un.kept (k:∀b u,h.get? b=some u->h'.get? b=some u):Un fs ex H H h h':=
 ⟨fun b ob q _ _ _=>k b ob q,fun b ob q _ _ _=>⟨ob.slots,k b ob q⟩,fun _ _ _ n _=>n,fun b ob q _=>⟨ob,k b ob q⟩,fun _ _ q=>q,fun _ _ _ q=>q,fun _ ps q=>⟨#[],by rw [q];simp⟩⟩
theorem Un.refl:Un fs ex H H h h:=Un.kept fun _ _ q=>q
theorem Un.laid (k:∀b u,h.get? b=some u->h'.get? b=some u) (hp:h.objs.size<=a) (hn:H a=none):Un fs ex H (upd H a o) h h' where
 keep:=fun b u q _ _ _=>k b u q
 slot:=fun b u q _ _ _=>⟨u.slots,k b u q⟩
 free:=fun b u q n _=>by rw [h8 (Nat.ne_of_lt (Nat.lt_of_lt_of_le (Heap.lt_size q) hp))];exact n
 there:=fun b u q _=>⟨u,k b u q⟩
 tups:=fun b xs q=>by rw [h8 (t7 q hn)];exact q
 frzs:=fun b u xs q=>by rw [h8 (t7 q hn)];exact q
 tbls:=fun b ps q=>⟨#[],by rw [h8 (t7 q hn),q];simp⟩
theorem Un.write (mu:Mut (H x)) (he:e=x\/H e=some (.own x)) (k:∀b u,b≠e->h.get? b=some u->h'.get? b=some u) (heo:∃u,h'.get? e=some u):Un fs ex H (upd H x o) h h':=by
 have hx:∀b,H b=none->b≠x:=fun b n z=>by subst z;rw [n] at mu;exact mu
 have hb:∀b,H b=none->b≠e:=fun b n z=>by
  subst z;rcases he with r | r
  . exact hx b n r
  . rw [n] at r;cases r
 have hm:∀b u,H b=some u->¬Mut (some u)->b≠x:=fun b u q nm z=>by subst z;rw [q] at mu;exact nm mu
 refine ⟨fun b u q n _ _=>k b u (hb b n) q,fun b u q n _ _=>⟨u.slots,k b u (hb b n) q⟩,fun b u q n _=>by rw [h8 (hx b n)];exact n,fun b u q _=>?_,
  fun b xs q=>by rw [h8 (hm b _ q fun z=>z)];exact q,fun b u xs q=>by rw [h8 (hm b _ q fun z=>z)];exact q,fun b ps q=>⟨#[],by rw [h8 (hm b _ q fun z=>z),q];simp⟩⟩
 by_cases hbe:b=e
 . subst hbe;exact heo
 . exact ⟨u,k b u hbe q⟩
end
noncomputable def trk (h:Heap) (H:Hp):List Addr:=(List.range h.objs.size).filter fun a=>(H a).isSome
noncomputable def F5 (h:Heap) (H:Hp):Heap:=hideAll h (trk h H)
theorem za (h:Heap) (H:Hp):(F5 h H).objs.size=h.objs.size:=PySem.W.hideAll_size _ _
theorem yh {h:Heap} {H:Hp} {b:Addr} {o:Obj} (e:h.get? b=some o) (n:H b=none):(F5 h H).get? b=some o:=
 hideAll_get _ e fun hm=>by have q:(H b).isSome=true:=(List.mem_filter.mp hm).2;rw [n] at q;simp at q
theorem wM {h:Heap} {H:Hp} {b:Addr} {o:Obj} (e:(F5 h H).get? b=some o):h.get? b=some o/\H b=none:=by
 have e':h.get? b=some o:=PySem.W.of_hideAll (trk h H) e;refine ⟨e',?_⟩;cases q:H b with
 | none=>rfl
 | some x=>
  have hm:b∈trk h H:=List.mem_filter.mpr ⟨List.mem_range.mpr (Heap.lt_size e'),by simp [q]⟩
  have z:(F5 h H).get? b=none:=hideAll_none (trk h H) hm
  rw [z] at e;cases e
noncomputable def Aa (g h:Heap) (L:Addr):List (Addr×Obj):=(List.range h.objs.size).filterMap fun a=>if a=L\/(g.get? a).isSome=true then none else (h.get? a).map fun o=>(a,o)
theorem Xd {g h:Heap} {L a:Addr} {o:Obj} (h1:a≠L) (h2:g.get? a=none) (h3:h.get? a=some o):(a,o)∈Aa g h L:=
 List.mem_filterMap.mpr ⟨a,List.mem_range.mpr (Heap.lt_size h3),by simp [h1,h2,h3]⟩
theorem z87 {g h:Heap} {L:Addr} {p:Addr×Obj} (hp:p∈Aa g h L):p.1≠L/\g.get? p.1=none/\h.get? p.1=some p.2:=by
 obtain ⟨b,_,e⟩:=List.mem_filterMap.mp hp;split at e
 . cases e
 . rename_i hn;cases q:h.get? b with
   | none=>rw [q] at e;simp at e
   | some u=>
    rw [q] at e
    simp only [Option.map_some,Option.some.injEq] at e
    subst e
    refine ⟨fun z=>hn (.inl z),?_,q⟩
    show g.get? b=none
    cases r:g.get? b with
    | none=>rfl
    | some v=>exact (hn (.inr (by simp [r]))).elim
noncomputable def rest (g h:Heap) (L d:Addr):List (Addr×Obj):=(Aa g h L).filter fun p=>decide (p.1≠d)
theorem Jx {g h:Heap} {L:Addr}:News g L h (Aa g h L):=fun p hp=>let ⟨a,b,c⟩:=z87 hp;⟨c,a,b⟩
structure Mod (K:Frag) (mg:Str->Option Value) (base:Heap):Prop where
 kin:K.In base
 glob:base.Ns mainGlobals mg
 blt:∃mb,base.Ns builtinsNs mb/\∀x:Str,x≠"__name__"->mb x=bootBuiltins x
 nolimit:base.NoLimit
structure Cx where
 prog:Program
 w:World
 K:Frag
 mg:Str->Option Value
 base:Heap
 A:Around
 N:List Str
 s₀:Shared
 H₀:Hp
 env:Env
 outer:List Env
 stack:List Env
 ex:List Addr
 fn:Str->Bool
 calm:Bool
 pn:List (Addr×Obj)
 xe:Value->Shared->Prop
noncomputable def frs (l:List Env):List Addr:=l.filterMap (·.frame)
abbrev Cx.fs (X:Cx):List Addr:=frs X.outer
def Vis (sc:Scope) (x:Str):Prop:=sc.names.lookup x=some .local\/sc.names.lookup x=some .cell\/sc.names.lookup x=some .free
def Loc (sc:Scope) (x:Str):Prop:=sc.names.lookup x=some .local\/sc.names.lookup x=some .cell
def y35 (env:Env) (h:Heap) (m:Str->Option Value) (x:Str) (u:Value):Prop:=
 (env.kindOf x=some .local/\m x=some u)\/((env.kindOf x=some .cell\/env.kindOf x=some .free)/\∃c,env.cells.lookup x=some c/\h.IsCell c (some u))
structure Cx.Ok (X:Cx):Prop where
 mod:Mod X.K X.mg X.base
 kind:X.env.scope.kind=.function
 glob:X.env.globals=mainGlobals
 blt:X.env.builtins=builtinsNs
 above:X.s₀.heap.objs.size<=X.env.locals
 inj:∀x y c,X.env.cells.lookup x=some c->X.env.cells.lookup y=some c->x=y
 has:∀x,(X.env.kindOf x=some .cell\/X.env.kindOf x=some .free)->∃c,X.env.cells.lookup x=some c
 cab:∀x c,X.fn x=true->X.env.cells.lookup x=some c->X.s₀.heap.objs.size<=c
 hd:X.calm=true->X.A.handled=none
 frames:X.A.frames=some X.stack
 stk:X.stack=X.outer\/(X.stack=X.env::X.outer/\X.env.frame=some X.env.locals)
 exf:∀b∈X.ex,b≠X.env.locals/\∀x c,X.env.cells.lookup x=some c->c≠b
 bs:∀b o,X.base.get? b=some o->X.s₀.heap.get? b=some o/\X.H₀ b=none
 bsz:X.base.objs.size<=X.s₀.heap.objs.size
 noex:∀b o,X.base.get? b=some o->b∉X.ex
 exfs:∀b∈X.ex,b∉X.fs
 funs:X.s₀.heap.FunFrames X.base X.outer
 frf:∀b∈X.fs,X.H₀ b=none
structure Inv (X:Cx) (pins:List (Addr×Obj)) (U:List (Option V)) (H:Hp) (s:Shared):Prop where
 ok:X.Ok
 os:s.os=X.s₀.os
 bare:AllBare s.gens
 base:Un X.fs X.ex X.H₀ H X.s₀.heap s.heap
 loc:∃m,s.heap.Ns X.env.locals m/\∀(i:Nat) (x:Str) (v:V),X.N[i]?=some x->U[i]?=some (some v)->Vis X.env.scope x->∃u,RelV v u/\y35 X.env s.heap m x u
 cell:∀x c,X.env.cells.lookup x=some c->∃v,s.heap.IsCell c v
 free:H X.env.locals=none
 freeC:∀x c,X.env.cells.lookup x=some c->H c=none
 pin:∀p∈X.pn++pins,s.heap.get? p.1=some p.2/\H p.1=none/\p.1≠X.env.locals/\p.1∉X.fs/\∀v,p.2.data≠.cell v
 hok:HOk X.prog X.w H s.heap
 len:U.length=X.N.length
section
variable {X:Cx} {pins:List (Addr×Obj)} {U:List (Option V)} {H H':Hp} {s:Shared} {h':Heap}
theorem Cx.Ok.nofr (ok:X.Ok) {b:Addr} {o:Obj} (e:X.base.get? b=some o):b∉X.fs:=fun hb=>by have:=(ok.funs.mem hb).1;rw [e] at this;cases this
theorem Inv.bs (I:Inv X pins U H s):∀b o,X.base.get? b=some o->s.heap.get? b=some o/\H b=none:=fun b o e=>
 ⟨I.base.keep b o (I.ok.bs b o e).1 (I.ok.bs b o e).2 (I.ok.nofr e) (I.ok.noex b o e),I.base.free b o (I.ok.bs b o e).1 (I.ok.bs b o e).2 (I.ok.noex b o e)⟩
theorem Inv.bk (I:Inv X pins U H s):∀b o,X.base.get? b=some o->s.heap.get? b=some o:=fun b o e=>(I.bs b o e).1
theorem Inv.mod (I:Inv X pins U H s):Mod X.K X.mg X.base:=I.ok.mod
theorem Inv.kIn (I:Inv X pins U H s):X.K.In s.heap:=I.ok.mod.kin.keeps I.bk
theorem Inv.lt (I:Inv X pins U H s):X.env.locals<s.heap.objs.size:=let ⟨_,hn,_⟩:=I.loc;hn.lt
theorem Inv.sz (I:Inv X pins U H s):X.s₀.heap.objs.size<=s.heap.objs.size:=Nat.le_trans I.ok.above (Nat.le_of_lt I.lt)
theorem Inv.nofs (I:Inv X pins U H s) {a:Addr} (h:s.heap.objs.size<=a):a∉X.fs:=fun hb=>by obtain ⟨_,o,ho,_⟩:=I.ok.funs.mem hb;exact absurd (Nat.lt_of_lt_of_le (Heap.lt_size ho) (Nat.le_trans I.sz h)) (Nat.lt_irrefl _)
theorem Inv.cne (I:Inv X pins U H s):∀x c,X.env.cells.lookup x=some c->c≠X.env.locals:=fun x c e z=>by obtain ⟨v,o,ho,hd⟩:=I.cell x c e;obtain ⟨m,⟨o',es,ep,ho',hd',_⟩,_⟩:=I.loc;rw [z,ho'] at ho;cases ho;rw [hd'] at hd;cases hd
theorem Inv.funs (I:Inv X pins U H s):s.heap.FunFrames X.base X.outer:=by
 have all:∀(l:List Env),(∀b∈frs l,b∈X.fs)->X.s₀.heap.FunFrames X.base l->s.heap.FunFrames X.base l:=by
  intro l;induction l with
  | nil=>intro _ _;trivial
  | cons env r ih=>
   intro hs hl
   obtain ⟨hk,⟨L,o,hf,hn,ho,hd⟩,hr⟩:=hl
   have hL:L∈X.fs:=hs L (by unfold frs;rw [List.filterMap_cons,hf];exact List.mem_cons_self)
   obtain ⟨sl,e⟩:=I.base.slot L o ho (I.ok.frf L hL) hL fun z=>I.ok.exfs L z hL
   exact ⟨hk,⟨L,_,hf,hn,e,hd⟩,ih (fun b hb=>hs b (by unfold frs;rw [List.filterMap_cons,hf];exact List.mem_cons_of_mem _ hb)) hr⟩
 exact all X.outer (fun _ hb=>hb) I.ok.funs
theorem Inv.stack (I:Inv X pins U H s):s.heap.FunFrames X.base X.stack:=by
 rcases I.ok.stk with e | ⟨e,hf⟩
 . rw [e];exact I.funs
 . rw [e];obtain ⟨m,hn,_⟩:=I.loc;refine .cons (by rw [I.ok.kind];decide) hf hn ?_ I.funs;exact Heap.get?_none_of_le (Nat.le_trans I.ok.bsz I.ok.above)
theorem Inv.stkSub (I:Inv X pins U H s):∀b∈frs X.stack,b∈X.env.locals::X.fs:=fun b hb=>by
 rcases I.ok.stk with e | ⟨e,hf⟩
 . rw [e] at hb;exact List.mem_cons_of_mem _ hb
 . rw [e] at hb;unfold frs at hb;rw [List.filterMap_cons,hf] at hb;exact hb
theorem Inv.stkFree (I:Inv X pins U H s):∀b∈frs X.stack,H b=none:=fun b hb=>by
 rcases List.mem_cons.mp (I.stkSub b hb) with e | hb
 . rw [e];exact I.free
 . obtain ⟨_,o,ho,_⟩:=I.ok.funs.mem hb;exact I.base.free b o ho (I.ok.frf b hb) fun z=>I.ok.exfs b z hb
theorem Inv.step {g':Array GenState} {t':Nat} {d':Drawn} {ch:List Addr} (I:Inv X pins U H s)
  (hch:∀b∈ch,(b∈X.ex\/X.s₀.heap.objs.size<=b)/\b≠X.env.locals/\(∀x c,X.env.cells.lookup x=some c->c≠b)/\∀p∈X.pn++pins,p.1≠b)
  (keep:∀b o,b≠X.env.locals->b∉X.fs->b∉ch->s.heap.get? b=some o->H b=none->h'.get? b=some o)
  (slot:∀b o,b≠X.env.locals->b∈X.fs->b∉ch->s.heap.get? b=some o->H b=none->∃sl,h'.get? b=some { o with slots:=sl }) (free:∀b o,b∉ch->s.heap.get? b=some o->H b=none->H' b=none)
  (there:∀b o,b∉ch->s.heap.get? b=some o->∃o',h'.get? b=some o')
  (tups:∀b xs,H b=some (.tup xs)->H' b=some (.tup xs)) (frzs:∀b o u,H b=some (.frz o u)->H' b=some (.frz o u)) (tbls:∀b ps,H b=some (.tbl ps)->∃more,H' b=some (.tbl (ps++more)))
  (ns:∀m,s.heap.Ns X.env.locals m->h'.Ns X.env.locals m) (hok:HOk X.prog X.w H' h') (hg:AllBare g') :
  Inv X pins U H' { s with heap:=h',gens:=g',drawn:=d',toks:=t' }:=by
 have neL:∀b o,X.s₀.heap.get? b=some o->b≠X.env.locals:=fun b o e=>Nat.ne_of_lt (Nat.lt_of_lt_of_le (Heap.lt_size e) I.ok.above)
 have neC:∀b o,X.s₀.heap.get? b=some o->b∉X.ex->b∉ch:=fun b o e hx hb=>by
  rcases (hch b hb).1 with z | z
  . exact hx z
  . exact absurd (Nat.lt_of_lt_of_le (Heap.lt_size e) z) (Nat.lt_irrefl _)
 have cellK:∀x c,X.env.cells.lookup x=some c->∀v,s.heap.IsCell c v->h'.IsCell c v:=fun x c e v ⟨o,ho,hd⟩=>by
  have nch:c∉ch:=fun z=>(hch c z).2.2.1 x c e rfl
  by_cases hc:c∈X.fs
  . obtain ⟨sl,q⟩:=slot c o (I.cne x c e) hc nch ho (I.freeC x c e);exact ⟨_,q,hd⟩
  . exact ⟨o,keep c o (I.cne x c e) hc nch ho (I.freeC x c e),hd⟩
 refine ⟨I.ok,I.os,hg,⟨fun b o e n hb hx=>?_,fun b o e n hb hx=>?_,fun b o e n hx=>?_,fun b o e hx=>?_,fun b xs e=>tups b xs (I.base.tups b xs e),fun b o xs e=>frzs b o xs (I.base.frzs b o xs e),fun b ps e=>?_⟩,?_,fun x c e=>?_,?_,fun x c e=>?_,fun p hp=>?_,hok,I.len⟩
 . exact keep b o (neL b o e) hb (neC b o e hx) (I.base.keep b o e n hb hx) (I.base.free b o e n hx)
 . obtain ⟨sl,e1⟩:=I.base.slot b o e n hb hx;obtain ⟨sl',e2⟩:=slot b _ (neL b o e) hb (neC b o e hx) e1 (I.base.free b o e n hx);exact ⟨sl',e2⟩
 . obtain ⟨o',e1⟩:=I.base.there b o e hx;exact free b o' (neC b o e hx) e1 (I.base.free b o e n hx)
 . obtain ⟨o',e1⟩:=I.base.there b o e hx;exact there b o' (neC b o e hx) e1
 . obtain ⟨m1,e1⟩:=I.base.tbls b ps e;obtain ⟨m2,e2⟩:=tbls b _ e1;exact ⟨m1++m2,by rw [e2,Array.append_assoc]⟩
 . obtain ⟨m,hn,hl⟩:=I.loc;refine ⟨m,ns m hn,fun i x v e1 e2 e3=>?_⟩;obtain ⟨u,r,l⟩:=hl i x v e1 e2 e3;refine ⟨u,r,?_⟩;rcases l with l | ⟨k,c,e,z⟩
   . exact .inl l
   . exact .inr ⟨k,c,e,cellK x c e _ z⟩
 . obtain ⟨v,z⟩:=I.cell x c e;exact ⟨v,cellK x c e v z⟩
 . obtain ⟨m,⟨o,_,_,ho,_⟩,_⟩:=I.loc;exact free _ o (fun z=>(hch _ z).2.1 rfl) ho I.free
 . obtain ⟨v,o,ho,hd⟩:=I.cell x c e;exact free c o (fun z=>(hch c z).2.2.1 x c e rfl) ho (I.freeC x c e)
 . obtain ⟨e,n,ne,nf,d⟩:=I.pin p hp;have nch:p.1∉ch:=fun z=>(hch p.1 z).2.2.2 p hp rfl
   exact ⟨keep p.1 p.2 ne nf nch e n,free p.1 p.2 nch e n,ne,nf,d⟩
theorem Inv.un {t':Nat} (I:Inv X pins U H s) (u:Un X.fs [] H H' s.heap h') (hok:HOk X.prog X.w H' h'):Inv X pins U H' { s with heap:=h',toks:=t' }:=by obtain ⟨m,⟨o,es,ep,ho,r⟩,_⟩:=id I.loc;obtain ⟨sl,hL⟩:=u.any ho I.free (by simp);exact I.step (g':=s.gens) (d':=s.drawn) (ch:=[]) (fun _ z=>nomatch z) (fun b o _ hb _ e n=>u.keep b o e n hb (by simp)) (fun b o _ hb _ e n=>u.slot b o e n hb (by simp)) (fun b o _ e n=>u.free b o e n (by simp)) (fun b o _ e=>u.there b o e (by simp)) u.tups u.frzs u.tbls (fun m' hm=>by obtain ⟨o',es',ep',ho',r'⟩:=hm;rw [ho] at ho';cases ho';exact ⟨_,es',ep',hL,r'⟩) hok I.bare
theorem Inv.call {g':Array GenState} {t':Nat} {d':Drawn} {ch:List Addr} (I:Inv X pins U H s) (u:Un (frs X.stack) ch H H' s.heap h') (hok:HOk X.prog X.w H' h') (hg:AllBare g')
  (hch:∀b∈ch,(b∈X.ex\/X.s₀.heap.objs.size<=b)/\b≠X.env.locals/\(∀x c,X.env.cells.lookup x=some c->c≠b)/\∀p∈X.pn++pins,p.1≠b) :
  Inv X pins U H' { s with heap:=h',gens:=g',drawn:=d',toks:=t' }:=by
 obtain ⟨m,⟨o,es,ep,ho,r⟩,_⟩:=id I.loc
 obtain ⟨sl,hL⟩:=u.any ho I.free fun z=>(hch _ z).2.1 rfl
 exact I.step (ch:=ch) hch (fun b o hL hb hc e n=>u.keep b o e n (fun z=>(List.mem_cons.mp (I.stkSub b z)).elim hL hb) hc) (fun b o _ _ hc e n=>u.any e n hc) (fun b o hc e n=>u.free b o e n hc) (fun b o hc e=>u.there b o e hc) u.tups u.frzs u.tbls (fun m' hm=>by obtain ⟨o',es',ep',ho',r'⟩:=hm;rw [ho] at ho';cases ho';exact ⟨_,es',ep',hL,r'⟩) hok hg
theorem Inv.turned {t':Nat} {it:Addr} (I:Inv X pins U H s) (k:∀b o,b≠it->s.heap.get? b=some o->h'.get? b=some o) (hn:H it=none) (hL:it≠X.env.locals)
  (h1:it∈X.ex\/X.s₀.heap.objs.size<=it) (h2:∀x c,X.env.cells.lookup x=some c->c≠it) (h3:∀p∈X.pn++pins,p.1≠it):Inv X pins U H { s with heap:=h',toks:=t' }:=by
 have nit:∀b u,H b=some u->b≠it:=fun b u e z=>by rw [z,hn] at e;cases e
 refine I.step (g':=s.gens) (d':=s.drawn) (ch:=[it]) (fun b hb=>?_) (fun b o _ _ hc e _=>k b o (fun z=>hc (by simp [z])) e) (fun b o _ _ hc e _=>⟨o.slots,k b o (fun z=>hc (by simp [z])) e⟩) (fun _ _ _ _ n=>n)
  (fun b o hc e=>⟨o,k b o (fun z=>hc (by simp [z])) e⟩) (fun _ _ e=>e) (fun _ _ _ e=>e) (fun b ps e=>⟨#[],by rw [e];simp⟩) (fun m hm=>?_) (fun b u e=>?_) I.bare
 . have e:b=it:=by simpa using hb
   subst e;exact ⟨h1,hL,h2,h3⟩
 . obtain ⟨o,es,ep,ho,r⟩:=hm;exact ⟨o,es,ep,k _ o (Ne.symm hL) ho,r⟩
 . refine (I.hok b u e).stay (fun c v hc q=>k c v ?_ q) (fun _ q=>q) fun _ _ q=>q
   rcases hc with z | z
   . rw [z];exact nit b u e
   . exact nit c _ z
theorem Inv.tok (I:Inv X pins U H s) (t:Nat):Inv X pins U H { s with toks:=t }:=I.un (h':=s.heap) (t':=t) Un.refl I.hok
theorem Inv.kept {t':Nat} (I:Inv X pins U H s) (k:∀b u,s.heap.get? b=some u->h'.get? b=some u):Inv X pins U H { s with heap:=h',toks:=t' }:=I.un (Un.kept k) (I.hok.kept k)
theorem Inv.laid {a:Addr} {o:HO} {t':Nat} (I:Inv X pins U H s) (k:∀b u,s.heap.get? b=some u->h'.get? b=some u) (hp:s.heap.objs.size<=a) (new:ObjOk X.prog X.w (upd H a o) h' a o) :
 Inv X pins U (upd H a o) { s with heap:=h',toks:=t' }:=I.un (Un.laid k hp (I.hok.fresh hp)) (I.hok.laid k hp new)
theorem Inv.write {x e:Addr} {o:HO} {t':Nat} (I:Inv X pins U H s) (mu:Mut (H x)) (he:e=x\/H e=some (.own x)) (k:∀b u,b≠e->s.heap.get? b=some u->h'.get? b=some u) (heo:∃u,h'.get? e=some u)
 (new:ObjOk X.prog X.w (upd H x o) h' x o):Inv X pins U (upd H x o) { s with heap:=h',toks:=t' }:=I.un (Un.write mu he k heo) (I.hok.write mu he k heo new)
theorem Inv.pins_of {pins':List (Addr×Obj)} (I:Inv X pins U H s) (h:∀p∈pins',s.heap.get? p.1=some p.2/\H p.1=none/\p.1≠X.env.locals/\p.1∉X.fs/\∀v,p.2.data≠.cell v):Inv X pins' U H s:=
 ⟨I.ok,I.os,I.bare,I.base,I.loc,I.cell,I.free,I.freeC,fun p hp=>(List.mem_append.mp hp).elim (fun z=>I.pin p (List.mem_append_left _ z)) (h p),I.hok,I.len⟩
theorem Uv {N:List Str} (hN:N.Nodup) {i j:Nat} {x:Str} (a:N[i]?=some x) (b:N[j]?=some x):i=j:=by obtain ⟨h1,e1⟩:=List.getElem?_eq_some_iff.mp a;obtain ⟨h2,e2⟩:=List.getElem?_eq_some_iff.mp b;exact (List.getElem_inj hN).mp (e1.trans e2.symm)
theorem Wb {M:Model} {A:Around} {E:Value->Shared->Prop} {i:Nat} {x:Str} {v:V} {u:Value} {Q:Unit->Shared->Prop} (I:Inv X pins U H s) (hN:X.N.Nodup) (hi:X.N[i]?=some x) (hx:Loc X.env.scope x) (r:RelV v u)
  (h:∀s',Inv X pins (U.set i (some v)) H s'->(∃a,Heap.SameBut a s.heap s'.heap/\(a=X.env.locals\/X.env.cells.lookup x=some a))->Q () s') (hf:X.fn x=true\/X.env.scope.names.lookup x=some .local:=by first | exact .inl rfl | exact .inr rfl | assumption):wpAny M A (storeName X.env x u) Q E s:=by
 obtain ⟨m,hn,hl⟩:=id I.loc
 have hcls:(X.env.scope.kind==.class||(X.env.scope.kind==.module&&X.env.locals != X.env.globals))=false:=by rw [I.ok.kind];rfl
 have hiσ:i<U.length:=by rw [I.len];exact (List.getElem?_eq_some_iff.mp hi).1
 have cne:=I.cne
 have tracked:∀{a:Addr} {h':Heap},(∃o,s.heap.get? a=some o/\H a=none)->Heap.SameBut a s.heap h'->HOk X.prog X.w H h':=fun {a h'} ha hs b ob e=>by
  obtain ⟨_,_,hfree⟩:=ha;refine (I.hok b ob e).stay (fun c w' hc q=>(hs.2 c ?_).trans q) (fun _ q=>q) fun _ _ q=>q
  rintro rfl;rcases hc with rfl | hc
  . rw [hfree] at e;cases e
  . rw [hfree] at hc;cases hc
 rcases hx with hk | hk
 . refine wpAny_storeName_local hk hn (fun h' hn' hs=>?_) hcls;obtain ⟨oL,_,_,hoL,_⟩:=id hn;refine h _ ⟨I.ok,I.os,I.bare,⟨fun b o e n hb hx=>?_,fun b o e n hb hx=>?_,I.base.free,fun b o e hx=>?_,I.base.tups,I.base.frzs,I.base.tbls⟩,⟨_,hn',fun j y v' e1 e2 e3=>?_⟩,fun y c e=>?_,I.free,I.freeC,fun p hp=>?_,tracked ⟨oL,hoL,I.free⟩ hs,by simpa using I.len⟩ ⟨_,hs,.inl rfl⟩
   . exact (hs.2 b (Nat.ne_of_lt (Nat.lt_of_lt_of_le (Heap.lt_size e) I.ok.above))).trans (I.base.keep b o e n hb hx)
   . obtain ⟨sl,e1⟩:=I.base.slot b o e n hb hx;exact ⟨sl,(hs.2 b (Nat.ne_of_lt (Nat.lt_of_lt_of_le (Heap.lt_size e) I.ok.above))).trans e1⟩
   . obtain ⟨o',e1⟩:=I.base.there b o e hx;exact ⟨o',(hs.2 b (Nat.ne_of_lt (Nat.lt_of_lt_of_le (Heap.lt_size e) I.ok.above))).trans e1⟩
   . by_cases hj:j=i
     . subst hj;rw [hi] at e1;cases e1;rw [List.getElem?_set_self hiσ] at e2;cases e2;exact ⟨u,r,.inl ⟨hk,by simp⟩⟩
     . rw [List.getElem?_set_ne (Ne.symm hj)] at e2;obtain ⟨u',r',q⟩:=hl j y v' e1 e2 e3;refine ⟨u',r',?_⟩;rcases q with ⟨k,e⟩ | ⟨k,c,e,z⟩
       . refine .inl ⟨k,?_⟩;have:y≠x:=fun e=>hj (Uv hN e1 (e ▸ hi))
         simp [this,e]
       . exact .inr ⟨k,c,e,z.sameBut hs (cne y c e)⟩
   . obtain ⟨w',z⟩:=I.cell y c e;exact ⟨w',z.sameBut hs (cne y c e)⟩
   . obtain ⟨e,n,ne,nf,d⟩:=I.pin p hp;exact ⟨(hs.2 p.1 ne).trans e,n,ne,nf,d⟩
 . have hfn:X.fn x=true:=by
    rcases hf with z | z
    . exact z
    . rw [z] at hk;cases hk
   obtain ⟨c,hc⟩:=I.ok.has x (.inl hk)
   obtain ⟨w',z⟩:=I.cell x c hc
   refine wpAny_storeName_cell I.ok.kind hk hc z (fun h' hc' hs=>?_)
   obtain ⟨oc,hoc,hocd⟩:=id z
   refine h { s with heap:=h' } ⟨I.ok,I.os,I.bare,⟨fun b o e n hb hx=>?_,fun b o e n hb hx=>?_,I.base.free,fun b o e hx=>?_,I.base.tups,I.base.frzs,I.base.tbls⟩,⟨m,hn.sameBut hs (Ne.symm (cne x c hc)),fun j y v' e1 e2 e3=>?_⟩,fun y c' e=>?_,I.free,I.freeC,fun p hp=>?_,tracked ⟨oc,hoc,I.freeC x c hc⟩ hs,by simpa using I.len⟩ ⟨c,hs,.inr hc⟩
   . exact (hs.2 b (Nat.ne_of_lt (Nat.lt_of_lt_of_le (Heap.lt_size e) (I.ok.cab x c hfn hc)))).trans (I.base.keep b o e n hb hx)
   . obtain ⟨sl,e1⟩:=I.base.slot b o e n hb hx;exact ⟨sl,(hs.2 b (Nat.ne_of_lt (Nat.lt_of_lt_of_le (Heap.lt_size e) (I.ok.cab x c hfn hc)))).trans e1⟩
   . obtain ⟨o',e1⟩:=I.base.there b o e hx;exact ⟨o',(hs.2 b (Nat.ne_of_lt (Nat.lt_of_lt_of_le (Heap.lt_size e) (I.ok.cab x c hfn hc)))).trans e1⟩
   . by_cases hj:j=i
     . subst hj;rw [hi] at e1;cases e1;rw [List.getElem?_set_self hiσ] at e2;cases e2;exact ⟨u,r,.inr ⟨.inl hk,c,hc,hc'⟩⟩
     . rw [List.getElem?_set_ne (Ne.symm hj)] at e2;obtain ⟨u',r',q⟩:=hl j y v' e1 e2 e3;refine ⟨u',r',?_⟩;rcases q with q | ⟨k,c',e,z'⟩
       . exact .inl q
       . refine .inr ⟨k,c',e,z'.sameBut hs ?_⟩;rintro rfl;exact hj (Uv hN e1 (I.ok.inj _ _ _ e hc ▸ hi))
   . by_cases hcc:c'=c
     . subst hcc;exact ⟨_,hc'⟩
     . obtain ⟨w2,z2⟩:=I.cell y c' e;exact ⟨w2,z2.sameBut hs hcc⟩
   . obtain ⟨e,n,ne,nf,d⟩:=I.pin p hp;refine ⟨(hs.2 p.1 ?_).trans e,n,ne,nf,d⟩;intro q;rw [q,hoc] at e;have q':oc=p.2:=Option.some.inj e;exact d w' (by rw [<-q'];exact hocd)
theorem Uu {M:Model} {A:Around} {E:Value->Shared->Prop} {i:Nat} {x:Str} {v:V} {u:Value} {Q:Unit->Shared->Prop} (I:Inv X pins U H s) (hN:X.N.Nodup) (hi:X.N[i]?=some x) (hx:Loc X.env.scope x) (r:RelV v u)
  (h:∀s',Inv X pins (U.set i (some v)) H s'->Q () s') (hf:X.fn x=true\/X.env.scope.names.lookup x=some .local:=by first | exact .inl rfl | exact .inr rfl | assumption):wpAny M A (storeName X.env x u) Q E s:=
 Wb I hN hi hx r (fun s' I' _=>h s' I') hf
theorem Inv.call' {s':Shared} {ch:List Addr} (I:Inv X pins U H s) (ho:s'.os=s.os) (u:Un (frs X.stack) ch H H' s.heap s'.heap) (hok:HOk X.prog X.w H' s'.heap) (hg:AllBare s'.gens)
  (hch:∀b∈ch,(b∈X.ex\/X.s₀.heap.objs.size<=b)/\b≠X.env.locals/\(∀x c,X.env.cells.lookup x=some c->c≠b)/\∀p∈X.pn++pins,p.1≠b):Inv X pins U H' s':=by
 obtain ⟨h',g',d',t',o'⟩:=s'
 have e:o'=s.os:=ho
 subst e
 exact I.call (g':=g') (t':=t') (d':=d') u hok hg hch
end
abbrev XK:=Value->Option Addr->Hp->Prop
abbrev St:=List (Option V)
abbrev VK:=V->Hp->Prop
abbrev TE:=St->Hp->VK->Prop
abbrev TT:=St->Hp->(Bool->Hp->Prop)->Prop
abbrev TA:=St->Hp->(List V->Hp->Prop)->Prop
structure Ends where
 nx:St->Hp->Prop
 rt:VK
 bk:St->Hp->Prop:=fun _ _=>False
 ct:St->Hp->Prop:=fun _ _=>False
abbrev TS:=Ends->St->Hp->Prop
def EP (X:Cx) (pins:List (Addr×Obj)) (U:St) (Q:VK) (u:Value) (s':Shared):Prop:=∃v H',Inv X pins U H' s'/\RelV v u/\Q v H'
def TP (X:Cx) (pins:List (Addr×Obj)) (U:St) (Q:Bool->Hp->Prop) (b:Bool) (s':Shared):Prop:=∃H',Inv X pins U H' s'/\Q b H'
def AP (X:Cx) (pins:List (Addr×Obj)) (U:St) (Q:List V->Hp->Prop) (us:List Value) (s':Shared):Prop:=∃vs H',Inv X pins U H' s'/\Vals vs us/\Q vs H'
def SP (X:Cx) (pins:List (Addr×Obj)) (D:Ends) (f:Flow) (s':Shared):Prop:=
 match f with
 | .next=>∃σ' H',Inv X pins σ' H' s'/\D.nx σ' H'
 | .brk=>∃σ' H',Inv X pins σ' H' s'/\D.bk σ' H'
 | .cont=>∃σ' H',Inv X pins σ' H' s'/\D.ct σ' H'
 | .ret u=>∃v σ' H',Inv X pins σ' H' s'/\RelV v u/\D.rt v H'
def PE (X:Cx) (e:Expr) (t:TE):Prop:=
 ∀(pins:List (Addr×Obj)) (s:Shared) (U:St) (H:Hp) (Q:VK),Inv X pins U H s->t U H Q->wpAny (model X.prog X.w) X.A (eval e X.env) (EP X pins U Q) X.xe s
def PT (X:Cx) (e:Expr) (t:TT):Prop:=
 ∀(pins:List (Addr×Obj)) (s:Shared) (U:St) (H:Hp) (Q:Bool->Hp->Prop),Inv X pins U H s->t U H Q->wpAny (model X.prog X.w) X.A (isTrue e X.env (eval e X.env)) (TP X pins U Q) X.xe s
def PW (X:Cx) (e:Expr) (t:TT):Prop:=
 ∀(whole:Sem Value) (pins:List (Addr×Obj)) (s:Shared) (U:St) (H:Hp) (Q:Bool->Hp->Prop),Inv X pins U H s->t U H Q->wpAny (model X.prog X.w) X.A (isTrue e X.env whole) (TP X pins U Q) X.xe s
theorem PW.pt {X:Cx} {e:Expr} {t:TT} (h:PW X e t):PT X e t:=h _
def PA (X:Cx) (es:List Expr) (t:TA):Prop:=
 ∀(pos:Pos) (pins:List (Addr×Obj)) (s:Shared) (U:St) (H:Hp) (Q:List V->Hp->Prop),Inv X pins U H s->t U H Q->wpAny (model X.prog X.w) X.A (spliced (backTo pos (starEach es X.env))) (AP X pins U Q) X.xe s
def PS (X:Cx) (st:Stmt) (t:TS):Prop:=
 ∀(pins:List (Addr×Obj)) (s:Shared) (U:St) (H:Hp) (D:Ends),Inv X pins U H s->t D U H->wpAny (model X.prog X.w) X.A (exec st X.env) (SP X pins D) X.xe s
def PSs (X:Cx) (st:List Stmt) (t:TS):Prop:=
 ∀(pins:List (Addr×Obj)) (s:Shared) (U:St) (H:Hp) (D:Ends),Inv X pins U H s->t D U H->wpAny (model X.prog X.w) X.A (execs st X.env) (SP X pins D) X.xe s
theorem thn {α:Type} {t:Sem α} {Q Q':α->Shared->Prop} {M:Model} {A:Around} {E:Value->Shared->Prop} {s:Shared} (h:wpAny M A t Q E s) (hQ:∀a s,Q a s->Q' a s):wpAny M A t Q' E s:=wpAny_mono h hQ fun _ _ x=>x
section
variable {X:Cx}
theorem bin {a b:Expr} {ta tb:TE} (ha:PE X a ta) (hb:PE X b tb) {pins:List (Addr×Obj)} {s:Shared} {U:St} {H:Hp} {R:V->V->Hp->Prop} (I:Inv X pins U H s) (h:ta U H fun x H1=>tb U H1 fun y H2=>R x y H2)
  {α:Type} {Q:α->Shared->Prop} {f:Value->Value->Sem α}
  (hf:∀v u s2 x y H2,Inv X pins U H2 s2->RelV x v->RelV y u->R x y H2->wpAny (model X.prog X.w) X.A (f v u) Q X.xe s2) :
  wpAny (model X.prog X.w) X.A (eval a X.env) (fun v s₁=>wpAny (model X.prog X.w) X.A (eval b X.env) (fun u s₂=>wpAny (model X.prog X.w) X.A (f v u) Q X.xe s₂) X.xe s₁) X.xe s:=by
 refine thn (ha pins s U H _ I h) fun v s1 ⟨x,H1,I1,r1,q1⟩=>?_
 refine thn (hb pins s1 U H1 _ I1 q1) fun u s2 ⟨y,H2,I2,r2,q2⟩=>?_
 exact hf v u s2 x y H2 I2 r1 r2 q2
noncomputable def Zv (i:Nat):TE:=fun U H Q=>∃v,U[i]?=some (some v)/\Q v H
noncomputable def tC (v:V):TE:=fun _ H Q=>Q v H
theorem Qp {i:Nat} {x:Str} {pos:Pos} (hN:X.N[i]?=some x) (hv:Vis X.env.scope x) (hd:(x==("__debug__":Str))=false:=by decide) (hcd:(x==("__classdict__":Str))=false:=by decide):PE X (.Name x pos) (Zv i):=by
 intro pins s U H Q I h;obtain ⟨v,e,h⟩:=h;obtain ⟨m,hn,hl⟩:=I.loc;obtain ⟨u,r,l⟩:=hl i x v hN e hv;have fin:EP X pins U Q u s:=⟨v,H,I,r,h⟩;rcases l with ⟨hk,hm⟩ | ⟨hk,c,hc,hcell⟩
 . exact wpAny_Name (wpAny_loadName_local I.ok.kind hk hn hm fin) hd
 . rcases hk with hk | hk
   . exact wpAny_Name (wpAny_loadName_cell I.ok.kind hk hc hcell fin) hd
   . exact wpAny_Name (wpAny_loadName_free I.ok.kind hk hc hcell fin hcd) hd
theorem pe_int {i j pos}:PE X (.Constant (.int i) j pos) (tC (.int i)):=fun _ _ _ H _ I h=>wpAny_Constant_int ⟨.int i,H,I.tok _,⟨_,rfl⟩,h⟩
theorem pe_bl {b j pos}:PE X (.Constant (.bool b) j pos) (tC (.bl b)):=fun _ _ _ H _ I h=>Constant_bool ⟨.bl b,H,I,rfl,h⟩
def Gl (X:Cx) (x:Str):Prop:=X.env.kindOf x=some .globalImplicit
theorem wL {E:Value->Shared->Prop} {pins:List (Addr×Obj)} {s:Shared} {U:St} {H:Hp} {x:Str} {u:Value} {pos:Pos} {Q:Value->Shared->Prop} (I:Inv X pins U H s) (hg:Gl X x) (hm:X.mg x=some u) (h:Q u s)
  (hd:(x==("__debug__":Str))=false:=by decide):wpAny (model X.prog X.w) X.A (eval (.Name x pos) X.env) Q E s:=
 Calls.Name_function_global I.ok.kind hg (Calls.loadGlobal_global (by rw [I.ok.glob];exact I.mod.glob.keeps I.bk) hm h) hd
theorem J0 {E:Value->Shared->Prop} {pins:List (Addr×Obj)} {s:Shared} {U:St} {H:Hp} {x:Str} {u:Value} {pos:Pos} {Q:Value->Shared->Prop} (I:Inv X pins U H s) (hg:Gl X x) (hm:X.mg x=none) (hv:bootBuiltins x=some u) (h:Q u s)
  (hn:x≠"__name__":=by decide) (hd:(x==("__debug__":Str))=false:=by decide):wpAny (model X.prog X.w) X.A (eval (.Name x pos) X.env) Q E s:=by
 obtain ⟨mb,h1,h2⟩:=I.mod.blt
 exact Calls.Name_function_global I.ok.kind hg (Calls.loadGlobal_builtin (by rw [I.ok.glob];exact I.mod.glob.keeps I.bk) hm (by rw [I.ok.blt];exact h1.keeps I.bk) ((h2 x hn).trans hv) h) hd
theorem Z9 {x:Str} {v:V} {u:Value} {pos:Pos} (hg:Gl X x) (hm:X.mg x=none) (hv:bootBuiltins x=some u) (r:RelV v u) (hn:x≠"__name__":=by decide) (hd:(x==("__debug__":Str))=false:=by decide):PE X (.Name x pos) (tC v):=
 fun _ _ _ H _ I h=>J0 I hg hm hv ⟨v,H,I,r,h⟩ hn hd
variable {a b:Expr} {ta tb:TE} {pos:Pos}
variable {tA tB':TT} {rest:List Expr}
noncomputable def Zu (t u:TT):TT:=fun U H Q=>t U H fun c H1=>if c=true then u U H1 Q else Q false H1
noncomputable def tOr (t u:TT):TT:=fun U H Q=>t U H fun c H1=>if c=true then Q true H1 else u U H1 Q
noncomputable def Zt (t:TT):TT:=fun U H Q=>t U H fun c H1=>Q (!c) H1
theorem wK (ha:PT X a tA):PW X (.BoolOp .And [a] pos) tA:=by
 intro wh pins s U H Q I h;refine isTrue_and (thn (ha pins s U H Q I h) fun c s1 e=>?_);cases c with
 | true=>exact isTrue_and_nil e
 | false=>exact e
theorem qW (ha:PT X a tA):PW X (.BoolOp .Or [a] pos) tA:=by
 intro wh pins s U H Q I h;refine isTrue_or (thn (ha pins s U H Q I h) fun c s1 e=>?_);cases c with
 | false=>exact isTrue_or_nil e
 | true=>exact e
theorem qV (ha:PT X a tA) (hb:PW X (.BoolOp .And (b::rest) pos) tB'):PW X (.BoolOp .And (a::b::rest) pos) (Zu tA tB'):=by
 intro wh pins s U H Q I h;refine isTrue_and (thn (ha pins s U H _ I h) fun c s1 ⟨H1,I1,q1⟩=>?_);cases c with
 | true=>exact hb wh pins s1 U H1 Q I1 q1
 | false=>exact ⟨H1,I1,q1⟩
theorem jG (ha:PT X a tA) (hb:PW X (.BoolOp .Or (b::rest) pos) tB'):PW X (.BoolOp .Or (a::b::rest) pos) (tOr tA tB'):=by
 intro wh pins s U H Q I h;refine isTrue_or (thn (ha pins s U H _ I h) fun c s1 ⟨H1,I1,q1⟩=>?_);cases c with
 | true=>exact ⟨H1,I1,q1⟩
 | false=>exact hb wh pins s1 U H1 Q I1 q1
theorem qU (ha:PT X a tA):PT X (.UnaryOp .Not a pos) (Zt tA):=by intro pins s U H Q I h;exact isTrue_not (ha pins s U H (fun c H1=>Q (!c) H1) I h)
theorem qT {op} {t:TE} (h:PE X a t):PE X (.BoolOp op [a] pos) t:=fun pins s U H Q I hw=>BoolOp_one (h pins s U H Q I hw)
noncomputable def tIf (t:TT) (ta tb:TE):TE:=fun U H Q=>t U H fun c H1=>if c=true then ta U H1 Q else tb U H1 Q
theorem yg {c:Expr} (hc:PT X c tA) (ha:PE X a ta) (hb:PE X b tb):PE X (.IfExp c a b pos) (tIf tA ta tb):=by
 intro pins s U H Q I h;refine wpAny_IfExp (thn (hc pins s U H _ I h) fun d s1 ⟨H1,I1,q1⟩=>?_);cases d with
 | true=>exact ha pins s1 U H1 Q I1 q1
 | false=>exact hb pins s1 U H1 Q I1 q1
end
def SqL (K:Frag) (H:Hp) (a:Addr) (xs:List V):Prop:=
 Rd H a (.lst xs) \/
  ∃(o:Obj) (its:Array Value) (n:Nat),K.lookup a=some o/\o.cls=.type "list"/\o.dict=none/\o.data=.seq its n/\its.size<=sizeLine/\Vals xs its.toList
def SqT (K:Frag) (H:Hp) (a:Addr) (xs:List V):Prop:=
 Rd H a (.tup xs) \/
  ∃(o:Obj) (its:Array Value) (n:Nat),K.lookup a=some o/\o.cls=.type "tuple"/\o.data=.seq its n/\its.size<=sizeLine/\Vals xs its.toList
noncomputable def Zs:Value->Option V
 | .none=>some .non
 | .bool b=>some (.bl b)
 | .int i _=>some (.int i)
 | .str x _=>some (.str x)
 | .bytes b _=>some (.byt b)
 | .float b _=>some (.flt b)
 | .ref a=>some (.ref a)
 | .type n=>some (.ty n)
 | _=>none
theorem RelV.abs {x:V} {u:Value} (r:RelV x u):Zs u=some x:=by
 cases x with
 | non=>cases r;rfl
 | bl _=>cases r;rfl
 | int _=>obtain ⟨t,rfl⟩:=r;rfl
 | str _=>obtain ⟨t,rfl⟩:=r;rfl
 | byt _=>obtain ⟨t,rfl⟩:=r;rfl
 | flt _=>obtain ⟨t,rfl⟩:=r;rfl
 | ref _=>cases r;rfl
 | ty _=>cases r;rfl
theorem RelV.inj {x y:V} {u:Value} (r:RelV x u) (q:RelV y u):x=y:=Option.some.inj (r.abs.symm.trans q.abs)
theorem Vals.inj:∀{xs ys:List V} {us:List Value},Vals xs us->Vals ys us->xs=ys
 | _,_,_,.nil,.nil=>rfl
 | _,_,_,.cons r t,.cons r' t'=>by rw [r.inj r',Vals.inj t t']
section
variable {X:Cx} {pins:List (Addr×Obj)} {U:St} {H:Hp} {s:Shared} {a:Addr} {xs ys:List V}
theorem SqL.of {K:Frag} (h:H a=some (.lst xs)):SqL K H a xs:=.inl (.inl h)
theorem SqT.of {K:Frag} (h:H a=some (.tup xs)):SqT K H a xs:=.inl (.inl h)
theorem Inv.list (I:Inv X pins U H s) (h:SqL X.K H a xs):∃its:List Value,Vals xs its/\PlainL s.heap a its.toArray/\xs.length<=sizeLine:=by
 rcases h with h | ⟨o,its,n,hk,hc,hd,hs,hz,r⟩
 . obtain ⟨z,its,n,r,e⟩:=h.ok I.hok;exact ⟨its,r,⟨_,n,e,rfl,rfl,rfl⟩,z⟩
 . refine ⟨its.toList,r,⟨o,n,I.kIn a o hk,hc,hd,by simpa using hs⟩,?_⟩;have e:=r.length;simp only [Array.length_toList] at e;omega
theorem Inv.tuple (I:Inv X pins U H s) (h:SqT X.K H a xs):∃its:List Value,Vals xs its/\IsTup s.heap a its.toArray/\xs.length<=sizeLine:=by
 rcases h with h | ⟨o,its,n,hk,hc,hs,hz,r⟩
 . obtain ⟨z,its,r,p⟩:=h.ok I.hok;exact ⟨its,r,p.tup,z⟩
 . refine ⟨its.toList,r,⟨o,I.kIn a o hk,hc,n,by simpa using hs⟩,?_⟩;have e:=r.length;simp only [Array.length_toList] at e;omega
theorem Inv.list_inj (I:Inv X pins U H s) (h:SqL X.K H a xs) (h':SqL X.K H a ys):xs=ys:=by
 obtain ⟨its,r,⟨o,n,e,_,_,d⟩,_⟩:=I.list h;obtain ⟨its',r',⟨o',n',e',_,_,d'⟩,_⟩:=I.list h';rw [e] at e';cases e';rw [d] at d';injection d' with d1 _;have:its=its':=by simpa using congrArg Array.toList d1
 subst this;exact r.inj r'
theorem Inv.tuple_inj (I:Inv X pins U H s) (h:SqT X.K H a xs) (h':SqT X.K H a ys):xs=ys:=by
 obtain ⟨its,r,⟨o,e,_,n,d⟩,_⟩:=I.tuple h;obtain ⟨its',r',⟨o',e',_,n',d'⟩,_⟩:=I.tuple h';rw [e] at e';cases e';rw [d] at d';injection d' with d1 _;have:its=its':=by simpa using congrArg Array.toList d1
 subst this;exact r.inj r'
end
section
variable {X:Cx} {st:Stmt} {rest:List Stmt} {t u:TS} {e:Expr} {te:TE} {pos:Pos}
noncomputable def Nz:TS:=fun D U H=>D.nx U H
noncomputable def Zr (t u:TS):TS:=fun D U H=>t { D with nx:=u D } U H
theorem pss_nil:PSs X [] Nz:=fun _ _ U H _ I h=>wpAny_execs_nil ⟨U,H,I,h⟩
theorem yf (h1:PS X st t) (h2:PSs X rest u):PSs X (st::rest) (Zr t u):=by
 intro pins s U H D I h;refine wpAny_execs_cons (thn (h1 pins s U H { D with nx:=u D } I h) fun f s1 q=>?_);cases f with
 | next=>
  obtain ⟨σ',H',I',q⟩:=q
  exact h2 pins s1 σ' H' D I' q
 | ret v=>exact q
 | brk=>exact q
 | cont=>exact q
theorem wJ (h1:PS X st t):PSs X [st] t:=by
 intro pins s U H D I h;refine wpAny_execs_cons (thn (h1 pins s U H D I h) fun f s1 q=>?_);cases f with
 | next=>exact wpAny_execs_nil q
 | ret v=>exact q
 | brk=>exact q
 | cont=>exact q
theorem Inv.quiet {pins:List (Addr×Obj)} {U:St} {H:Hp} {s:Shared} (I:Inv X pins U H s):interactive X.env=false:=by simp [interactive,I.ok.kind]
noncomputable def Bu (te:TE):TS:=fun D U H=>te U H fun _ H1=>D.nx U H1
theorem Tq (he:PE X e te) (hs:swapsWith e none pos.line X.env=pure false:=by rfl):PS X (.Expr e pos) (Bu te):=by intro pins s U H D I h;exact wpAny_Expr_any (thn (he pins s U H _ I h) fun v s1 ⟨x,H1,I1,r1,q1⟩=>⟨U,H1,I1,q1⟩) I.quiet hs
noncomputable def Ek (te:TE):TS:=fun D U H=>te U H D.rt
theorem Qo (he:PE X e te):PS X (.Return (some e) pos) (Ek te):=by intro pins s U H D I h;exact wpAny_Return_some (thn (he pins s U H _ I h) fun v s1 ⟨x,H1,I1,r1,q1⟩=>⟨x,U,H1,I1,r1,q1⟩)
noncomputable def Zq (c:TT) (t u:TS):TS:=fun D U H=>c U H fun b H1=>if b=true then t D U H1 else u D U H1
theorem jF {c:Expr} {a b:List Stmt} {tc:TT} (hc:PT X c tc) (ha:PSs X a t) (hb:PSs X b u):PS X (.If c a b pos) (Zq tc t u):=by
 intro pins s U H D I h;refine wpAny_If (thn (hc pins s U H _ I h) fun d s1 ⟨H1,I1,q1⟩=>?_);cases d with
 | true=>exact ha pins s1 U H1 D I1 q1
 | false=>exact hb pins s1 U H1 D I1 q1
noncomputable def Qn:TS:=fun _ _ _=>False
theorem ps_never:PS X st Qn:=fun _ _ _ _ _ _ h=>h.elim
end
abbrev TG:=V->St->Hp->(St->Hp->Prop)->Prop
abbrev TGs:=List V->St->Hp->(St->Hp->Prop)->Prop
def PG (X:Cx) (target:Expr) (t:TG):Prop:=
 ∀(pins:List (Addr×Obj)) (s:Shared) (U:St) (H:Hp) (v:V) (u:Value) (Q:St->Hp->Prop),Inv X pins U H s->RelV v u->t v U H Q ->
  wpAny (model X.prog X.w) X.A (assign target X.env u) (fun _ s'=>∃σ' H',Inv X pins σ' H' s'/\Q σ' H') X.xe s
def PGs (X:Cx) (ts:List Expr) (t:TGs):Prop:=
 ∀(pins:List (Addr×Obj)) (s:Shared) (U:St) (H:Hp) (vs:List V) (us:List Value) (Q:St->Hp->Prop),Inv X pins U H s->Vals vs us->t vs U H Q ->
  wpAny (model X.prog X.w) X.A (assignInOrder ((assignEach ts X.env).map (·.2)) us) (fun _ s'=>∃σ' H',Inv X pins σ' H' s'/\Q σ' H') X.xe s
abbrev N4:=V->V->V->Hp->(Hp->Prop)->Prop
def Bk (X:Cx) (t:N4):Prop:=
 ∀(pins:List (Addr×Obj)) (s:Shared) (U:St) (H:Hp) (o i v:V) (ov iv u:Value) (Q:Hp->Prop),Inv X pins U H s->RelV o ov->RelV i iv->RelV v u->t o i v H Q ->
  wpAny (model X.prog X.w) X.A (setItem ov iv u) (fun _ s'=>∃H',Inv X pins U H' s'/\Q H') X.xe s
section
variable {X:Cx} {pos:Pos}
noncomputable def w4 (i:Nat):TG:=fun v U H Q=>Q (U.set i (some v)) H
theorem Je {i:Nat} {x:Str} (hN:X.N.Nodup) (hi:X.N[i]?=some x) (hx:Loc X.env.scope x) (hf:X.fn x=true\/X.env.scope.names.lookup x=some .local:=by first | exact .inl rfl | exact .inr rfl | assumption):PG X (.Name x pos) (w4 i):=by intro pins s U H v u Q I r h;exact wpAny_assign_Name (Uu I hN hi hx r (fun s' I'=>⟨_,H,I',h⟩) hf)
noncomputable def Ej:TGs:=fun vs U H Q=>vs=[]/\Q U H
noncomputable def X6 (t:TG) (u:TGs):TGs:=fun vs U H Q=>∃v r,vs=v::r/\t v U H fun σ' H'=>u r σ' H' Q
theorem pgs_nil:PGs X [] Ej:=by intro pins s U H vs us Q I r h;obtain ⟨e,h⟩:=h;subst e;cases r;exact assignInOrder_nil ⟨U,H,I,h⟩
theorem Jw {e:Expr} {es:List Expr} {t:TG} {u:TGs} (h1:PG X e t) (h2:PGs X es u)
  (hs:(assignEach (e::es) X.env).map (·.2)=assign e X.env::(assignEach es X.env).map (·.2):=by rfl):PGs X (e::es) (X6 t u):=by
 intro pins s U H vs us Q I r h
 obtain ⟨v,vr,e1,h⟩:=h
 subst e1
 cases r with
 | cons r rr=>
  rw [hs]
  refine assignInOrder_cons (thn (h1 pins s U H _ _ _ I r h) fun _ s1 ⟨σ1,H1,I1,q1⟩=>?_)
  exact h2 pins s1 σ1 H1 _ _ Q I1 rr q1
noncomputable def Ei (K:Frag) (n:Nat) (t:TGs):TG:=fun v U H Q=>∃a xs,v=.ref a/\SqT K H a xs/\xs.length=n/\t xs U H Q
theorem Qm {es:List Expr} {k:Nat} {t:TGs} {n:Nat} (hc:X.calm=true) (h:PGs X es t)
  (hn:(assignEach es X.env).length=n:=by rfl) (hst:(assignEach es X.env).findIdx? (·.1)=none:=by rfl):PG X (.Tuple es k pos) (Ei X.K n t):=by
 intro pins s U H v u Q I r hw
 obtain ⟨a,xs,e1,hq,hl,hw⟩:=hw
 subst e1
 cases r
 obtain ⟨its,rv,ht,hz⟩:=I.tuple hq
 refine assign_Tuple_tuple (I.ok.hd hc) ht (by simp [hn,<-hl,rv.length]) hst fun h' hx=>?_
 have I1:Inv X pins U H { s with heap:=h' }:=I.kept (t':=s.toks) fun b o e=>hx b o (Nat.ne_of_lt (Heap.lt_size e)) e
 exact h pins _ U H xs _ Q I1 (by simpa using rv) hw
noncomputable def Eh (to ti:TE) (t:N4):TG:=fun v U H Q=>to U H fun o H1=>ti U H1 fun i H2=>t o i v H2 fun H3=>Q U H3
theorem Ql {o i:Expr} {to ti:TE} {t:N4} (ho:PE X o to) (hi:PE X i ti) (hs:Bk X t)
  (ha:∀v,assign (.Subscript o i pos) X.env v=(do
   let ov <-holding [v] (eval o X.env)
   let iv <-holding [v,ov] (eval i X.env)
   standAt pos
   holding [v,ov,iv] (setItem ov iv v)
   release [v,ov,iv] []):=by intro _;rfl):PG X (.Subscript o i pos) (Eh to ti t):=by
 intro pins s U H v u Q I r h
 rw [ha]
 refine wpAny_bind (wpAny_holding (thn (ho pins s U H _ I h) fun ov s1 ⟨x,H1,I1,r1,q1⟩=>?_))
 refine wpAny_bind (wpAny_holding (thn (hi pins s1 U H1 _ I1 q1) fun iv s2 ⟨y,H2,I2,r2,q2⟩=>?_))
 refine wpAny_bind (wpAny_standAt (wpAny_bind (wpAny_holding (thn (hs pins s2 U H2 x y v ov iv u _ I2 r1 r2 r q2) fun _ s3 ⟨H3,I3,q3⟩=>?_))))
 exact wpAny_release ⟨U,H3,I3,q3⟩
noncomputable def C9 (te:TE) (g:TG):TS:=fun D U H=>te U H fun x H1=>g x U H1 D.nx
theorem Gq {tg e:Expr} {te:TE} {g:TG} (he:PE X e te) (hg:PG X tg g) (hs:swapsWithSole [tg] e pos.line X.env=pure false:=by rfl) (hw:swappedStores [tg] e X.env=pure none:=by rfl)
  (h1:(assignEach [tg] X.env).map (·.2)=[assign tg X.env]:=by rfl):PS X (.Assign [tg] e pos) (C9 te g):=by
 intro pins s U H D I h
 refine wpAny_Assign_stores (thn (he pins s U H _ I h) fun v s1 ⟨x,H1,I1,r1,q1⟩=>?_) hs hw
 rw [h1]
 exact thn (hg pins s1 U H1 x v _ I1 r1 q1) fun _ s2 q=>q
theorem qS {i:Nat} {x:Str} {e:Expr} {te:TE} {pos':Pos} (hN:X.N.Nodup) (hi:X.N[i]?=some x) (hx:Loc X.env.scope x) (he:PE X e te) (hs:swapsWith e (some (.Name x pos')) pos.line X.env=pure false:=by rfl) (hf:X.fn x=true\/X.env.scope.names.lookup x=some .local:=by first | exact .inl rfl | exact .inr rfl | assumption) :
  PS X (.Assign [.Name x pos'] e pos) (C9 te (w4 i)):=by
 intro pins s U H D I h
 refine wpAny_Assign_Name (thn (he pins s U H _ I h) fun v s1 ⟨y,H1,I1,r1,q1⟩=>?_) hs
 exact Uu I1 hN hi hx r1 (fun s2 I2=>⟨_,H1,I2,q1⟩) hf
end
section
variable {X:Cx} {pos:Pos}
noncomputable def Qk (c:TT) (tb:TS):TS:=fun D U H=>∃W:Nat->St->Hp->Prop,(∃m,W m U H)/\∀m U H,W m U H ->
 c U H fun b H1=>if b=true then ∃N:St->Hp->Prop,(∀σ' H',N σ' H'->∃m',m'<m/\W m' σ' H')/\tb { D with nx:=N,ct:=N,bk:=D.nx } U H1 else D.nx U H1
theorem ye {c:Expr} {body:List Stmt} {tc:TT} {tb:TS} (hp:PassesOwn (model X.prog X.w) X.A X.env X.xe) (hc:PT X c tc) (hb:PSs X body tb):PS X (.While c body [] pos) (Qk tc tb):=by
 intro pins s U H D I h;obtain ⟨W,⟨m0,w0⟩,turn⟩:=h;refine wpAny_While (codeAny_whileLoop (fun n s'=>∃σ' H',Inv X pins σ' H' s'/\W n σ' H') ?_ m0 ⟨U,H,I,w0⟩);rintro n s1 ⟨σ1,H1,I1,w1⟩;refine wpAny_passesOwn hp (thn (hc pins s1 σ1 H1 _ I1 (turn n σ1 H1 w1)) fun b s2 ⟨H2,I2,q2⟩=>?_);cases b with
 | true=>
  obtain ⟨N,hN,q2⟩:=q2
  rw [if_pos rfl]
  refine wpAny_passesOwn hp (thn (hb pins s2 σ1 H2 _ I2 q2) fun f s3 q3=>?_)
  cases f with
  | next=>
   obtain ⟨σ3,H3,I3,n3⟩:=q3
   obtain ⟨m',hm,w3⟩:=hN σ3 H3 n3
   exact ⟨m',hm,σ3,H3,I3,w3⟩
  | cont=>
   obtain ⟨σ3,H3,I3,n3⟩:=q3
   obtain ⟨m',hm,w3⟩:=hN σ3 H3 n3
   exact ⟨m',hm,σ3,H3,I3,w3⟩
  | brk=>exact q3
  | ret v=>exact q3
 | false=>
  rw [if_neg Bool.false_ne_true]
  exact wpAny_execs_nil ⟨σ1,H2,I2,q2⟩
end
structure It where
 go:Nat->Hp->Prop
 yld:Nat->Hp->V->Hp->Prop
 stop:Nat->Hp->Prop
def o4 (X:Cx) (pins:List (Addr×Obj)) (H:Hp) (b:Addr):Prop:=
 H b=none/\b≠X.env.locals/\b∉X.fs/\(b∈X.ex\/X.s₀.heap.objs.size<=b)/\(∀x c,X.env.cells.lookup x=some c->c≠b)/\∀p∈X.pn++pins,p.1≠b
theorem Inv.fpOk {X:Cx} {pins:List (Addr×Obj)} {U:St} {H H':Hp} {s:Shared} {b:Addr} (I:Inv X pins U H s) (hb:s.heap.objs.size<=b) (hn:H' b=none):o4 X pins H' b:=by
 refine ⟨hn,Nat.ne_of_gt (Nat.lt_of_lt_of_le I.lt hb),I.nofs hb,.inr (Nat.le_trans I.sz hb),fun x c e z=>?_,fun p hp z=>?_⟩
 . obtain ⟨v,q⟩:=I.cell x c e;exact absurd (Nat.lt_of_lt_of_le q.lt (by rw [z];exact hb)) (Nat.lt_irrefl _)
 . exact absurd (Nat.lt_of_lt_of_le (Heap.lt_size (I.pin p hp).1) (by rw [z];exact hb)) (Nat.lt_irrefl _)
structure Turn (P:Program) (w:World) (K:Frag) (tg:Expr) (J:It) (fp:List Addr) (it:Addr) (tn:Nat->Heap->Prop):Prop where
 mem:it∈fp
 obj:∀i h,tn i h->∀b∈fp,∃o,h.get? b=some o/\∀v,o.data≠.cell v
 keep:∀i h h',tn i h->(∀b∈fp,∀o,h.get? b=some o->h'.get? b=some o)->tn i h'
 item:∀(X:Cx),X.prog=P->X.w=w->X.K=K->X.calm=true->∀(i:Nat) (pins:List (Addr×Obj)) (s:Shared) (U:St) (H:Hp) (E:Value->Shared->Prop),Inv X pins U H s->(∀b∈fp,o4 X pins H b)->tn i s.heap->J.go i H ->
  wpAny (model P w) X.A (pyNext (.ref it)) (fun r s1=>∃u,r=some u /\
   wpAny (model P w) X.A (letOwnedTupleGo tg (.ref it) u) (fun _ s2=>∃x H',Inv X pins U H' s2/\RelV x u/\J.yld i H x H'/\tn (i+1) s2.heap/\∀b∈fp,H' b=none) E s1) E s
 done:∀(X:Cx),X.prog=P->X.w=w->X.K=K->X.calm=true->∀(i:Nat) (pins:List (Addr×Obj)) (s:Shared) (U:St) (H:Hp) (E:Value->Shared->Prop),Inv X pins U H s->(∀b∈fp,o4 X pins H b)->tn i s.heap->J.stop i H ->
  wpAny (model P w) X.A (pyNext (.ref it)) (fun r s1=>r=none/\Inv X pins U H s1) E s
 self:∀(A:Around) (i:Nat) (s:Shared) (Q:Value->Shared->Prop) (E:Value->Shared->Prop),tn i s.heap->Q (.ref it) s->wpAny (model P w) A (pyIter (.ref it)) Q E s
abbrev TI:=St->Hp->(It->Hp->Prop)->Prop
def PIE (X:Cx) (pins:List (Addr×Obj)) (U:St) (tg:Expr) (R:It->Hp->Prop) (itv:Value) (s2:Shared):Prop:=
 ∃(it:Addr) (fp:List Addr) (tn:Nat->Heap->Prop) (J:It) (H':Hp),itv=.ref it/\Inv X pins U H' s2/\Turn X.prog X.w X.K tg J fp it tn/\tn 0 s2.heap/\(∀b∈fp,o4 X pins H' b)/\R J H'
def PI (X:Cx) (tg iter:Expr) (wi:TI):Prop:=
 ∀(pins:List (Addr×Obj)) (s:Shared) (U:St) (H:Hp) (R:It->Hp->Prop),Inv X pins U H s->wi U H R ->
  wpAny (model X.prog X.w) X.A (eval iter X.env) (fun v s1=>wpAny (model X.prog X.w) X.A (pyIter v) (PIE X pins U tg R) X.xe s1) X.xe s
theorem Fo {M:Model} {A:Around} {E:Value->Shared->Prop} {s:Shared} {tg:Expr} {it:Addr} {u:Value} {o:Obj} {n:String} {vs:Array Value} {Q:Unit->Shared->Prop} (ho:s.heap.get? it=some o) (hc:o.cls=.type n) (hd:o.data=.fields vs)
  (hn:["enumerate","zip","dict_itemiterator","dict_reverseitemiterator","odict_iterator","itertools.zip_longest","itertools.pairwise"].contains n=false) (hQ:Q () s):wpAny M A (letOwnedTupleGo tg (.ref it) u) Q E s:=by
 unfold letOwnedTupleGo
 cases tg<;>first
  | exact wpAny_pure hQ
  | (cases u<;>first
   | exact wpAny_pure hQ
   | (refine wpAny_bind (wpAny_load ho ?_)
      rw [hc,hd]
      show wpAny M A (if (["enumerate","zip","dict_itemiterator","dict_reverseitemiterator","odict_iterator","itertools.zip_longest","itertools.pairwise"].contains n&&vs[0]?==some (rawInt _))=true then _ else _) Q E s
      rw [if_neg (by intro h;rw [hn,Bool.false_and] at h;cases h)]
      exact wpAny_pure hQ))
noncomputable def Itl (K:Frag) (a:Addr):It:=
 ⟨fun i H=>∃xs x,SqL K H a xs/\xs[i]?=some x,fun i H x H'=>H'=H/\∀xs,SqL K H a xs->xs[i]?=some x,fun i H=>∃xs,SqL K H a xs/\xs.length<=i⟩
noncomputable def Itt (K:Frag) (a:Addr):It:=
 ⟨fun i H=>∃xs x,SqT K H a xs/\xs[i]?=some x,fun i H x H'=>H'=H/\∀xs,SqT K H a xs->xs[i]?=some x,fun i H=>∃xs,SqT K H a xs/\xs.length<=i⟩
noncomputable def Itr (lo:Int) (n:Nat):It:=⟨fun i _=>i<n,fun i H x H'=>H'=H/\x=.int (lo+i),fun i _=>n<=i⟩
theorem yZ {P:Program} {w:World} {K:Frag} {tg:Expr} (a it:Addr):Turn P w K tg (Itl K a) [it] it (fun i h=>h.IsListIter it a i) where
 mem:=by simp
 obj:=fun i h st b hb=>by
  have e:b=it:=by simpa using hb
  subst e;obtain ⟨o,e,c,d⟩:=st;exact ⟨o,e,fun v z=>by rw [d] at z;cases z⟩
 keep:=fun i h h' st k=>st.at fun o e=>k it (by simp) o e
 item:=by
  intro X hP hw hK hc i pins s U H E I hf st hg;subst hP hw hK;obtain ⟨xs,x,hq,hx⟩:=hg;obtain ⟨its,rv,p,hz⟩:=I.list hq;obtain ⟨u,hu,ru⟩:=rv.get hx;obtain ⟨f0,f1,f2,f3,f4,f5⟩:=hf it (by simp);refine wpAny_pyNext_list_item st p.isList (x:=u) (by simpa using hu) fun h' st' sb=>?_
  have I1:Inv X pins U H { s with heap:=h' }:=I.turned (t':=s.toks) (fun b o hb e=>(sb.2 b hb).trans e) f0 f1 f3 f4 f5;obtain ⟨o,e,c,d⟩:=id st';exact ⟨u,rfl,Fo (s:={ s with heap:=h' }) e c d (by decide) ⟨x,H,I1,ru,⟨rfl,fun ys hy=>by rw [I.list_inj hy hq];exact hx⟩,st',fun b hb=>(hf b hb).1⟩⟩
 done:=by intro X hP hw hK hc i pins s U H E I hf st hg;subst hP hw hK;obtain ⟨xs,hq,hx⟩:=hg;obtain ⟨its,rv,p,hz⟩:=I.list hq;obtain ⟨f0,f1,f2,f3,f4,f5⟩:=hf it (by simp);have hl:=rv.length;exact wpAny_pyNext_list_end (I.ok.hd hc) st p.isList (by simp;omega) fun h' eb=>⟨rfl,I.turned (t':=s.toks) (fun b o hb e=>eb b o hb e) f0 f1 f3 f4 f5⟩
 self:=fun _ _ _ _ _ st h=>wpAny_pyIter_listiter st h
theorem zz {P:Program} {w:World} {K:Frag} {tg:Expr} (a it:Addr):Turn P w K tg (Itt K a) [it] it (fun i h=>h.IsTupleIter it a i) where
 mem:=by simp
 obj:=fun i h st b hb=>by
  have e:b=it:=by simpa using hb
  subst e;obtain ⟨o,e,c,d⟩:=st;exact ⟨o,e,fun v z=>by rw [d] at z;cases z⟩
 keep:=fun i h h' st k=>st.at fun o e=>k it (by simp) o e
 item:=by
  intro X hP hw hK hc i pins s U H E I hf st hg;subst hP hw hK;obtain ⟨xs,x,hq,hx⟩:=hg;obtain ⟨its,rv,p,hz⟩:=I.tuple hq;obtain ⟨u,hu,ru⟩:=rv.get hx;obtain ⟨f0,f1,f2,f3,f4,f5⟩:=hf it (by simp);refine wpAny_pyNext_tuple_item st (show s.heap.IsTuple a its.toArray from p) (x:=u) (by simpa using hu) fun h' st' sb=>?_
  have I1:Inv X pins U H { s with heap:=h' }:=I.turned (t':=s.toks) (fun b o hb e=>(sb.2 b hb).trans e) f0 f1 f3 f4 f5;obtain ⟨o,e,c,d⟩:=id st';exact ⟨u,rfl,Fo (s:={ s with heap:=h' }) e c d (by decide) ⟨x,H,I1,ru,⟨rfl,fun ys hy=>by rw [I.tuple_inj hy hq];exact hx⟩,st',fun b hb=>(hf b hb).1⟩⟩
 done:=by intro X hP hw hK hc i pins s U H E I hf st hg;subst hP hw hK;obtain ⟨xs,hq,hx⟩:=hg;obtain ⟨its,rv,p,hz⟩:=I.tuple hq;obtain ⟨f0,f1,f2,f3,f4,f5⟩:=hf it (by simp);have hl:=rv.length;exact wpAny_pyNext_tuple_end (I.ok.hd hc) st (show s.heap.IsTuple a its.toArray from p) (by simp;omega) fun h' eb=>⟨rfl,I.turned (t':=s.toks) (fun b o hb e=>eb b o hb e) f0 f1 f3 f4 f5⟩
 self:=fun _ _ _ _ _ st h=>wpAny_pyIter_tupleiter st h
theorem zy {P:Program} {w:World} {K:Frag} {tg:Expr} (it:Addr) (lo:Int) (n:Nat):Turn P w K tg (Itr lo n) [it] it (fun i h=>IsRangeIter h it (lo+(i:Nat) * 1) ((n:Int) - (i:Nat)) 1) where
 mem:=by simp
 obj:=fun i h st b hb=>by
  have e:b=it:=by simpa using hb
  subst e;exact ⟨_,st,fun v z=>by have z':Data.fields _=Data.cell v:=z;cases z'⟩
 keep:=fun i h h' st k=>k it (by simp) _ st
 item:=by
  intro X hP hw hK hc i pins s U H E I hf st hg;subst hP hw hK;obtain ⟨f0,f1,f2,f3,f4,f5⟩:=hf it (by simp);have W:=Walks.range (prog:=X.prog) (w:=X.w) (I.ok.hd hc) it lo 1 n;refine W.item i s _ _ hg st fun v h' tk hv st' kk=>?_
  obtain ⟨t,rfl⟩:=hv;have I1:Inv X pins U H { s with heap:=h',toks:=tk }:=I.turned (fun b o hb e=>kk b o (by simpa using hb) e) f0 f1 f3 f4 f5;refine ⟨_,rfl,Fo (s:={ s with heap:=h',toks:=tk }) (n:="range_iterator") st' rfl rfl (by decide) ⟨.int (lo+i),H,I1,⟨t,?_⟩,⟨rfl,rfl⟩,st',fun b hb=>(hf b hb).1⟩⟩;rw [Int.mul_one]
 done:=by intro X hP hw hK hc i pins s U H E I hf st hg;subst hP hw hK;obtain ⟨f0,f1,f2,f3,f4,f5⟩:=hf it (by simp);exact wpAny_pyNext_range_end (I.ok.hd hc) st (by have:n<=i:=hg;omega) fun h' eb=>⟨rfl,I.turned (t':=s.toks) (fun b o hb e=>eb b o hb e) f0 f1 f3 f4 f5⟩
 self:=fun _ _ _ _ _ st h=>wpAny_pyIter_rangeiter st h
section
variable {X:Cx} {tg:Expr}
theorem Ut {pins:List (Addr×Obj)} {U:St} {H:Hp} {s:Shared} {R:It->Hp->Prop} {E:Value->Shared->Prop} {lo hi:Int} {t u v:Tok} {tk:Nat} (I:Inv X pins U H s) (h1:-(2 ^ 62)<=lo) (h2:lo<2 ^ 62) (h3:-(2 ^ 62)<=hi) (h4:hi<2 ^ 62)
  (q:R (Itr lo (hi - lo).toNat) H):wpAny (model X.prog X.w) X.A (pyIter (.ref s.heap.objs.size)) (PIE X pins U tg R) E { s with heap:=s.heap.push { cls:=.type "range",data:=.fields #[.int lo t,.int hi u,.int 1 v] },toks:=tk }:=by
 refine wpAny_pyIter_range (IsRange.new ..) (small_one h1 h2 h3 h4) ?_
 have I1:Inv X pins U H { s with heap:=s.heap.push { cls:=.type "range",data:=.fields #[.int lo t,.int hi u,.int 1 v] },toks:=tk }:=I.kept fun b o e=>Heap.get?_push_of_some _ e
 refine ⟨(s.heap.push { cls:=.type "range",data:=.fields #[.int lo t,.int hi u,.int 1 v] }).objs.size,[(s.heap.push { cls:=.type "range",data:=.fields #[.int lo t,.int hi u,.int 1 v] }).objs.size],_,_,H,rfl,
  I1.kept (t':=tk) fun b o e=>Heap.get?_push_of_some _ e,zy _ lo (hi - lo).toNat,?_,fun b hb=>?_,q⟩
 . have e1:lo+((0:Nat):Int) * 1=lo:=by simp
   have e2:(((hi - lo).toNat:Nat):Int) - ((0:Nat):Int)=Builtin.Range.rangeSize lo hi 1:=by rw [rangeSize_one];split<;>omega
   show IsRangeIter _ _ (lo+((0:Nat):Int) * 1) ((((hi - lo).toNat:Nat):Int) - ((0:Nat):Int)) 1;rw [e1,e2];exact Heap.get?_push_size _ rfl
 . have e:b=(s.heap.push { cls:=.type "range",data:=.fields #[.int lo t,.int hi u,.int 1 v] }).objs.size:=by simpa using hb
   subst e;exact I1.fpOk (Nat.le_refl _) (I1.hok.fresh (Nat.le_refl _))
noncomputable def y36 (wi:TI) (g:TG) (tb:TS):TS:=fun D U H=>wi U H fun J H1=>∃W:Nat->Nat->St->Hp->Prop,(∃m,W 0 m U H1)/\∀i m U H,W i m U H ->
 (J.stop i H/\D.nx U H)\/(J.go i H/\∃N:St->Hp->Prop,(∀σ' H',N σ' H'->∃m',m'<m/\W (i+1) m' σ' H')/\∀x H',J.yld i H x H'->g x U H' fun σ2 H2=>tb { D with nx:=N,ct:=N,bk:=D.nx } σ2 H2)
noncomputable def Y8 (fp:List Addr) (h:Heap):List (Addr×Obj):=fp.filterMap fun b=>(h.get? b).map fun o=>(b,o)
theorem Dp {fp:List Addr} {h:Heap} {b:Addr} {o:Obj} (hb:b∈fp) (e:h.get? b=some o):(b,o)∈Y8 fp h:=List.mem_filterMap.mpr ⟨b,hb,by rw [e];rfl⟩
theorem yY {fp:List Addr} {h:Heap} {p:Addr×Obj} (hp:p∈Y8 fp h):p.1∈fp/\h.get? p.1=some p.2:=by
 obtain ⟨b,hb,e⟩:=List.mem_filterMap.mp hp;cases q:h.get? b with
 | none=>rw [q] at e;cases e
 | some o=>
  rw [q] at e
  have e':(b,o)=p:=Option.some.inj e
  subst e'
  exact ⟨hb,q⟩
theorem Inv.pinned {pins:List (Addr×Obj)} {U:St} {H:Hp} {s:Shared} {fp:List Addr} (I:Inv X pins U H s) (hf:∀b∈fp,o4 X pins H b) (ho:∀b∈fp,∃o,s.heap.get? b=some o/\∀v,o.data≠.cell v):Inv X (pins++Y8 fp s.heap) U H s:=
 I.pins_of fun p hp=>(List.mem_append.mp hp).elim (fun z=>I.pin p (List.mem_append_right _ z)) fun z=>by obtain ⟨hb,e⟩:=yY z;obtain ⟨f0,f1,f2,_⟩:=hf p.1 hb;obtain ⟨o,e',d⟩:=ho p.1 hb;rw [e] at e';cases e';exact ⟨e,f0,f1,f2,d⟩
theorem Inv.unpinned {pins pl:List (Addr×Obj)} {U:St} {H:Hp} {s:Shared} (I:Inv X (pins++pl) U H s):Inv X pins U H s:=I.pins_of fun p hp=>I.pin p (List.mem_append_right _ (List.mem_append_left _ hp))
theorem qR {iter:Expr} {body:List Stmt} {wi:TI} {g:TG} {tb:TS} {pos:Pos} (hp:PassesOwn (model X.prog X.w) X.A X.env X.xe) (hc:X.calm=true) (hi:PI X tg iter wi) (hg:PG X tg g) (hb:PSs X body tb)
  (hs:∀x,foldedSetIterable iter X.env x=pure x:=by intro _;rfl):PS X (.For tg iter body [] pos) (y36 wi g tb):=by
 intro pins s U H D I h
 refine wpAny_For (thn (hi pins s U H _ I h) fun v s1 h1=>thn h1 fun itv s2 h2=>?_) hs
 obtain ⟨it,fp,tn,J,H2,e,I2,T,st2,f2,W,⟨m0,w0⟩,turn⟩:=h2
 subst e
 have stat:∀{H':Hp},(∀b∈fp,H' b=none)->∀b∈fp,o4 X pins H' b:=fun hn b hb=>⟨hn b hb,(f2 b hb).2⟩
 refine codeAny_forLoop_any (fun n s'=>∃i σ' H',Inv X pins σ' H' s'/\tn i s'.heap/\(∀b∈fp,H' b=none)/\W i n σ' H') ?_ m0 ⟨0,U,H2,I2,st2,fun b hb=>(f2 b hb).1,w0⟩
 rintro n s3 ⟨i,σ3,H3,I3,st3,fr3,w3⟩
 rcases turn i n σ3 H3 w3 with ⟨stop,qn⟩ | ⟨go,N,hN,step⟩
 . refine wpAny_passesOwn hp (thn (T.done X rfl rfl rfl hc i pins s3 σ3 H3 X.xe I3 (stat fr3) st3 stop) fun r s4 ⟨hr,I4⟩=>?_);subst hr;exact wpAny_execs_nil ⟨σ3,H3,I4,qn⟩
 . refine wpAny_passesOwn hp (thn (T.item X rfl rfl rfl hc i pins s3 σ3 H3 X.xe I3 (stat fr3) st3 go) fun r s4 ⟨u,hr,h4⟩=>?_);subst hr;refine wpAny_passesOwn hp (thn h4 fun _ s5 ⟨x,H5,I5,r5,y5,st5,fr5⟩=>?_);have I5':=I5.pinned (stat fr5) (T.obj _ _ st5);refine wpAny_passesOwn hp (thn (hg _ s5 σ3 H5 x u _ I5' r5 (step x H5 y5)) fun _ s6 ⟨σ6,H6,I6,q6⟩=>?_);refine wpAny_passesOwn hp (thn (hb _ s6 σ6 H6 _ I6 q6) fun f s7 q7=>?_);have again:∀{σ7:St} {H7:Hp},Inv X (pins++Y8 fp s5.heap) σ7 H7 s7->N σ7 H7->∃m,m<n/\∃i σ' H',Inv X pins σ' H' s7/\tn i s7.heap/\(∀b∈fp,H' b=none)/\W i m σ' H':=fun {σ7 H7} I7 n7=>by obtain ⟨m',hm,w7⟩:=hN σ7 H7 n7;refine ⟨m',hm,i+1,σ7,H7,I7.unpinned,T.keep _ _ _ st5 fun b hb o e=>(I7.pin (b,o) (List.mem_append_right _ (List.mem_append_right _ (Dp hb e)))).1,fun b hb=>?_,w7⟩;obtain ⟨o,e,d⟩:=T.obj _ _ st5 b hb;exact (I7.pin (b,o) (List.mem_append_right _ (List.mem_append_right _ (Dp hb e)))).2.1
   cases f with
   | next=>obtain ⟨σ7,H7,I7,n7⟩:=q7;exact again I7 n7
   | cont=>obtain ⟨σ7,H7,I7,n7⟩:=q7;exact again I7 n7
   | brk=>obtain ⟨σ7,H7,I7,q7⟩:=q7;exact ⟨σ7,H7,I7.unpinned,q7⟩
   | ret v=>obtain ⟨x7,σ7,H7,I7,r7,q7⟩:=q7;exact ⟨x7,σ7,H7,I7.unpinned,r7,q7⟩
end
abbrev R2:=V->V->Hp->VK->Prop
def OpR (X:Cx) (f:Value->Value->Sem Value) (r:R2):Prop:=
 ∀(pins:List (Addr×Obj)) (s:Shared) (U:St) (H:Hp) (x y:V) (v u:Value) (Q:VK),Inv X pins U H s->RelV x v->RelV y u->r x y H Q ->
  wpAny (model X.prog X.w) X.A (f v u) (EP X pins U Q) X.xe s
def UnR (X:Cx) (f:Value->Sem Value) (r:V->Hp->VK->Prop):Prop:=
 ∀(pins:List (Addr×Obj)) (s:Shared) (U:St) (H:Hp) (x:V) (v:Value) (Q:VK),Inv X pins U H s->RelV x v->r x H Q ->
  wpAny (model X.prog X.w) X.A (f v) (EP X pins U Q) X.xe s
def CallR (X:Cx) (f:Value) (r:List V->Hp->VK->Prop):Prop:=
 ∀(pins:List (Addr×Obj)) (s:Shared) (U:St) (H:Hp) (xs:List V) (us:List Value) (Q:VK),Inv X pins U H s->Vals xs us->r xs H Q ->
  wpAny (model X.prog X.w) X.A (call f us) (EP X pins U Q) X.xe s
def y37 (X:Cx) (r:V->Hp->(Bool->Hp->Prop)->Prop):Prop:=
 ∀(pins:List (Addr×Obj)) (s:Shared) (U:St) (H:Hp) (x:V) (v:Value) (Q:Bool->Hp->Prop),Inv X pins U H s->RelV x v->r x H Q ->
  wpAny (model X.prog X.w) X.A (truthy v) (TP X pins U Q) X.xe s
noncomputable def tOp (r:R2) (ta tb:TE):TE:=fun U H Q=>ta U H fun x H1=>tb U H1 fun y H2=>r x y H2 Q
noncomputable def tUn (r:V->Hp->VK->Prop) (ta:TE):TE:=fun U H Q=>ta U H fun x H1=>r x H1 Q
noncomputable def rI (C:Int->Int->Prop) (g:Int->Int->V):R2:=fun x y H Q=>∃i j,x=.int i/\y=.int j/\C i j/\Q (g i j) H
noncomputable def rI0 (g:Int->Int->V):R2:=fun x y H Q=>∃i j,x=.int i/\y=.int j/\Q (g i j) H
def rU (g:Int->V):V->Hp->VK->Prop:=fun x H Q=>∃i,x=.int i/\Q (g i) H
section
variable {X:Cx} {a b:Expr} {ta tb:TE} {pos:Pos}
theorem Eg (ha:PE X a ta) (hb:PE X b tb) {pins:List (Addr×Obj)} {s:Shared} {U:St} {H:Hp} {R:V->V->Hp->Prop} (I:Inv X pins U H s)
  (h:ta U H fun x H1=>tb U H1 fun y H2=>R x y H2) {Q:Value->Shared->Prop} {f:Value->Value->Sem Value}
  (hf:∀v u s2 x y H2,Inv X pins U H2 s2->RelV x v->RelV y u->R x y H2->wpAny (model X.prog X.w) X.A (f v u) Q X.xe s2) :
  wpAny (model X.prog X.w) X.A (eval a X.env) (fun v s₁=>wpAny (model X.prog X.w) X.A (eval b X.env) (fun u s₂=>wpAny (model X.prog X.w) X.A (f v u) Q X.xe s₂) X.xe s₁) X.xe s:=by
 refine thn (ha pins s U H _ I h) fun v s1 ⟨x,H1,I1,r1,q1⟩=>?_
 refine thn (hb pins s1 U H1 _ I1 q1) fun u s2 ⟨y,H2,I2,r2,q2⟩=>?_
 exact hf v u s2 x y H2 I2 r1 r2 q2
theorem jE {op:Operator} {r:R2} (ho:OpR X (binaryOp op) r) (ha:PE X a ta) (hb:PE X b tb):PE X (.BinOp a op b pos) (tOp r ta tb):=by intro pins s U H Q I h;exact wpAny_BinOp (Eg ha hb I h fun v u s2 x y H2 I2 rx ry q=>ho pins s2 U H2 x y v u Q I2 rx ry q)
theorem jD {op:UnaryOp} {r:V->Hp->VK->Prop} (ho:UnR X (unaryOp op) r) (ha:PE X a ta):PE X (.UnaryOp op a pos) (tUn r ta):=by intro pins s U H Q I h;exact UnaryOp_ (thn (ha pins s U H _ I h) fun v s1 ⟨x,H1,I1,r1,q1⟩=>ho pins s1 U H1 x v Q I1 r1 q1)
theorem opI {f:Value->Value->Sem Value} {C:Int->Int->Prop} {g:Int->Int->Int}
  (rule:∀(i j:Int) (t u:Tok) (s:Shared) (Q:Value->Shared->Prop) (E:Value->Shared->Prop),C i j->Q (.int (g i j) s.toks) { s with toks:=s.toks+1 }->wpAny (model X.prog X.w) X.A (f (.int i t) (.int j u)) Q E s) :
  OpR X f (rI C fun i j=>.int (g i j)):=by
 intro pins s U H x y v u Q I rx ry h
 obtain ⟨i,j,rfl,rfl,hc,q⟩:=h
 obtain ⟨t,rfl⟩:=rx
 obtain ⟨t',rfl⟩:=ry
 exact rule i j t t' s _ _ hc ⟨.int (g i j),H,I.tok _,⟨_,rfl⟩,q⟩
theorem Zp {f:Value->Value->Sem Value} {g:Int->Int->Int}
  (rule:∀(i j:Int) (t u:Tok) (s:Shared) (Q:Value->Shared->Prop) (E:Value->Shared->Prop),Q (.int (g i j) s.toks) { s with toks:=s.toks+1 }->wpAny (model X.prog X.w) X.A (f (.int i t) (.int j u)) Q E s) :
  OpR X f (rI0 fun i j=>.int (g i j)):=by
 intro pins s U H x y v u Q I rx ry h
 obtain ⟨i,j,rfl,rfl,q⟩:=h
 obtain ⟨t,rfl⟩:=rx
 obtain ⟨t',rfl⟩:=ry
 exact rule i j t t' s _ _ ⟨.int (g i j),H,I.tok _,⟨_,rfl⟩,q⟩
theorem Ef {f:Value->Value->Sem Value} {g:Int->Int->Bool}
  (rule:∀(i j:Int) (t u:Tok) (s:Shared) (Q:Value->Shared->Prop) (E:Value->Shared->Prop),Q (.bool (g i j)) s->wpAny (model X.prog X.w) X.A (f (.int i t) (.int j u)) Q E s) :
  OpR X f (rI0 fun i j=>.bl (g i j)):=by
 intro pins s U H x y v u Q I rx ry h
 obtain ⟨i,j,rfl,rfl,q⟩:=h
 obtain ⟨t,rfl⟩:=rx
 obtain ⟨t',rfl⟩:=ry
 exact rule i j t t' s _ _ ⟨.bl (g i j),H,I,rfl,q⟩
def N2 (i j:Int):Prop:=0<j/\j<1073741824
def Zo (i j:Int):Prop:=0<=j/\j<=1000000/\i.natAbs<2 ^ 64
def CMul (i j:Int):Prop:=(-(2 ^ 64)<i/\i<2 ^ 64)\/(-(2 ^ 64)<j/\j<2 ^ 64)
theorem CMul.ok {i j:Int} (h:CMul i j):IntMulOk i j:=by
 rcases h with ⟨h1,h2⟩ | ⟨h1,h2⟩
 . exact .of_left (intBits_le_64 h1 h2)
 . exact .of_right (intBits_le_64 h1 h2)
theorem op_add:OpR X (binaryOp .Add) (rI0 fun i j=>.int (i+j)):=Zp fun _ _ _ _ _ _ _ q=>add_int q
theorem op_sub:OpR X (binaryOp .Sub) (rI0 fun i j=>.int (i - j)):=Zp fun _ _ _ _ _ _ _ q=>sub_int q
theorem op_mul:OpR X (binaryOp .Mult) (rI CMul fun i j=>.int (i * j)):=opI fun _ _ _ _ _ _ _ hc q=>mul_int q hc.ok
theorem op_fdiv:OpR X (binaryOp .FloorDiv) (rI N2 fun i j=>.int (i / j)):=opI fun i j _ _ _ _ _ hc q=>by have h1:(0:Int)<j:=hc.1;have h2:j<1073741824:=hc.2;exact floordiv_int (by omega) (by rw [Int.fdiv_eq_ediv_of_nonneg i (by omega)];exact q) (.inl (PyProof.noPylong_small (by omega)))
theorem op_mod:OpR X (binaryOp .Mod) (rI (fun _ j=>0<j) fun i j=>.int (i % j)):=opI fun i j _ _ _ _ _ hc q=>by have h1:(0:Int)<j:=hc;exact mod_int' (by omega) (by rw [Int.fmod_eq_emod_of_nonneg i (by omega)];exact q)
theorem unI {f:Value->Sem Value} {g:Int->Int}
  (rule:∀(i:Int) (t:Tok) (s:Shared) (Q:Value->Shared->Prop) (E:Value->Shared->Prop),Q (.int (g i) s.toks) { s with toks:=s.toks+1 }->wpAny (model X.prog X.w) X.A (f (.int i t)) Q E s) :
  UnR X f (rU fun i=>.int (g i)):=by
 intro pins s U H x v Q I rx h
 obtain ⟨i,rfl,q⟩:=h
 obtain ⟨t,rfl⟩:=rx
 exact rule i t s _ _ ⟨.int (g i),H,I.tok _,⟨_,rfl⟩,q⟩
theorem un_neg:UnR X (unaryOp .USub) (rU fun i=>.int (-i)):=unI fun _ _ _ _ _ q=>neg_int q
end
section
variable {X:Cx} {a b:Expr} {ta tb:TE} {pos:Pos}
theorem op_lt:OpR X (compareOp .Lt) (rI0 fun i j=>.bl (decide (i<j))):=Ef fun _ _ _ _ _ _ _ q=>lt_int q
theorem op_le:OpR X (compareOp .LtE) (rI0 fun i j=>.bl (decide (i<=j))):=Ef fun _ _ _ _ _ _ _ q=>le_int q
theorem op_gt:OpR X (compareOp .Gt) (rI0 fun i j=>.bl (decide (j<i))):=Ef fun _ _ _ _ _ _ _ q=>gt_int q
theorem OpR.or {f:Value->Value->Sem Value} {r r':R2} (h:OpR X f r) (h':OpR X f r'):OpR X f (fun x y H Q=>r x y H Q\/r' x y H Q):=by
 intro pins s U H x y v u Q I rx ry q;rcases q with q | q
 . exact h pins s U H x y v u Q I rx ry q
 . exact h' pins s U H x y v u Q I rx ry q
theorem l9 (b:Expr) {op:CmpOp} (h:op≠.In:=by decide) (h2:op≠.NotIn:=by decide):behindInMarks op b=false:=by
 have e1:(op==CmpOp.In)=false:=by cases op<;>first | rfl | exact absurd rfl h
 have e2:(op==CmpOp.NotIn)=false:=by cases op<;>first | rfl | exact absurd rfl h2
 cases b<;>simp [behindInMarks,e1,e2]
theorem wI {op:CmpOp} {r:R2} (ho:OpR X (compareOp op) r) (ha:PE X a ta) (hb:PE X b tb) (hm:behindInMarks op b=false):PE X (.Compare a [op] [b] pos) (tOp r ta tb):=by intro pins s U H Q I h;exact wpAny_Compare1 (Eg ha hb I h fun v u s2 x y H2 I2 rx ry q=>ho pins s2 U H2 x y v u Q I2 rx ry q) hm
def Zn (K:Frag) (x:V) (H:Hp) (k:Bool):Prop:=
 match x with
 | .non=>k=false
 | .bl b=>k=b
 | .int i=>k=(i != 0)
 | .str y=>y.length<=sizeLine/\k=((y.length:Int) != 0)
 | .byt y=>y.size<=sizeLine/\k=((y.size:Int) != 0)
 | .ref p=>(∃xs,SqL K H p xs/\k=!xs.isEmpty)\/(∃xs,SqT K H p xs/\k=!xs.isEmpty)\/∃kvs,H p=some (.dK kvs)/\k=!kvs.isEmpty
 | _=>False
theorem zx {κ:Type} {kvs:List (κ×V)} {vs:List (κ×Value)} (r:KV kvs vs):(!vs.isEmpty)=!kvs.isEmpty:=by cases r<;>rfl
theorem Ws {xs:List V} {its:List Value} (r:Vals xs its):(!its.toArray.isEmpty)=!xs.isEmpty:=by cases r<;>simp
theorem O3:(sizeLine:Nat)<2 ^ 63:=by rw [sizeLine_eq];decide
theorem Qj:y37 X (fun x H Q=>∃k,Zn X.K x H k/\Q k H):=by
 intro pins s U H x v Q I rx h;obtain ⟨k,e,q⟩:=h;have hl:=O3;have hs:sizeLine=16777216:=sizeLine_eq;cases x with
 | non=>
  cases rx
  have e':k=false:=e
  subst e'
  exact truthy_none ⟨H,I,q⟩
 | bl b=>
  cases rx
  have e':k=b:=e
  subst e'
  exact wpAny_truthy_bool ⟨H,I,q⟩
 | int i=>
  obtain ⟨t,rfl⟩:=rx
  have e':k=(i != 0):=e
  subst e'
  exact PySem.P.truthy_int ⟨H,I,q⟩
 | str y=>
  obtain ⟨t,rfl⟩:=rx
  obtain ⟨hy,e'⟩:y.length<=sizeLine/\k=((y.length:Int) != 0):=e
  subst e'
  exact PySem.P.truthy_str (by omega) ⟨H,I.tok _,q⟩
 | byt y=>
  obtain ⟨t,rfl⟩:=rx
  obtain ⟨hy,e'⟩:y.size<=sizeLine/\k=((y.size:Int) != 0):=e
  subst e'
  exact PySem.W.truthy_bytes (by omega) ⟨H,I.tok _,q⟩
 | ref p=>
  cases rx
  have e':(∃xs,SqL X.K H p xs/\k=!xs.isEmpty)\/(∃xs,SqT X.K H p xs/\k=!xs.isEmpty)\/∃kvs,H p=some (.dK kvs)/\k=!kvs.isEmpty:=e
  rcases e' with ⟨xs,hx,e'⟩ | ⟨xs,hx,e'⟩ | ⟨kvs,hx,e'⟩
  . subst e';obtain ⟨its,r,pl,hz⟩:=I.list hx;have hlen:=r.length;exact wpAny_truthy_list pl.isList (by simp only [List.size_toArray];omega) ⟨H,I.tok _,by rw [Ws r];exact q⟩
  . subst e';obtain ⟨its,r,pl,hz⟩:=I.tuple hx;have hlen:=r.length;exact truthy_tuple pl (by simp only [List.size_toArray];omega) ⟨H,I.tok _,by rw [Ws r];exact q⟩
  . subst e';obtain ⟨hz,hS,vs,r,m⟩:kvs.length<=sizeLine/\(p==sysModules)=false/\∃vs,KV kvs vs/\s.heap.DictOf (w6 X.prog X.w) p vs:=I.hok p _ hx;have hlen:kvs.length=vs.length:=Paired.length r;exact wpAny_truthy_dict hS m (by omega) ⟨H,I.tok _,by rw [zx r];exact q⟩
 | _=>exact (show False from e).elim
theorem t9 {x:V} {us:List Value} (r:Vals [x] us):∃u,us=[u]/\RelV x u:=by
 cases r with
 | cons r1 r2=>cases r2;exact ⟨_,rfl,r1⟩
theorem Bt {x y:V} {us:List Value} (r:Vals [x,y] us):∃u w',us=[u,w']/\RelV x u/\RelV y w':=by
 cases r with
 | cons r1 r2=>
  cases r2 with
  | cons r3 r4=>cases r4;exact ⟨_,_,rfl,r1,r3⟩
theorem call_int1:CallR X (.type "int") (fun xs H Q=>(∃i,xs=[.int i]/\Q (.int i) H)\/∃k,xs=[.bl k]/\Q (.int (if k then 1 else 0)) H):=by
 intro pins s U H xs us Q I r h;rcases h with ⟨i,rfl,q⟩ | ⟨k,rfl,q⟩
 . obtain ⟨u,rfl,t,rfl⟩:=t9 r;exact call_int_int ⟨.int i,H,I,⟨_,rfl⟩,q⟩
 . obtain ⟨u,rfl,r1⟩:=t9 r;cases r1;exact call_int_bool ⟨.int (if k then 1 else 0),H,I.tok _,⟨_,rfl⟩,q⟩
end
structure ObjM (h:Heap) (x dx C:Addr) (mA:Str->Option Value):Prop where
 obj:h.get? x=some (PySem.W.instObj C dx)
 ns:h.Ns1 dx mA
 ne:dx≠x
theorem yX {h:Heap} {dx:Addr} {mA:Str->Option Value} (n:h.Ns1 dx mA):∃od,h.get? dx=some od/\∀name,PySem.W.lookIn name od=some (mA name):=by
 obtain ⟨o,es,ep,ho,hd,hk,_,hm⟩:=n;refine ⟨o,ho,fun name=>?_⟩;have e:=hm name;unfold nsFind findBy at e;rw [<-Array.find?_toList] at e;unfold PySem.W.lookIn;rw [hd];dsimp only;split
 . rename_i y q;rw [q] at e;exact congrArg some e
 . rename_i q;rw [q] at e;have a:es.toList.any (·.refKey)=false:=by rw [List.any_eq_false];intro y hy;obtain ⟨z,t,hkey⟩:=hk y (Array.mem_toList_iff.mp hy);simp [DictEntry.refKey,hkey]
   have a':¬es.toList.any (·.refKey)=true:=by rw [a];exact Bool.false_ne_true
   rw [if_neg a'];exact congrArg some e
theorem ObjM.look {h:Heap} {x dx C:Addr} {mA:Str->Option Value} (I:ObjM h x dx C mA):∃od,PySem.W.InstAt h x (PySem.W.instObj C dx) C (some od)/\∀name,PySem.W.lookIn name od=some (mA name):=
 let ⟨od,ho,hl⟩:=yX I.ns
 ⟨od,⟨I.obj,rfl,rfl,ho⟩,hl⟩
theorem RelO.some_of {v:V} {o:Option Value} (r:RelO (some v) o):∃u,o=some u/\RelV v u:=by
 cases o with
 | none=>exact (show False from r).elim
 | some u=>exact ⟨u,rfl,r⟩
section
variable {P:Program} {w:World} {H:Hp} {h:Heap} {a C dx:Addr} {fs:List (Str×V)}
theorem wH (hok:HOk P w H h) (e:H a=some (.ins C dx fs)):∃mA,ObjM h a dx C mA/\(∀f,RelO (fs.lookup f) (mA f))/\PySem.Within mA (fs.map (·.1))/\fs.length<=1000/\H dx=some (.own a):=by obtain ⟨d,z,ne,ob,mA,n,r,q⟩:=(show ObjOk P w H h a (.ins C dx fs) from hok a _ e);exact ⟨mA,⟨ob,n,ne⟩,r,q,z,d⟩
end
structure Cls (K:Frag) (C:Addr):Prop where
 pg:PySem.W.plainGet K C Str.empty=true
 hd:PySem.W.hasDictIn K C=true
 po:PySem.W.plainOver K C=true
 sa:PySem.W.findIn K (.ref C) "__setattr__"=some (some (.builtin "object.__setattr__"))
theorem Cls.get {K:Frag} {C:Addr} (c:Cls K C) (f:Str):PySem.W.plainGet K C f=true:=c.pg
section
variable {X:Cx} {pins:List (Addr×Obj)} {U:St} {H:Hp} {s:Shared} {A:Around} {E:Value->Shared->Prop} {Q:Value->Shared->Prop} {c:Value} {b:Bool}
inductive TyOf (K:Frag) (H:Hp):V->Value->Prop where
 | non:TyOf K H .non (.type "NoneType")
 | bl (x:Bool):TyOf K H (.bl x) (.type "bool")
 | int (i:Int):TyOf K H (.int i) (.type "int")
 | str (x:Str):TyOf K H (.str x) (.type "str")
 | flt (x:UInt64):TyOf K H (.flt x) (.type "float")
 | lst {a:Addr} {xs:List V} (e:H a=some (.lst xs)):TyOf K H (.ref a) (.type "list")
 | frz {a:Addr} {o:Obj} {xs:List V} (e:H a=some (.frz o (.lst xs))):TyOf K H (.ref a) (.type "list")
 | tup {a:Addr} {xs:List V} (e:H a=some (.tup xs)):TyOf K H (.ref a) (.type "tuple")
 | dK {a:Addr} {kvs:List (Key×V)} (e:H a=some (.dK kvs)):TyOf K H (.ref a) (.type "dict")
 | dT {a:Addr} {kvs:List (List Key×V)} (e:H a=some (.dT kvs)):TyOf K H (.ref a) (.type "dict")
 | ins {a C dx:Addr} {fs:List (Str×V)} (e:H a=some (.ins C dx fs)) (cl:Cls K C) (ha:PySem.W.findIn K (.ref C) "__class__"=some (some (.builtin "object.__class__")))
  (hn:PySem.W.specialIn K (.builtin "object.__class__") "__get__"=some (some (.builtin "getset_descriptor.__get__"))) (htk:PySem.W.takesIn K (.builtin "object.__class__")=some true)
  (hm:PySem.W.mroIn K C (.type "object")=some true):TyOf K H (.ref a) (.ref C)
theorem J6 {x:V} {u t:Value} (I:Inv X pins U H s) (rx:RelV x u) (ty:TyOf X.K H x t) (e:PySem.W.kitOne X.K t c=some b) (h:∀tk,Q (.bool b) { s with toks:=tk }) :
  wpAny (model X.prog X.w) A (call (.builtin "isinstance") [u,c]) Q E s:=by
 cases ty with
 | non=>cases (show u=Value.none from rx);exact kia_one PySem.W.kitx_none I.kIn True.intro e (fun z=>nomatch z) h
 | bl y=>cases (show u=Value.bool y from rx);exact kia_one PySem.W.kitx_bool I.kIn True.intro e (fun z=>nomatch z) h
 | int i=>obtain ⟨t,q⟩:=(show ∃t,u=Value.int i t from rx);cases q;exact kia_one PySem.W.kitx_int I.kIn True.intro e (fun z=>nomatch z) h
 | str y=>obtain ⟨t,q⟩:=(show ∃t,u=Value.str y t from rx);cases q;exact kia_one PySem.W.kitx_str I.kIn True.intro e (fun z=>nomatch z) h
 | flt y=>obtain ⟨t,q⟩:=(show ∃t,u=Value.float y t from rx);cases q;exact kia_one PySem.W.kitx_float I.kIn True.intro e (fun z=>nomatch z) h
 | @lst a xs ea=>
  cases (show u=Value.ref a from rx)
  obtain ⟨_,_,n,_,h1⟩:=(show ObjOk X.prog X.w H s.heap a (.lst xs) from I.hok a _ ea)
  exact kia_one PySem.W.kitx_list I.kIn ⟨_,h1,rfl⟩ e (fun z=>nomatch z) h
 | @frz a ob xs ea=>
  cases (show u=Value.ref a from rx)
  obtain ⟨_,_,_,n,_,h1⟩:=(show ObjOk X.prog X.w H s.heap a (.frz ob (.lst xs)) from I.hok a _ ea)
  exact kia_one PySem.W.kitx_list I.kIn ⟨_,h1,rfl⟩ e (fun z=>nomatch z) h
 | @tup a xs ea=>
  cases (show u=Value.ref a from rx)
  obtain ⟨_,_,_,p⟩:=(show ObjOk X.prog X.w H s.heap a (.tup xs) from I.hok a _ ea)
  obtain ⟨o,h1,h2,_⟩:=p
  exact kia_one PySem.W.kitx_tuple I.kIn ⟨o,h1,h2⟩ e (fun z=>nomatch z) h
 | @dK a kvs ea=>
  cases (show u=Value.ref a from rx)
  obtain ⟨_,_,vs,_,p⟩:=(show ObjOk X.prog X.w H s.heap a (.dK kvs) from I.hok a _ ea)
  obtain ⟨o,es,ep,h1,h2,_⟩:=p
  exact kia_one PySem.W.kitx_dict I.kIn ⟨o,h1,h2.1⟩ e (fun z=>nomatch z) h
 | @dT a kvs ea=>
  cases (show u=Value.ref a from rx)
  obtain ⟨_,_,xs,_,o,es,ep,h1,h2,_⟩:=(show ObjOk X.prog X.w H s.heap a (.dT kvs) from I.hok a _ ea)
  exact kia_one PySem.W.kitx_dict I.kIn ⟨o,h1,h2.1⟩ e (fun z=>nomatch z) h
 | @ins a C dx fs ea cl ha hn htk hm=>
  cases (show u=Value.ref a from rx)
  obtain ⟨mA,O,_⟩:=wH I.hok ea
  obtain ⟨od,J,_⟩:=O.look
  exact kia_one (PySem.W.kitx_own (cl.get _) cl.hd ha hn htk hm) I.kIn J e (fun z=>nomatch z) h
end
structure Room (k:Nat) (A:Around):Prop where
 hd:A.handled=none
 dp:A.depth+3 * k+5<recursionLimit
 un:A.units+16 * k+200<cLine
theorem Room.mono {j k:Nat} {A:Around} (r:Room k A) (h:j<=k):Room j A:=⟨r.hd,by have:=r.dp;omega,by have:=r.un;omega⟩
theorem Room.deeper {k:Nat} {A:Around} (r:Room (k+1) A) (env:Env):Room k (A.deeper env):=
 ⟨r.hd,by have:=r.dp;show A.depth+1+3 * k+5<_;omega,by have:=r.un;show A.units+3+16 * k+200<_;omega⟩
theorem Room.depth {k:Nat} {A:Around} (r:Room k A):A.depth<recursionLimit:=by have:=r.dp;omega
theorem Room.units {k:Nat} {A:Around} (r:Room k A):A.units+64<cLine:=by have:=r.un;omega
noncomputable def N1:TA:=fun _ H Q=>Q [] H
noncomputable def G5 (ta:TE) (tr:TA):TA:=fun U H Q=>ta U H fun x H1=>tr U H1 fun xs H2=>Q (x::xs) H2
section
variable {X:Cx} {e:Expr} {es:List Expr} {te:TE} {t:TA} {pos:Pos}
theorem pa_nil:PA X [] N1:=fun _ _ _ _ H Q I h=>Calls.spliced_nil ⟨[],H,I,.nil,h⟩
theorem L8 (ha:PE X e te) (hr:PA X es t) (hs:starEach (e::es) X.env=(false,eval e X.env)::starEach es X.env:=by rfl):PA X (e::es) (G5 te t):=by intro pos pins s U H Q I h;rw [hs];show wpAny _ _ (spliced ((false,eval e X.env)::backTo pos (starEach es X.env))) _ _ s;refine Calls.spliced_cons (thn (ha pins s U H _ I h) fun u s1 ⟨x,H1,I1,r1,q1⟩=>?_);exact thn (hr pos pins s1 U H1 _ I1 q1) fun us s2 ⟨xs,H2,I2,r2,q2⟩=>⟨x::xs,H2,I2,.cons r1 r2,q2⟩
noncomputable def Zm (t:TA):TE:=fun U H Q=>t U H fun xs H1=>xs.length<=sizeLine/\∀p,H1 p=none->Q (.ref p) (upd H1 p (.tup xs))
noncomputable def Zl (t:TA):TE:=fun U H Q=>t U H fun xs H1=>xs.length<=sizeLine/\∀p,H1 p=none->Q (.ref p) (upd H1 p (.lst xs))
theorem qQ {x1} (h:PA X es t):PE X (.Tuple es x1 pos) (Zm t):=by intro pins s U H Q I hq;refine wpAny_Tuple_spliced (thn (h pos pins s U H _ I hq) fun us s1 ⟨xs,H1,I1,r,z,q⟩=>⟨by rw [<-r.length];exact z,?_⟩);have hf:H1 s1.heap.objs.size=none:=I1.hok.fresh (Nat.le_refl _);refine ⟨.ref s1.heap.objs.size,upd H1 s1.heap.objs.size (.tup xs),I1.laid (t':=s1.toks) (fun b u e=>Heap.get?_push_of_some _ e) (Nat.le_refl _) ?_,rfl,q _ hf⟩;exact ⟨z,us,r,.mk' (Heap.get?_push_size _ rfl)⟩
theorem qP (h:PA X es t):PE X (.List es pos) (Zl t):=by intro pins s U H Q I hq;refine wpAny_List_spliced (thn (h pos pins s U H _ I hq) fun us s1 ⟨xs,H1,I1,r,z,q⟩=>⟨by rw [<-r.length];exact z,?_⟩);have hf:H1 s1.heap.objs.size=none:=I1.hok.fresh (Nat.le_refl _);refine ⟨.ref s1.heap.objs.size,upd H1 s1.heap.objs.size (.lst xs),I1.laid (t':=s1.toks) (fun b u e=>Heap.get?_push_of_some _ e) (Nat.le_refl _) ?_,rfl,q _ hf⟩;exact ⟨z,us,0,r,Heap.get?_push_size _ rfl⟩
end
abbrev Sp:=List V->Hp->VK->XK->Prop
abbrev CXT:=List Env->Hp->Shared->XK->Value->Shared->Prop
structure Env0 (P:Program) (w:World) (K:Frag) (mg:Str->Option Value) (base:Heap) (A:Around) (outer:List Env) (s:Shared) (H:Hp):Prop where
 frames:A.frames=some outer
 mod:Mod K mg base
 bs:∀b o,base.get? b=some o->s.heap.get? b=some o/\H b=none
 bsz:base.objs.size<=s.heap.objs.size
 funs:s.heap.FunFrames base outer
 frf:∀b∈frs outer,H b=none
 hok:HOk P w H s.heap
 bare:AllBare s.gens
def CE (outer:List Env) (P:Program) (w:World) (H:Hp) (s:Shared) (Q:VK) (u:Value) (s':Shared):Prop:=
 ∃v H',s'.os=s.os/\AllBare s'.gens/\Un (frs outer) [] H H' s.heap s'.heap/\HOk P w H' s'.heap/\RelV v u/\Q v H'
def CR (CX:CXT) (outer:List Env) (P:Program) (w:World) (H:Hp) (s:Shared) (Q:VK) (E:XK) (r:Result) (s':Shared):Prop:=
 match r with
 | .ok (.ret u)=>CE outer P w H s Q u s'
 | .ok _=>False
 | .error e=>CX outer H s E e s'
structure FnOk (P:Program) (w:World) (K:Frag) (mg:Str->Option Value) (base:Heap) (CX:CXT) (k:Nat) (f:Addr) (fd:FuncData) (ps:List Str) (sp:Sp):Prop where
 len:∀vs H Q E,sp vs H Q E->vs.length=ps.length
 run:∀(A:Around) (outer:List Env) (s:Shared) (H:Hp) (args:Args) (us:List Value) (vs:List V) (Q:VK) (E:XK),Room k A->Env0 P w K mg base A outer s H->BindsTo s fd args (ps.zip us)->Vals vs us->sp vs H Q E ->
  codeAny (model P w) A (.call (.ref f) args) (CR CX outer P w H s Q E) s
theorem FnOk.imp {P:Program} {w:World} {K:Frag} {mg:Str->Option Value} {base:Heap} {CX:CXT} {k:Nat} {f:Addr} {fd:FuncData} {ps:List Str} {sp sp':Sp} (F:FnOk P w K mg base CX k f fd ps sp)
  (h:∀vs H Q E,sp' vs H Q E->sp vs H Q E):FnOk P w K mg base CX k f fd ps sp':=
 ⟨fun vs H Q E q=>F.len vs H Q E (h _ _ _ _ q),fun A outer s H args us vs Q E hr he hb hv hs=>F.run A outer s H args us vs Q E hr he hb hv (h _ _ _ _ hs)⟩
section
variable {X:Cx} {pins:List (Addr×Obj)} {U:St} {H:Hp} {s s':Shared}
theorem Inv.env0 (I:Inv X pins U H s):Env0 X.prog X.w X.K X.mg X.base X.A X.stack s H:=
 ⟨I.ok.frames,I.ok.mod,I.bs,Nat.le_trans I.ok.bsz I.sz,I.stack,I.stkFree,I.hok,I.bare⟩
theorem Inv.after {Q:VK} {u:Value} (I:Inv X pins U H s) (h:CE X.stack X.prog X.w H s Q u s'):EP X pins U Q u s':=by obtain ⟨v,H',os,bare,un,hok,r,q⟩:=h;obtain ⟨hh,g,d,t,os'⟩:=s';obtain rfl:os'=s.os:=os;exact ⟨v,H',I.call (h':=hh) (g':=g) (d':=d) (t':=t) (ch:=[]) un hok bare (fun b z=>absurd z (by simp)),r,q⟩
end
noncomputable def Ny (sp:Sp) (dvs:List V) (E:XK) (t:TA):TE:=fun U H Q=>t U H fun vs H1=>sp (vs++dvs) H1 Q E
def Binds (K:Frag) (fd:FuncData) (ps:List Str) (ds:List Value):Prop:=
 ∀(s:Shared) (us:List Value),K.In s.heap->(us++ds).length=ps.length->BindsTo s fd ⟨us,[]⟩ (ps.zip (us++ds))
theorem Binds.all {K:Frag} {fd:FuncData} {ps:List Str} (h:∀us:List Value,us.length=ps.length->bindArgs fd ⟨us,[]⟩=pure (ps.zip us)):Binds K fd ps []:=fun s us _ hl=>by rw [List.append_nil] at hl ⊢;exact .of_eq (h us hl)
def Cm (CX:CXT) (X:Cx) (E:XK):Prop:=∀(pins:List (Addr×Obj)) (U:St) (H:Hp) (s:Shared) (e:Value) (s':Shared),Inv X pins U H s->CX X.stack H s E e s'->X.xe e s'
section
variable {X:Cx} {CX:CXT} {k:Nat} {f:Addr} {fd:FuncData} {ps:List Str} {sp:Sp} {dvs:List V} {ds:List Value} {E:XK} {x:Str} {p pos:Pos} {e:Expr} {es:List Expr} {t:TA}
theorem qO {pins:List (Addr×Obj)} {U:St} {H:Hp} {s:Shared} {Q:VK} {us:List Value} {vs:List V} (F:FnOk X.prog X.w X.K X.mg X.base CX k f fd ps sp) (hr:Room k X.A) (hb:Binds X.K fd ps ds) (hd:Vals dvs ds) (hx:Cm CX X E)
  (I:Inv X pins U H s) (r:Vals vs us) (h:sp (vs++dvs) H Q E):wpAny (model X.prog X.w) X.A (call (.ref f) us) (EP X pins U Q) X.xe s:=by
 have r2:Vals (vs++dvs) (us++ds):=r.append hd
 have hl:(us++ds).length=ps.length:=by rw [<-r2.length];exact F.len _ _ _ _ h
 refine wpAny_call (codeAny_mono (F.run X.A X.stack s H ⟨us,[]⟩ (us++ds) (vs++dvs) Q E hr I.env0 (hb s us I.kIn hl) r2 h) fun r s' hq=>?_)
 cases r with
 | error e=>exact hx pins U H s e s' I hq
 | ok fl=>
  cases fl with
  | ret u=>exact I.after hq
  | next=>exact False.elim hq
  | brk=>exact False.elim hq
  | cont=>exact False.elim hq
theorem wG (F:FnOk X.prog X.w X.K X.mg X.base CX k f fd ps sp) (hr:Room k X.A) (hg:Gl X x) (hm:X.mg x=some (.ref f)) (hk:keepIn X.K (.ref f)=true) (hb:Binds X.K fd ps ds) (hd:Vals dvs ds) (hx:Cm CX X E)
  (ha:PA X (e::es) t) (hdb:(x==("__debug__":Str))=false:=by decide) (he:starEach (e::es) X.env=(false,eval e X.env)::starEach es X.env:=by rfl) (hpl:(backTo pos (starEach es X.env)).any (·.1)=false:=by rfl) :
  PE X (.Call (.Name x p) (e::es) [] pos) (Ny sp dvs E t):=by
 intro pins s U H Q I h
 refine wpAny_Call_Name_kw (wL I hg hm ?_ hdb)
 refine PySem.W.callWith_K (h₀:=X.base) I.ok.mod.kin hk (thn (ha pos pins s U H _ I h) fun us s1 ⟨vs,H1,I1,r,q⟩=>⟨I1.kIn,?_⟩) he hpl
 exact qO F hr hb hd hx I1 r q
end
structure FnScope (N P:List Str) (sc:Scope):Prop where
 kind:sc.kind=.function
 co:sc.isCoroutine=false
 gen:sc.isGenerator=false
 nd:N.Nodup
 pre:N.take P.length=P
 par:∀x∈P,sc.names.lookup x=some .local\/sc.names.lookup x=some .cell
 nofree:∀y∈sc.names,y.2≠.free
theorem Wa {kindOf:Str->Option NameKind} {x:Str}:∀{binds:List (Str×Value)} {m:Str->Option Value},(∀v,(x,v)∉binds)->bindL kindOf binds m x=m x
 | [],_,_=>rfl
 | (n,v)::r,m,h=>by
  unfold bindL;rw [Wa fun w hw=>h w (List.mem_cons_of_mem _ hw)];split
  . have:x≠n:=by rintro rfl;exact h v List.mem_cons_self
    simp [this]
  . rfl
theorem Vz {kindOf:Str->Option NameKind} {x:Str}:∀{binds:List (Str×Value)} {m:Str->Option Value},(∀v,(x,v)∉binds)->bindC kindOf binds m x=m x
 | [],_,_=>rfl
 | (n,v)::r,m,h=>by
  unfold bindC;rw [Vz fun w hw=>h w (List.mem_cons_of_mem _ hw)];split
  . rfl
  . have:x≠n:=by rintro rfl;exact h v List.mem_cons_self
    simp [this]
theorem Vy {kindOf:Str->Option NameKind} {x:Str} {v:Value}:∀{P:List Str} {vs:List Value} {i:Nat} {m:Str->Option Value},P.Nodup->P[i]?=some x->vs[i]?=some v->kindOf x=some .local ->
  bindL kindOf (P.zip vs) m x=some v
 | [],_,_,_,_,h,_,_=>by simp at h
 | _::_,[],_,_,_,_,h,_=>by simp at h
 | p::P,w::vs,0,m,nd,h1,h2,hk=>by simp at h1 h2;subst h1;subst h2;show bindL kindOf ((p,w)::P.zip vs) m p=_;unfold bindL;rw [Wa fun v hv=>(List.nodup_cons.mp nd).1 (List.of_mem_zip hv).1,if_pos hk];simp
 | p::P,w::vs,i+1,m,nd,h1,h2,hk=>by show bindL kindOf ((p,w)::P.zip vs) m x=_;unfold bindL;exact Vy (i:=i) (List.nodup_cons.mp nd).2 (by simpa using h1) (by simpa using h2) hk
theorem Vx {kindOf:Str->Option NameKind} {x:Str} {v:Value}:∀{P:List Str} {vs:List Value} {i:Nat} {m:Str->Option Value},P.Nodup->P[i]?=some x->vs[i]?=some v->kindOf x≠some .local ->
  bindC kindOf (P.zip vs) m x=some v
 | [],_,_,_,_,h,_,_=>by simp at h
 | _::_,[],_,_,_,_,h,_=>by simp at h
 | p::P,w::vs,0,m,nd,h1,h2,hk=>by simp at h1 h2;subst h1;subst h2;show bindC kindOf ((p,w)::P.zip vs) m p=_;unfold bindC;rw [Vz fun v hv=>(List.nodup_cons.mp nd).1 (List.of_mem_zip hv).1,if_neg hk];simp
 | p::P,w::vs,i+1,m,nd,h1,h2,hk=>by show bindC kindOf ((p,w)::P.zip vs) m x=_;unfold bindC;exact Vx (i:=i) (List.nodup_cons.mp nd).2 (by simpa using h1) (by simpa using h2) hk
noncomputable def D7 (N:List Str) (vs:List V):St:=vs.map some++List.replicate (N.length - vs.length) none
noncomputable def K2 (CX:CXT) (P:Program) (w:World) (K:Frag) (mg:Str->Option Value) (base:Heap) (N:List Str) (qual:Str) (scope:Scope) (f:Addr) (cd:Value) (A:Around) (outer:List Env) (s:Shared) (H:Hp) (E:XK):Cx where
 prog:=P
 w:=w
 K:=K
 mg:=mg
 base:=base
 A:=A.deeper (envOfC qual scope s.heap.objs.size f cd)
 N:=N
 s₀:=s
 H₀:=H
 env:=envOfC qual scope s.heap.objs.size f cd
 outer:=outer
 stack:=envOfC qual scope s.heap.objs.size f cd::outer
 ex:=[]
 calm:=true
 fn:=fun _=>true
 pn:=[]
 xe:=fun e s'=>wpAny (model P w) (A.deeper (envOfC qual scope s.heap.objs.size f cd)) (leaving (envOfC qual scope s.heap.objs.size f cd) e) (fun _ s''=>CX outer H s E e s'') (fun e' s''=>CX outer H s E e' s'') s'
theorem Us {sc:Scope} {n:Nat} {x:Str} (h:sc.names.lookup x=some .cell):∃c,(cellsFrom n sc.names []).lookup x=some c:=by have q:=PySem.W.cellsFrom_some sc.names n [] (.inl h);exact Option.isSome_iff_exists.mp q
theorem yW {CX:CXT} {P:Program} {w:World} {K:Frag} {mg:Str->Option Value} {base:Heap} {N ps:List Str} {qual:Str} {scope:Scope} {f:Addr} {cd:Value} {A:Around} {outer:List Env} {s s1:Shared} {H:Hp} {E:XK} {us:List Value} {vs:List V}
  (S:FnScope N ps scope) (hd:A.handled=none) (e0:Env0 P w K mg base A outer s H) (hl:vs.length=ps.length) (r:Vals vs us)
  (x:InCallC s s.heap.objs.size (bindL (envOfC qual scope s.heap.objs.size f cd).kindOf (ps.zip us) fun _=>none) (cellsFrom (s.heap.objs.size+1) scope.names []) (bindC (envOfC qual scope s.heap.objs.size f cd).kindOf (ps.zip us) fun _=>none) s1) :
  Inv (K2 CX P w K mg base N qual scope f cd A outer s H E) [] (D7 N vs) H s1:=by
 have hpl:ps.length<=N.length:=by have:=congrArg List.length S.pre;rw [List.length_take] at this;omega
 obtain ⟨h1,tk,rfl,hk⟩:=x.done
 have noA:∀b:Addr,b∉(K2 CX P w K mg base N qual scope f cd A outer s H E).ex:=fun b z=>absurd (show b∈([]:List Addr) from z) (by simp)
 refine ⟨⟨e0.mod,S.kind,rfl,rfl,Nat.le_refl _,fun y z c h1 h2=>?_,fun y hy=>?_,fun y c _ h=>?_,fun _=>hd,Around.frames_deeper e0.frames,.inr ⟨rfl,rfl⟩,fun b z=>absurd z (noA b),e0.bs,e0.bsz,fun b _ _=>noA b,fun b z=>absurd z (noA b),e0.funs,e0.frf⟩,
  rfl,e0.bare,Un.kept hk,⟨_,x.toInCall.ns,fun i y v h1 h2 h3=>?_⟩,fun y c h=>⟨_,x.cell y c h⟩,e0.hok.fresh (Nat.le_refl _),fun y c h=>?_,fun p hp=>absurd (show p∈([]:List (Addr×Obj)) from hp) (by simp),e0.hok.kept hk,?_⟩
 . exact name_of_addr x.apart (PySem.mem_of_lookup h1) (PySem.mem_of_lookup h2)
 . have hy:scope.names.lookup y=some .cell\/scope.names.lookup y=some .free:=hy;rcases hy with hy | hy
   . exact Us hy
   . exact absurd rfl (S.nofree _ (PySem.mem_of_lookup hy))
 . exact Nat.le_of_lt (x.above y c (PySem.mem_of_lookup h))
 . have hi:i<vs.length:=by
    unfold D7 at h2
    by_cases hi:i<vs.length
    . exact hi
    . rw [List.getElem?_append_right (by simpa using hi)] at h2;rw [List.getElem?_replicate] at h2;split at h2<;>cases h2
   have ha:vs[i]?=some v:=by
    unfold D7 at h2;rw [List.getElem?_append_left (by simpa using hi),List.getElem?_map] at h2;cases e:vs[i]? with
    | none=>rw [e] at h2;cases h2
    | some a=>rw [e] at h2;cases h2;rfl
   obtain ⟨u,hu,rv⟩:=r.get ha
   have hp:ps[i]?=some y:=by rw [<-S.pre,List.getElem?_take_of_lt (by omega)];exact h1
   have ndP:ps.Nodup:=by rw [<-S.pre];exact S.nd.sublist (List.take_sublist _ _)
   refine ⟨u,rv,?_⟩
   rcases S.par y (List.mem_of_getElem? hp) with k | k
   . exact .inl ⟨k,Vy ndP hp hu k⟩
   . obtain ⟨c,e⟩:=Us (n:=s.heap.objs.size+1) k;refine .inr ⟨.inl k,c,e,?_⟩;have q:=x.cell y c e;rw [Vx ndP hp hu (by show scope.names.lookup y≠_;rw [k];decide)] at q;exact q
 . exact e0.hok.fresh (Nat.le_of_lt (x.above y c (PySem.mem_of_lookup h)))
 . unfold D7;show _=N.length;rw [List.length_append,List.length_map,List.length_replicate];omega
theorem jC {CX:CXT} {P:Program} {w:World} {K:Frag} {mg:Str->Option Value} {base:Heap} {k:Nat} {f:Addr} {name qual:Str} {params:Arguments} {body:List Stmt} {scope:Scope} {dV kV doc pm cdv ct oc:Value} {an od:Option Addr}
  {osl:Array (Option Value)} {N ps:List Str} {sp:Sp} (lk:K.lookup f=some ⟨oc,od,.func (PySem.W.fnOf name qual params body scope dV kV doc pm an cdv ct),osl⟩) (hcd:codeIn K cdv qual=true) (S:FnScope N ps scope)
  (len:∀vs H Q E,sp vs H Q E->vs.length=ps.length)
  (hbody:∀(A:Around) (outer:List Env) (s:Shared) (H:Hp) (vs:List V) (Q:VK) (E:XK),Room k (A.deeper (envOfC qual scope s.heap.objs.size f cdv))->sp vs H Q E ->
   ∃t,PSs (K2 CX P w K mg base N qual scope f cdv A outer s H E) body t/\t { nx:=fun _ H'=>Q .non H',rt:=Q } (D7 N vs) H) :
  FnOk P w K mg base CX (k+1) f (PySem.W.fnOf name qual params body scope dV kV doc pm an cdv ct) ps sp:=by
 refine ⟨len,fun A outer s H args us vs Q E hr e0 hb r hsp=>?_⟩
 have hl:=len _ _ _ _ hsp
 have KX:K.In s.heap:=e0.mod.kin.keeps fun b o e=>(e0.bs b o e).1
 have lim:s.heap.NoLimit:=e0.mod.nolimit.keeps fun b o e=>(e0.bs b o e).1
 have hkind:∀y∈ps.zip us,scope.names.lookup y.1=some .local\/(scope.names.lookup y.1=some .cell/\((cellsFrom (s.heap.objs.size+1) scope.names []).lookup y.1).isSome=true):=fun ⟨n,v⟩ hy=>by
  rcases S.par n (List.of_mem_zip hy).1 with q | q
  . exact .inl q
  . exact .inr ⟨q,PySem.W.cellsFrom_some _ _ _ (.inl q)⟩
 refine codeAny_call_function hr.depth (KX _ _ lk) rfl S.co S.gen rfl (PySem.W.codeRec_of KX hcd) (hb _ _ _ _ ?_)
 refine wpAny_newFunctionEnv_cells S.kind hkind fun env he s1 x=>?_
 subst he
 refine ⟨lim.keeps x.toInCall.keep,codeAny_func ?_⟩
 obtain ⟨t,ht,hq⟩:=hbody A outer s H vs Q E (hr.deeper _) hsp
 have I:Inv (K2 CX P w K mg base N qual scope f cdv A outer s H E) [] (D7 N vs) H s1:=yW S hr.hd e0 hl r x
 refine wpAny_mono (ht [] s1 (D7 N vs) H _ I hq) (fun fl s' hs=>?_) fun e s' hs=>hs
 have fin:∀{σ':St} {H':Hp} {v:V} {u:Value},Inv (K2 CX P w K mg base N qual scope f cdv A outer s H E) [] σ' H' s'->RelV v u->Q v H'->CE outer P w H s Q u s':=
  fun {σ' H' v u} J rv q=>⟨v,H',J.os,J.bare,J.base,J.hok,rv,q⟩
 cases fl with
 | ret u=>
  obtain ⟨v,σ',H',J,rv,q⟩:=hs
  exact fin J rv q
 | next=>
  obtain ⟨σ',H',J,q⟩:=hs
  exact fin (v:=V.non) (u:=Value.none) J rfl q
 | brk=>
  obtain ⟨_,_,_,q⟩:=hs
  exact False.elim q
 | cont=>
  obtain ⟨_,_,_,q⟩:=hs
  exact False.elim q
section
variable {X:Cx} {x:Str} {p pos:Pos} {e:Expr} {es:List Expr} {t:TA} {id T:String} {r:List V->Hp->VK->Prop}
noncomputable def tCB (r:List V->Hp->VK->Prop) (t:TA):TE:=fun U H Q=>t U H fun vs H1=>r vs H1 Q
theorem Jv (hc:CallR X (.builtin id) r) (hg:Gl X x) (hm:X.mg x=none) (hv:bootBuiltins x=some (.builtin id)) (ha:PA X (e::es) t) (hn:x≠"__name__":=by decide) (hdb:(x==("__debug__":Str))=false:=by decide)
  (he:starEach (e::es) X.env=(false,eval e X.env)::starEach es X.env:=by rfl) (hpl:(backTo pos (starEach es X.env)).any (·.1)=false:=by rfl):PE X (.Call (.Name x p) (e::es) [] pos) (tCB r t):=by
 intro pins s U H Q I h
 refine wpAny_Call_Name_kw (J0 I hg hm hv ?_ hn hdb)
 exact PyProof.Rows.callWith_builtin1 (thn (ha pos pins s U H _ I h) fun us s1 ⟨vs,H1,I1,r1,q1⟩=>hc pins s1 U H1 vs us Q I1 r1 q1) he hpl
theorem Vw (hc:CallR X (.type T) r) (hg:Gl X x) (hm:X.mg x=none) (hv:bootBuiltins x=some (.type T)) (ha:PA X (e::es) t) (hn:x≠"__name__":=by decide) (hdb:(x==("__debug__":Str))=false:=by decide)
  (he:starEach (e::es) X.env=(false,eval e X.env)::starEach es X.env:=by rfl) (hpl:(backTo pos (starEach es X.env)).any (·.1)=false:=by rfl):PE X (.Call (.Name x p) (e::es) [] pos) (tCB r t):=by
 intro pins s U H Q I h
 refine wpAny_Call_Name_kw (J0 I hg hm hv ?_ hn hdb)
 exact PyProof.Rows.callWith_type1 (thn (ha pos pins s U H _ I h) fun us s1 ⟨vs,H1,I1,r1,q1⟩=>hc pins s1 U H1 vs us Q I1 r1 q1) he hpl
end
end L2
namespace HT
open PySem PyProof.Rows
theorem rcLt_int (A:Around) (s:Shared) (a:Int) (t:Tok) (c:Int) (u:Tok) (prog:Program) (w:World) (E:Value->Shared->Prop) (Q:Value->Shared->Prop) (h:Q (.bool (decide (a<c))) s) :
  wpAny (model prog w) A (richCompare .Lt (.int a t) (.int c u)) Q E s:=
 (PyProof.Rows.lt_int h:wpAny (model prog w) A (compareOp .Lt (.int a t) (.int c u)) Q E s)
section
open PySem.SeqAt
open PySem.AutoSeq1 (wpAny_loadPart')
open PySem.MeetsSeq PySem.MeetsSeq2 PySem.MeetsSeq3
end
section
variable {prog:Program} {w:World} {A:Around} {E:Value->Shared->Prop} {s:Shared}
theorem cat_tup {t b:Addr} {vs ws:List Value} {Q:Value->Shared->Prop} (ht:IsTup s.heap t vs.toArray) (hb:IsTup s.heap b ws.toArray) (hv:vs≠[])
  (h1:ws=[]->Q (.ref t) s) (h2:ws≠[]->Q (.ref s.heap.objs.size) { s with heap:=s.heap.push { cls:=.type "tuple",data:=.seq (vs++ws).toArray } })
  (hsz:vs.length+ws.length<=sizeLine):wpAny (model prog w) A (binaryOp .Add (.ref t) (.ref b)) Q E s:=by
 obtain ⟨⟨cls,dd,data,sl⟩,ho,hc,n,hd⟩:=id ht
 obtain ⟨⟨cls2,dd2,data2,sl2⟩,ho2,hc2,n2,hd2⟩:=id hb
 simp only at hc hd hc2 hd2
 subst hc hd hc2 hd2
 have e:vs.toArray++ws.toArray=(vs++ws).toArray:=by simp
 by_cases hw:ws=[]
 . exact concat_meets ⟨_,ho,rfl⟩ ⟨_,ho2,rfl⟩ noFill_tuple_add seq_tuple_add PySem.F.slot_tuple_add PySem.F.entry_tuple_add (PySem.F.args_tuple_add_2 _ _)
    (tuple_addW1 t b vs.toArray ws.toArray n n2 dd dd2 sl sl2 (by simpa using hv) (by simp [hw])) ⟨ho,ho2,h1 hw⟩
 . refine concat_meets ⟨_,ho,rfl⟩ ⟨_,ho2,rfl⟩ noFill_tuple_add seq_tuple_add PySem.F.slot_tuple_add PySem.F.entry_tuple_add (PySem.F.args_tuple_add_2 _ _)
    (tuple_addW2 t b vs.toArray ws.toArray n n2 dd dd2 sl sl2 (by simpa using hv) (by simpa using hw) (by rw [List.size_toArray,List.size_toArray];exact hsz)) ⟨ho,ho2,?_⟩
   rw [e]
   exact h2 hw
def sIx (n d:Nat):Option Int->Nat
 | none=>d
 | some v=>if v<0 then (v+(n:Int)).toNat else min v.toNat n
end
end HT
namespace L2
open PySem PySem.Spec PyProof.Rows
abbrev TO:=St->Hp->(Option Int->Hp->Prop)->Prop
def PO (X:Cx) (e:Option Expr) (t:TO):Prop:=
 ∀(pins:List (Addr×Obj)) (s:Shared) (U:St) (H:Hp) (Q:Option Int->Hp->Prop),Inv X pins U H s->t U H Q ->
  wpAny (model X.prog X.w) X.A (evalPart e X.env) (fun u s'=>∃o H',Inv X pins U H' s'/\IsPart u o/\Q o H') X.xe s
noncomputable def jB (t:TE):TO:=fun U H Q=>t U H fun x H1=>∃i,x=.int i/\Q (some i) H1
theorem Do {ns:List Int}:∀{us:List Value},Vals (ns.map V.int) us->IntsAre us ns:=by
 induction ns with
 | nil=>intro us r;rw [List.map_nil] at r;cases r;exact .nil
 | cons n ns ih=>
  intro us r
  rw [List.map_cons] at r
  cases r with
  | cons r1 r2=>
   obtain ⟨t,e⟩:=r1
   subst e
   exact .cons n t (ih r2)
section
variable {X:Cx} {e:Expr} {te:TE} {lo hi:Option Expr} {tl th:TO} {pos p2:Pos}
theorem wF (h:PE X e te):PO X (some e) (jB te):=by
 intro pins s U H Q I hw;rw [evalPart_some];refine thn (h pins s U H _ I hw) fun u s1 ⟨x,H1,I1,r1,q1⟩=>?_
 obtain ⟨i,rfl,q⟩:=q1;obtain ⟨t,rfl⟩:=r1;exact ⟨some i,H1,I1,.int i t,q⟩
def SlR (X:Cx) (r:V->Option Int->Option Int->Hp->VK->Prop):Prop:=
 ∀(pins:List (Addr×Obj)) (s:Shared) (U:St) (H:Hp) (x:V) (v vl vu:Value) (lo hi:Option Int) (sl:Addr) (Q:VK),Inv X pins U H s->RelV x v->s.heap.IsSliceOf sl vl vu .none->IsPart vl lo->IsPart vu hi->r x lo hi H Q ->
  ∃T id,typeLookup (.type T) "__getitem__"=pure (some (.builtin id))/\s.TypeIs v T/\wpAny (model X.prog X.w) X.A (getItem v (.ref sl)) (EP X pins U Q) X.xe s
noncomputable def tSl (r:V->Option Int->Option Int->Hp->VK->Prop) (te:TE) (tl th:TO):TE:=fun U H Q=>te U H fun x H1=>tl U H1 fun l H2=>th U H2 fun u H3=>r x l u H3 Q
theorem yd {r:V->Option Int->Option Int->Hp->VK->Prop} (hr:SlR X r) (he:PE X e te) (hl:PO X lo tl) (hu:PO X hi th):PE X (.Subscript e (.Slice lo hi none p2) pos) (tSl r te tl th):=by
 intro pins s U H Q I h;refine Subscript_ (thn (he pins s U H _ I h) fun v s1 ⟨x,H1,I1,r1,q1⟩=>?_);refine wpAny_Slice (thn (hl pins s1 U H1 _ I1 q1) fun vl s2 ⟨l,H2,I2,pl,q2⟩=>thn (hu pins s2 U H2 _ I2 q2) fun vu s3 ⟨u,H3,I3,pu,q3⟩=>?_);rw [evalPart_none];refine wpAny_pure ?_;have I4:Inv X pins U H3 { s3 with heap:=s3.heap.push { cls:=.type "slice",data:=.fields #[vl,vu,.none] } }:=I3.kept (t':=s3.toks) fun b ob q=>Heap.get?_push_of_some _ q
 obtain ⟨T,id,hT,ht,hg⟩:=hr pins { s3 with heap:=s3.heap.push { cls:=.type "slice",data:=.fields #[vl,vu,.none] } } U H3 x v vl vu l u s3.heap.objs.size Q I4 r1 (Heap.IsSliceOf.new ..) pl pu q3;show wpAny (model X.prog X.w) X.A (subscriptTail e (.Slice lo hi none p2) v (.ref s3.heap.objs.size)) (EP X pins U Q) X.xe { s3 with heap:=s3.heap.push { cls:=.type "slice",data:=.fields #[vl,vu,.none] } };exact tail_any (ops:=[.ref s3.heap.objs.size,v]) ht hT hg (by with_unfolding_all rfl)
noncomputable def R1 (xs:List V) (lo hi:Option Int):List V:=(xs.drop (HT.sIx xs.length 0 lo)).take (HT.sIx xs.length xs.length hi - HT.sIx xs.length 0 lo)
theorem zP (xs:List V) (lo hi:Option Int):(R1 xs lo hi).length<=xs.length:=by unfold R1;rw [List.length_take,List.length_drop];omega
noncomputable def jA (K:Frag):R2:=fun x y H Q=>∃a b xs ys,x=.ref a/\y=.ref b/\SqT K H a xs/\SqT K H b ys/\xs≠[]/\xs.length+ys.length<=sizeLine /\
 (ys=[]->Q (.ref a) H)/\(ys≠[]->∀p,H p=none->Q (.ref p) (upd H p (.tup (xs++ys))))
theorem Vals.nil_iff {xs:List V} {us:List Value} (r:Vals xs us):us=[]↔xs=[]:=by
 cases r with
 | nil=>simp
 | cons _ _=>simp
theorem wE:OpR X (binaryOp .Add) (jA X.K):=by intro pins s U H x y v u Q I rx ry h;obtain ⟨a,b,xs,ys,rfl,rfl,ha,hb,hx,hz,q1,q2⟩:=h;cases rx;cases ry;obtain ⟨its,r1,p1,_⟩:=I.tuple ha;obtain ⟨its2,r2,p2,_⟩:=I.tuple hb;refine HT.cat_tup p1 p2 (fun z=>hx (r1.nil_iff.mp z)) (fun z=>⟨.ref a,H,I,rfl,q1 (r2.nil_iff.mp z)⟩) (fun z=>?_) (by rw [<-r1.length,<-r2.length];exact hz);refine ⟨.ref s.heap.objs.size,_,I.laid (t':=s.toks) (o:=.tup (xs++ys)) (fun b ob q=>Heap.get?_push_of_some _ q) (Nat.le_refl _) ?_,rfl,q2 (fun w=>z (r2.nil_iff.mpr w)) _ (I.hok.fresh (Nat.le_refl _))⟩;exact ⟨by rw [List.length_append];exact hz,_,r1.append r2,.mk' (Heap.get?_push_size _ rfl)⟩
end
noncomputable def ixN (n:Nat) (i:Int):Option Nat:=if 0<=i then (if i<n then some i.toNat else none) else if -(n:Int)<=i then some (i+n).toNat else none
noncomputable def atI {α:Type} (xs:List α) (i:Int):Option α:=(ixN xs.length i).bind fun j=>xs[j]?
theorem Tp {n:Nat} {i:Int} {j:Nat} (h:ixN n i=some j):seqIndex? i n=some j/\j<n/\-(n:Int)<=i/\i<n:=by
 unfold ixN at h;by_cases h0:0<=i
 . rw [if_pos h0] at h;by_cases h1:i<n
   . rw [if_pos h1] at h;have e:i.toNat=j:=Option.some.inj h;exact ⟨by rw [seqIndex_of h0 h1,e],by omega,by omega,h1⟩
   . rw [if_neg h1] at h;cases h
 . rw [if_neg h0] at h;by_cases h1:-(n:Int)<=i
   . rw [if_pos h1] at h;have e:(i+n).toNat=j:=Option.some.inj h;exact ⟨by rw [seqIndex_neg (by omega) h1,e],by omega,h1,by omega⟩
   . rw [if_neg h1] at h;cases h
theorem Jd {α:Type} {xs:List α} {i:Int} {v:α} (h:atI xs i=some v):∃j,seqIndex? i xs.length=some j/\xs[j]?=some v/\j<xs.length/\-(xs.length:Int)<=i/\i<xs.length:=by
 unfold atI at h;cases e:ixN xs.length i with
 | none=>rw [e] at h;cases h
 | some j=>
  rw [e] at h
  obtain ⟨h1,h2,h3,h4⟩:=Tp e
  exact ⟨j,h1,h,h2,h3,h4⟩
theorem Jc {α:Type} {xs:List α} {j:Nat} {v:α} (h:xs[j]?=some v):atI xs (j:Int)=some v:=by
 have hj:j<xs.length:=(List.getElem?_eq_some_iff.mp h).1;have e:ixN xs.length (j:Int)=some j:=by unfold ixN;rw [if_pos (by omega),if_pos (by omega)];simp
 unfold atI;rw [e];exact h
theorem yc {α:Type} (xs:List α) (v:α):atI (xs++[v]) (-1)=some v:=by
 have hl:(xs++[v]).length=xs.length+1:=by simp
 have e:ixN (xs++[v]).length (-1)=some xs.length:=by unfold ixN;rw [hl,if_neg (by decide),if_pos (by omega)];congr 1;omega
 unfold atI;rw [e];show (xs++[v])[xs.length]?=some v;simp
def Jb (b:Expr):Prop:=∀o i,subscripted b false o i=operate [o,i] (getItem o i)
def IxR (X:Cx) (r:R2):Prop:=
 ∀(value slice:Expr) (pins:List (Addr×Obj)) (s:Shared) (U:St) (H:Hp) (x y:V) (v u:Value) (Q:VK),Inv X pins U H s->RelV x v->RelV y u->r x y H Q ->
  subscripted slice false v u=operate [v,u] (getItem v u)->wpAny (model X.prog X.w) X.A (subscriptTail value slice v u) (EP X pins U Q) X.xe s
def MtR (X:Cx) (id:String) (r:V->List V->Hp->VK->Prop):Prop:=
 ∀(pins:List (Addr×Obj)) (s:Shared) (U:St) (H:Hp) (x:V) (xs:List V) (v:Value) (us:List Value) (Q:VK),Inv X pins U H s->RelV x v->Vals xs us->r x xs H Q ->
  wpAny (model X.prog X.w) X.A (call (.builtin id) (v::us)) (EP X pins U Q) X.xe s
section
variable {X:Cx} {a b:Expr} {ta tb:TE} {pos:Pos}
theorem IxR.or {r r':R2} (h:IxR X r) (h':IxR X r'):IxR X (fun x y H Q=>r x y H Q\/r' x y H Q):=by
 intro value slice pins s U H x y v u Q I rx ry q hs;rcases q with q | q
 . exact h value slice pins s U H x y v u Q I rx ry q hs
 . exact h' value slice pins s U H x y v u Q I rx ry q hs
theorem jz {r:R2} (hr:IxR X r) (ha:PE X a ta) (hb:PE X b tb) (hs:Jb b):PE X (.Subscript a b pos) (tOp r ta tb):=by intro pins s U H Q I h;exact Subscript_ (Eg ha hb I h fun v u s2 x y H2 I2 rx ry q=>hr a b pins s2 U H2 x y v u Q I2 rx ry q (hs _ _))
noncomputable def Zk (K:Frag):R2:=fun x y H Q=>∃p xs i v,x=.ref p/\y=.int i/\SqL K H p xs/\atI xs i=some v/\Q v H
noncomputable def Zj (K:Frag):R2:=fun x y H Q=>∃p xs i v,x=.ref p/\y=.int i/\SqT K H p xs/\atI xs i=some v/\Q v H
noncomputable def Zi:R2:=fun x y H Q=>∃z i c,x=.str z/\y=.int i/\z.length<=sizeLine/\atI z.cps.toList i=some c/\Q (.str ⟨#[c]⟩) H
theorem ix_list:IxR X (Zk X.K):=by
 intro value slice pins s U H x y v u Q I rx ry h hs;obtain ⟨p,xs,i,z,rfl,rfl,hq,he,q⟩:=h;cases rx;obtain ⟨t,rfl⟩:=ry;obtain ⟨its,r,pl,hz⟩:=I.list hq;obtain ⟨j,h1,h2,h3,h4,h5⟩:=Jd he;obtain ⟨w,ew,rw'⟩:=r.get h2;have hl:=r.length;have hn:=O3;have fin:EP X pins U Q w s:=⟨z,H,I,rw',q⟩;by_cases h0:0<=i
 . have hj:i.toNat=j:=by
    rw [seqIndex_of h0 h5] at h1
    exact Option.some.inj h1
   exact item_listR pl.isList h0 (by omega) (by rw [hj];simpa using ew) fin hs
 . have hj:(i+(its.toArray.size:Int)).toNat=j:=by
    rw [seqIndex_neg (by omega) h4] at h1
    rw [List.size_toArray,<-hl]
    exact Option.some.inj h1
   exact subscriptTail_builtinR (x:=w) pl.isList.typeIs slot_list_getitem.lookup
    (wpAny_getItem_list_neg (Q:=fun r s'=>r=w/\EP X pins U Q r s') pl.isList (by omega) (by rw [List.size_toArray]<;>omega) (by omega) (by rw [hj];simpa using ew) ⟨rfl,fin⟩) hs
theorem ix_tup:IxR X (Zj X.K):=by
 intro value slice pins s U H x y v u Q I rx ry h hs;obtain ⟨p,xs,i,z,rfl,rfl,hq,he,q⟩:=h;cases rx;obtain ⟨t,rfl⟩:=ry;obtain ⟨its,r,pl,hz⟩:=I.tuple hq;obtain ⟨j,h1,h2,h3,h4,h5⟩:=Jd he;obtain ⟨w,ew,rw'⟩:=r.get h2;have hl:=r.length;have hn:=O3;have fin:EP X pins U Q w s:=⟨z,H,I,rw',q⟩;exact subscriptTail_builtinR (x:=w) pl.typeIs slot_tuple_getitem.lookup
  (getItem_tuple (j:=j) (Q:=fun r s'=>r=w/\EP X pins U Q r s') pl (by omega) (by omega) (by rw [List.size_toArray,<-hl];exact h1) (by simpa using ew) ⟨rfl,fin⟩) hs
theorem qN:IxR X Zi:=by
 intro value slice pins s U H x y v u Q I rx ry h hs;obtain ⟨z,i,c,rfl,rfl,hz,he,q⟩:=h;obtain ⟨t,rfl⟩:=rx;obtain ⟨t',rfl⟩:=ry;obtain ⟨j,h1,h2,h3,h4,h5⟩:=Jd he;have hl:z.cps.toList.length=z.length:=by simp [Str.length]
 rw [hl] at h1 h4 h5;have hn:=O3;exact tail_any (typeIs_str s z t) slot_str_getitem.lookup (getItem_str (c:=c) (by have e1:decide (i < -(2 ^ 63:Int))=false:=decide_eq_false (by omega);have e2:decide (i ≥ 2 ^ 63)=false:=decide_eq_false (by omega);rw [e1,e2,Bool.or_false]) (by rw [h1];simpa using h2) ⟨.str ⟨#[c]⟩,H,I.tok _,⟨_,rfl⟩,q⟩) hs
noncomputable def rIx (K:Frag):R2:=fun x y H Q=>Zk K x y H Q\/Zj K x y H Q\/Zi x y H Q
theorem ix_seq:IxR X (rIx X.K):=ix_list.or (ix_tup.or qN)
theorem zu (its:List Value) (n j:Nat) (u:Value):Obj.mapSeq (·.setIfInBounds j u) { cls:=.type "list",data:=.seq its.toArray n }={ cls:=.type "list",data:=.seq (its.set j u).toArray n }:=by simp [Obj.mapSeq]
theorem Inv.lst {pins:List (Addr×Obj)} {U:St} {H:Hp} {s:Shared} {p:Addr} {xs:List V} (I:Inv X pins U H s) (h:H p=some (.lst xs)) :
  ∃(its:List Value) (n:Nat),Vals xs its/\s.heap.get? p=some { cls:=.type "list",data:=.seq its.toArray n }/\xs.length<=sizeLine:=by
 obtain ⟨z,its,n,r,e⟩:=I.hok p _ h
 exact ⟨its,n,r,e,z⟩
theorem Inv.lstUpd {pins:List (Addr×Obj)} {U:St} {H:Hp} {s:Shared} {p:Addr} {xs ys:List V} {its its':List Value} {n n':Nat} {f:Obj->Obj} (I:Inv X pins U H s) (h:H p=some (.lst xs))
  (ho:s.heap.get? p=some { cls:=.type "list",data:=.seq its.toArray n }) (hf:f { cls:=.type "list",data:=.seq its.toArray n }={ cls:=.type "list",data:=.seq its'.toArray n' }) (r:Vals ys its') (hz:ys.length<=sizeLine) (t:Nat) :
  Inv X pins U (upd H p (.lst ys)) { s with heap:=s.heap.update p f,toks:=t }:=by
 have e:(s.heap.update p f).get? p=some { cls:=.type "list",data:=.seq its'.toArray n' }:=by rw [Heap.get?_update_self f ho (by rw [hf]<;>rfl),hf]
 refine I.write (x:=p) (e:=p) (by rw [h];trivial) (.inl rfl) (fun b u hb q=>(Heap.get?_update_other _ _ (Ne.symm hb)).trans q) ⟨_,e⟩ ?_
 exact ⟨hz,its',n',r,e⟩
def Nx:V->V->V->Hp->(Hp->Prop)->Prop:=fun o i v H Q=>∃p xs k j,o=.ref p/\i=.int k/\H p=some (.lst xs)/\ixN xs.length k=some j/\Q (upd H p (.lst (xs.set j v)))
theorem yb:Bk X Nx:=by
 intro pins s U H o i v ov iv u Q I ro ri rv h;obtain ⟨p,xs,k,j,rfl,rfl,hp,hj,q⟩:=h;cases ro;obtain ⟨t,rfl⟩:=ri;obtain ⟨its,n,r,ho,hz⟩:=I.lst hp;obtain ⟨h1,h2,h3,h4⟩:=Tp hj;have hl:=r.length;have hn:=O3;have I':Inv X pins U (upd H p (.lst (xs.set j v))) { s with heap:=s.heap.update p (Obj.mapSeq (·.setIfInBounds j u)) }:=
  I.lstUpd hp ho (zu its n j u) (r.set rv j) (by rw [List.length_set];exact hz) s.toks
 by_cases h0:0<=k
 . have hk:k.toNat=j:=by
    rw [seqIndex_of h0 h4] at h1
    exact Option.some.inj h1
   exact PySem.W.ki_setAt ho h0 (by omega) (by rw [List.size_toArray,<-hl];exact h4) (by rw [hk];exact ⟨_,I',q⟩)
 . have hk:(k+(its.toArray.size:Int)).toNat=j:=by
    rw [seqIndex_neg (by omega) h3] at h1
    rw [List.size_toArray,<-hl]
    exact Option.some.inj h1
   exact PySem.W.ki_setBack ho (by omega) (by rw [List.size_toArray,<-hl];exact h3) (by omega) (by rw [hk];exact ⟨_,I',q⟩)
theorem zav (lo hi:Option Int) (n:Nat):(sliceBounds lo hi none n).1=((HT.sIx n 0 lo:Nat):Int)/\(sliceBounds lo hi none n).2.1=((HT.sIx n n hi:Nat):Int)/\(sliceBounds lo hi none n).2.2=1:=by
 refine ⟨?_,?_,rfl⟩
 . cases lo with
   | none=>simp [sliceBounds,HT.sIx]
   | some i=>
    simp only [sliceBounds,HT.sIx,Option.getD_none,show (1:Int) > 0 by decide,if_true]
    by_cases h:i<0
    . simp only [h,if_true]<;>omega
    . simp only [h,if_false]<;>omega
 . cases hi with
   | none=>simp [sliceBounds,HT.sIx]
   | some i=>
    simp only [sliceBounds,HT.sIx,Option.getD_none,show (1:Int) > 0 by decide,if_true]
    by_cases h:i<0
    . simp only [h,if_true]<;>omega
    . simp only [h,if_false]<;>omega
theorem z99 (its:List Value) (lo hi:Option Int):slicePick its.toArray lo hi none=((its.drop (HT.sIx its.length 0 lo)).take (HT.sIx its.length its.length hi - HT.sIx its.length 0 lo)).toArray:=by obtain ⟨h1,h2,h3⟩:=zav lo hi its.toArray.size;unfold slicePick;rw [h1,h2,h3];simp only [sliceRange_one,pick_run,List.size_toArray]<;>rfl
def Zh (K:Frag):V->Option Int->Option Int->Hp->VK->Prop:=fun x lo hi H Q=>∃a xs,x=.ref a/\SqL K H a xs/\∀p,H p=none->Q (.ref p) (upd H p (.lst (R1 xs lo hi)))
theorem To:SlR X (Zh X.K):=by intro pins s U H x v vl vu lo hi sl Q I rx hs pl pu h;obtain ⟨a,xs,rfl,hx,q⟩:=h;cases rx;obtain ⟨its,r,ht,hz⟩:=I.list hx;have hlen:=r.length;refine ⟨"list",_,slot_list_getitem.lookup,ht.isList.typeIs,?_⟩;refine wpAny_getItem_list_slice ht.isList hs pl pu .none (by simp) ?_ (by rw [List.size_toArray]<;>omega);rw [z99,<-hlen];refine ⟨.ref s.heap.objs.size,_,I.laid (t':=s.toks) (o:=.lst (R1 xs lo hi)) (fun b ob q=>Heap.get?_push_of_some _ q) (Nat.le_refl _) ?_,rfl,q _ (I.hok.fresh (Nat.le_refl _))⟩;exact ⟨Nat.le_trans (zP xs lo hi) hz,_,0,(r.drop (HT.sIx xs.length 0 lo)).take (HT.sIx xs.length xs.length hi - HT.sIx xs.length 0 lo),Heap.get?_push_size _ rfl⟩
theorem call_len_seq:CallR X (.builtin "len") (fun xs H Q=>∃p ys,xs=[.ref p]/\(SqL X.K H p ys\/SqT X.K H p ys)/\Q (.int ys.length) H):=by
 intro pins s U H xs us Q I r h;obtain ⟨p,ys,rfl,hq,q⟩:=h;obtain ⟨u,rfl,rx⟩:=t9 r;cases rx;have hn:=O3;rcases hq with hq | hq
 . obtain ⟨its,r',pl,hz⟩:=I.list hq;have hlen:=r'.length;exact Calls.call_len_list pl.isList (by simp only [List.size_toArray]<;>omega) ⟨.int ys.length,H,I.tok _,⟨s.toks+1,by rw [List.size_toArray,hlen]⟩,q⟩
 . obtain ⟨its,r',pl,hz⟩:=I.tuple hq;have hlen:=r'.length;exact len_tuple pl (by simp only [List.size_toArray]<;>omega) ⟨.int ys.length,H,I.tok _,⟨s.toks+1,by rw [List.size_toArray,hlen]⟩,q⟩
theorem zaw:CallR X (.builtin "len") (fun xs H Q=>∃z,xs=[.str z]/\z.length<=sizeLine/\Q (.int z.length) H):=by intro pins s U H xs us Q I r h;obtain ⟨z,rfl,hz,q⟩:=h;obtain ⟨u,rfl,t,rfl⟩:=t9 r;have hn:=O3;exact len_str (by omega) ⟨.int z.length,H,I.tok _,⟨_,rfl⟩,q⟩
theorem CallR.or {f:Value} {r r':List V->Hp->VK->Prop} (h:CallR X f r) (h':CallR X f r'):CallR X f (fun xs H Q=>r xs H Q\/r' xs H Q):=by
 intro pins s U H xs us Q I rs q;rcases q with q | q
 . exact h pins s U H xs us Q I rs q
 . exact h' pins s U H xs us Q I rs q
theorem zax:CallR X (.type "list") (fun xs H Q=>∃p ys,xs=[.ref p]/\(SqL X.K H p ys\/SqT X.K H p ys)/\∀l,H l=none->Q (.ref l) (upd H l (.lst ys))):=by
 intro pins s U H xs us Q I r h;obtain ⟨p,ys,rfl,hq,q⟩:=h;obtain ⟨u,rfl,rx⟩:=t9 r;cases rx;have fin:∀(its:List Value),Vals ys its->ys.length<=sizeLine->∀(h':Heap) (c':Nat),(∀b o',s.heap.get? b=some o'->h'.get? b=some o') ->
   h'.get? s.heap.objs.size=some { cls:=.type "list",dict:=none,data:=.seq its.toArray c',slots:=#[] }->EP X pins U Q (.ref s.heap.objs.size) { s with heap:=h' }:=fun its r' hz h' c' kp e=>
  ⟨.ref s.heap.objs.size,_,I.laid (t':=s.toks) kp (Nat.le_refl _) (show ObjOk X.prog X.w _ h' _ (.lst ys) from ⟨hz,its,c',r',e⟩),rfl,q _ (I.hok.fresh (Nat.le_refl _))⟩
 rcases hq with hq | hq
 . obtain ⟨its,r',pl,hz⟩:=I.list hq;have hlen:=r'.length;obtain ⟨o,ho,hc,n,hd⟩:=pl.isList;exact call_list_seq p (.inl rfl) ho hc hd (fun h' c' kp e=>fin its r' hz h' c' kp e) (by simp only [List.size_toArray]<;>omega)
 . obtain ⟨its,r',pl,hz⟩:=I.tuple hq;have hlen:=r'.length;obtain ⟨o,ho,hc,n,hd⟩:=pl;exact call_list_seq p (.inr rfl) ho hc hd (fun h' c' kp e=>fin its r' hz h' c' kp e) (by simp only [List.size_toArray]<;>omega)
theorem z9a:CallR X (.type "tuple") (fun xs H Q=>∃p ys,xs=[.ref p]/\((SqL X.K H p ys/\∀l,H l=none->Q (.ref l) (upd H l (.tup ys)))\/(SqT X.K H p ys/\Q (.ref p) H))):=by
 intro pins s U H xs us Q I r h;obtain ⟨p,ys,rfl,h⟩:=h;obtain ⟨u,rfl,rx⟩:=t9 r;cases rx;rcases h with ⟨hq,q⟩ | ⟨hq,q⟩
 . obtain ⟨its,r',pl,hz⟩:=I.list hq;have hlen:=r'.length;refine call_tuple_list pl.isList (fun h' kp=>?_) (by simp only [List.size_toArray]<;>omega);have I1:Inv X pins U H { s with heap:=h' }:=I.kept (t':=s.toks) kp;have I2:Inv X pins U (upd H h'.objs.size (.tup ys)) { s with heap:=h'.push { cls:=.type "tuple",data:=.seq its.toArray } }:=
    I1.laid (t':=s.toks) (fun b o e=>Heap.get?_push_of_some _ e) (Nat.le_refl _) (show ObjOk X.prog X.w _ _ _ (.tup ys) from ⟨hz,its,r',.mk' (Heap.get?_push_size _ rfl)⟩)
   exact ⟨.ref h'.objs.size,_,I2,rfl,q _ (I1.hok.fresh (Nat.le_refl _))⟩
 . obtain ⟨its,r',pl,hz⟩:=I.tuple hq;exact call_tuple_same pl ⟨.ref p,H,I,rfl,q⟩
def tyV (K:Frag) (T:String) (x:V) (H:Hp):Prop:=match x with
 | .str _=>T="str"
 | .int _=>T="int"
 | .ref p=>(T="list"/\∃xs,SqL K H p xs)\/(T="tuple"/\∃o,K.lookup p=some o/\o.cls=.type "tuple"/\o.dict=none) \/
  (T="dict"/\((∃kvs,H p=some (.dK kvs))\/∃kvs,H p=some (.dT kvs)))\/(T="set"/\∃S n,H p=some (.set S n))
 | _=>False
theorem qM {pins:List (Addr×Obj)} {U:St} {H:Hp} {s:Shared} {T:String} {x:V} {v:Value} (I:Inv X pins U H s) (r:RelV x v) (ty:tyV X.K T x H) :
  s.TypeIs v T/\∀a,v=.ref a->∃ob,s.heap.get? a=some ob/\ob.dict=none:=by
 cases x with
 | str z=>
  obtain ⟨t,rfl⟩:=r
  cases (show T="str" from ty)
  exact ⟨typeIs_str s z t,fun _ e=>nomatch e⟩
 | int i=>
  obtain ⟨t,rfl⟩:=r
  cases (show T="int" from ty)
  exact ⟨typeIs_int s i t,fun _ e=>nomatch e⟩
 | ref p=>
  cases r
  rcases ty with ⟨rfl,xs,hq⟩ | ⟨rfl,o,hk,hc,hd⟩ | ⟨rfl,hk⟩ | ⟨rfl,S,n,hk⟩
  . obtain ⟨its,_,pl,_⟩:=I.list hq;refine ⟨pl.isList.typeIs,fun a e=>?_⟩;cases e;obtain ⟨o,n,e,c,hd,_⟩:=pl;exact ⟨o,e,hd⟩
  . refine ⟨⟨o,I.kIn p o hk,hc⟩,fun a e=>?_⟩;cases e;exact ⟨o,I.kIn _ o hk,hd⟩
  . have z:∃o,s.heap.get? p=some o/\o.ExactDict:=by
     rcases hk with ⟨kvs,hk⟩ | ⟨kvs,hk⟩
     . obtain ⟨_,_,_,_,o,_,_,e,ex,_⟩:=I.hok p _ hk;exact ⟨o,e,ex⟩
     . obtain ⟨_,_,_,_,o,_,_,e,ex,_⟩:=I.hok p _ hk;exact ⟨o,e,ex⟩
    obtain ⟨o,e,ex⟩:=z
    refine ⟨⟨o,e,ex.1⟩,fun a e2=>?_⟩
    cases e2
    exact ⟨o,e,ex.2.1⟩
  . obtain ⟨o,_,_,_,e,ex,_⟩:=I.hok p _ hk;refine ⟨⟨o,e,ex.1⟩,fun a e2=>?_⟩;cases e2;exact ⟨o,e,ex.2.1⟩
 | _=>exact False.elim ty
noncomputable def tBM (K:Frag) (T:String) (r:V->List V->Hp->VK->Prop) (to:TE) (t:TA):TE:=fun U H Q=>to U H fun x H1=>tyV K T x H1/\t U H1 fun xs H2=>r x xs H2 Q
variable {o e:Expr} {es:List Expr} {to:TE} {t:TA} {name:Str} {apos cpos:Pos} {T id:String} {r:V->List V->Hp->VK->Prop}
theorem Fn (pa:PlainAttrs T) (slot:Slot T name id) (hty:typeOf (.builtin id)=pure (.type "method_descriptor")) (hm:MtR X id r) (ho:PE X o to) (ha:PA X (e::es) t)
  (hbase:attributeBase o name X.env (eval o X.env)=eval o X.env:=by rfl)
  (hfew:((backTo cpos (starEach (e::es) X.env)).all (fun x=>!x.1)&&(backToKw cpos (keywordEach [] X.env)).all (fun x=>x.1.isSome)
   && decide ((e::es).length+([]:List Keyword).length+(if ([]:List Keyword).isEmpty then 0 else 1)<30))=true:=by rfl)
  (hline:(apos.endLine==cpos.line)=true:=by rfl) (hs:starEach (e::es) X.env=(false,eval e X.env)::starEach es X.env:=by rfl) (hplain:(backTo cpos (starEach es X.env)).any (·.1)=false:=by rfl) :
  PE X (.Call (.Attribute o name apos) (e::es) [] cpos) (tBM X.K T r to t):=by
 intro pins s U H Q I h
 refine wpAny_Call_method_late hbase hfew hline rfl (thn (ho pins s U H _ I h) fun v s1 ⟨x,H1,I1,r1,ty,q1⟩=>?_)
 obtain ⟨h1,h2⟩:=qM I1 r1 ty
 refine ⟨T,id,pa,slot,hty,h1,h2,?_⟩
 have hA:=ha cpos pins s1 U H1 _ I1 q1
 rw [hs] at hA ⊢
 refine Calls.callWith_builtin (by show (false||(backTo cpos (starEach es X.env)).any (·.1))=false;rw [hplain]<;>rfl) (Calls.evalArgs_plain ?_)
 exact thn hA fun us s2 ⟨vs,H2,I2,r2,q2⟩=>hm pins s2 U H2 x vs v us Q I2 r1 r2 q2
end
def MtM (X:Cx) (id:String) (r:V->List V->Hp->VK->Prop):Prop:=
 ∀(pins:List (Addr×Obj)) (s:Shared) (U:St) (H:Hp) (x:V) (xs:List V) (v:Value) (us:List Value) (Q:VK),Inv X pins U H s->RelV x v->Vals xs us->r x xs H Q ->
  wpAny (model X.prog X.w) X.A (call (.builtin id) (v::us)) (EP X pins U Q) X.xe s
theorem Vals.one:∀{x:V} {us:List Value},Vals [x] us->∃u,us=[u]/\RelV x u
 | _,_,.cons r .nil=>⟨_,rfl,r⟩
theorem Vals.two:∀{x y:V} {us:List Value},Vals [x,y] us->∃u v,us=[u,v]/\RelV x u/\RelV y v
 | _,_,_,.cons r (.cons q .nil)=>⟨_,_,rfl,r,q⟩
section
variable {X:Cx} {pins:List (Addr×Obj)} {U:St} {H:Hp} {s:Shared} {l:Addr} {xs ys:List V}
theorem Inv.lset {its its':List Value} {n:Nat} {f:Array Value->Array Value} {t':Nat} (I:Inv X pins U H s) (hH:H l=some (.lst xs))
  (e:s.heap.get? l=some { cls:=.type "list",data:=.seq its.toArray n }) (hf:f its.toArray=its'.toArray) (hv:Vals ys its') (hz:ys.length<=sizeLine) :
  Inv X pins U (upd H l (.lst ys)) { s with heap:=s.heap.update l (Obj.mapSeq f),toks:=t' }:=by
 have q:=PySem.IsL.update e f
 rw [hf] at q
 refine I.write (x:=l) (e:=l) (by rw [hH];exact trivial) (.inl rfl) (fun b' u hb hu=>(Heap.get?_update_other s.heap (Obj.mapSeq f) (Ne.symm hb)).trans hu) ⟨_,q⟩ ?_
 exact ⟨hz,its',_,hv,q⟩
theorem Inv.lnew {its:List Value} {t':Nat} (I:Inv X pins U H s) (hv:Vals ys its) (hz:ys.length<=sizeLine) :
  Inv X pins U (upd H s.heap.objs.size (.lst ys)) { s with heap:=s.heap.push { cls:=.type "list",data:=.seq its.toArray },toks:=t' }:=
 I.laid (fun _ _ q=>Heap.get?_push_of_some _ q) (Nat.le_refl _) ⟨hz,its,0,hv,Heap.get?_push_size _ rfl⟩
theorem Inv.fresh (I:Inv X pins U H s):H s.heap.objs.size=none:=I.hok.fresh (Nat.le_refl _)
theorem Inv.lstM (I:Inv X pins U H s) (hH:H l=some (.lst xs)):xs.length<=sizeLine/\∃(its:List Value) (n:Nat),Vals xs its/\xs.length=its.length/\s.heap.get? l=some { cls:=.type "list",data:=.seq its.toArray n }:=by obtain ⟨z,its,n,r,e⟩:=I.hok l _ hH;exact ⟨z,its,n,r,r.length,e⟩
theorem ya {n:Nat} (h:n<=sizeLine):Builtin.List.listTooLong n=false:=by unfold Builtin.List.listTooLong;exact decide_eq_false (by omega)
end
section
variable {X:Cx}
def Tn:V->List V->Hp->VK->Prop:=fun x vs H Q=>∃l xs y,x=.ref l/\vs=[y]/\H l=some (.lst xs)/\xs.length<sizeLine/\Q .non (upd H l (.lst (xs++[y])))
theorem U4:MtM X "list.append" Tn:=by intro pins s U H x vs v us Q I rx rv h;obtain ⟨l,xs,y,rfl,rfl,hH,hz,q⟩:=h;cases rx;obtain ⟨u,rfl,ru⟩:=rv.one;obtain ⟨z,its,n,r,hl,e⟩:=I.lstM hH;refine call_meets F.slot_list_append ⟨_,e,rfl⟩ F.entry_list_append (F.args_list_append_2 _ _) (PySem.list_append l its.toArray n u (by rw [List.size_toArray];omega)) ⟨e,?_⟩;refine ⟨.non,_,I.lset (its':=its++[u]) hH e (by simp) (r.append (.cons ru .nil)) ?_,rfl,q⟩;rw [List.length_append,List.length_singleton];omega
def Tl:V->List V->Hp->VK->Prop:=fun x vs H Q=>∃l b xs zs,x=.ref l/\vs=[.ref b]/\H l=some (.lst xs)/\H b=some (.lst zs)/\xs.length+zs.length<=sizeLine/\Q .non (upd H l (.lst (xs++zs)))
theorem yV:MtM X "list.extend" Tl:=by
 intro pins s U H x vs v us Q I rx rv h;obtain ⟨l,b,xs,zs,rfl,rfl,hH,hB,hz,q⟩:=h;cases rx;obtain ⟨u,rfl,ru⟩:=rv.one;cases ru;obtain ⟨z,its,n,r,hl,e⟩:=I.lstM hH;obtain ⟨z2,its2,n2,r2,hl2,e2⟩:=I.lstM hB;have hsz:its.toArray.size+its2.toArray.size<=sizeLine:=by rw [List.size_toArray,List.size_toArray];omega
 have hlong:¬(!its.toArray.isEmpty&&Builtin.List.listTooLong (its.toArray.size+its2.toArray.size))=true:=by rw [ya hsz,Bool.and_false];exact Bool.false_ne_true
 refine call_meets F.slot_list_extend ⟨_,e,rfl⟩ F.entry_list_extend (F.args_list_extend_2 _ _)
  (AutoSeq1.list_extend_list_list_0 l its.toArray n b its2.toArray n2 hlong (by rw [List.size_toArray];omega) (by omega)) ⟨e,e2,?_⟩
 refine ⟨.non,_,I.lset (its':=its++its2) hH e (by simp) (r.append r2) ?_,rfl,q⟩;rw [List.length_append];omega
noncomputable def Zg:R2:=fun x y H Q=>∃l b xs zs,x=.ref l/\y=.ref b/\H l=some (.lst xs)/\H b=some (.lst zs)/\xs.length+zs.length<=sizeLine/\∀p,H p=none->Q (.ref p) (upd H p (.lst (xs++zs)))
theorem Cl:OpR X (binaryOp .Add) Zg:=by
 intro pins s U H x y v u Q I rx ry h;obtain ⟨l,b,xs,zs,rfl,rfl,hH,hB,hz,q⟩:=h;cases rx;cases ry;obtain ⟨z,its,n,r,hl,e⟩:=I.lstM hH;obtain ⟨z2,its2,n2,r2,hl2,e2⟩:=I.lstM hB;refine PySem.P.add_list e e2 ?_ (by rw [List.size_toArray,List.size_toArray];omega);have ea:its.toArray++its2.toArray=(its++its2).toArray:=by simp
 rw [ea];exact ⟨.ref _,_,I.lnew (t':=s.toks) (r.append r2) (by rw [List.length_append];omega),rfl,q _ I.fresh⟩
end
section
variable {κ:Type} [DecidableEq κ]
noncomputable def u7 (kvs:List (κ×V)) (k:κ):Option V:=(kvs.find? fun kv=>decide (kv.1=k)).map (·.2)
noncomputable def v5 (kvs:List (κ×V)) (k:κ) (v:V):List (κ×V):=
 if (kvs.any fun kv=>decide (kv.1=k))=true then kvs.map (fun kv=>if kv.1=k then (kv.1,v) else kv) else kvs++[(k,v)]
theorem Ju {p:κ×V} {r:List (κ×V)} {k:κ} (e:p.1=k):u7 (p::r) k=some p.2:=by simp [u7,List.find?_cons,e]
theorem Jt {p:κ×V} {r:List (κ×V)} {k:κ} (e:¬p.1=k):u7 (p::r) k=u7 r k:=by simp [u7,List.find?_cons,e]
theorem Ur (k:κ):∀kvs:List (κ×V),(kvs.any fun kv=>decide (kv.1=k))=(u7 kvs k).isSome
 | []=>rfl
 | p::r=>by
  rw [List.any_cons];by_cases e:p.1=k
  . simp only [Ju e,decide_eq_true e,Bool.true_or,Option.isSome_some]
  . rw [Jt e,decide_eq_false e,Bool.false_or];exact Ur k r
theorem Xb (kvs:List (κ×V)) (k:κ) (v:V):(v5 kvs k v).length<=kvs.length+1:=by
 unfold v5;split
 . rw [List.length_map];omega
 . rw [List.length_append,List.length_cons,List.length_nil];omega
theorem RelO.isSome_eq {o:Option V} {u:Option Value} (r:RelO o u):o.isSome=u.isSome:=by
 cases o with
 | none=>cases u with
  | none=>rfl
  | some _=>exact (show False from r).elim
 | some _=>cases u with
  | none=>exact (show False from r).elim
  | some _=>rfl
theorem KV.val {kvs:List (κ×V)} {vs:List (κ×Value)} (r:KV kvs vs) (k:κ):RelO (u7 kvs k) (valueAt vs k):=by
 unfold KV at r;induction r with
 | nil=>exact True.intro
 | @cons p q ps qs h t ih=>
  obtain ⟨h1,h2⟩:=h
  by_cases e:p.1=k
  . have e':q.1=k:=h1.symm.trans e;have b:valueAt (q::qs) k=some q.2:=by simp [valueAt,List.find?_cons,e']
    rw [Ju e,b];exact h2
  . have e':¬q.1=k:=fun z=>e (h1.trans z)
    have b:valueAt (q::qs) k=valueAt qs k:=by simp [valueAt,List.find?_cons,e']
    rw [Jt e,b];exact ih
theorem KV.any {kvs:List (κ×V)} {vs:List (κ×Value)} (r:KV kvs vs) (k:κ):(kvs.any fun kv=>decide (kv.1=k))=vs.any fun kv=>decide (kv.1=k):=by
 unfold KV at r;induction r with
 | nil=>rfl
 | cons h t ih=>rw [List.any_cons,List.any_cons,ih,h.1]
theorem KV.repl {kvs:List (κ×V)} {vs:List (κ×Value)} (r:KV kvs vs) (k:κ) {y:V} {u:Value} (ry:RelV y u) :
  KV (kvs.map fun kv=>if kv.1=k then (kv.1,y) else kv) (vs.map fun kv=>if kv.1=k then (kv.1,u) else kv):=by
 unfold KV at r ⊢
 induction r with
 | nil=>exact .nil
 | @cons p q ps qs h t ih=>
  rw [List.map_cons,List.map_cons]
  refine .cons ?_ ih
  obtain ⟨h1,h2⟩:=h
  by_cases e:p.1=k
  . rw [if_pos e,if_pos (h1.symm.trans e)];exact ⟨h1,ry⟩
  . rw [if_neg e,if_neg (fun z=>e (h1.trans z))];exact ⟨h1,h2⟩
theorem KV.put {kvs:List (κ×V)} {vs:List (κ×Value)} (r:KV kvs vs) (k:κ) {y:V} {u:Value} (ry:RelV y u):KV (v5 kvs k y) (stored vs k u):=by
 unfold v5 stored;rw [r.any k];by_cases e:(vs.any fun kv=>decide (kv.1=k))=true
 . rw [if_pos e,if_pos e];exact r.repl k ry
 . rw [if_neg e,if_neg e];exact Paired.snoc r ⟨rfl,ry⟩
theorem KV.length {kvs:List (κ×V)} {vs:List (κ×Value)} (r:KV kvs vs):kvs.length=vs.length:=Paired.length r
end
theorem X5 {P:Program} {w:World} {k:Key} {u:Value} (r:RelV (kV k) u):(w6 P w).is k u=true:=by
 cases k with
 | inl i=>obtain ⟨t,e⟩:=(show ∃t,u=Value.int i t from r);subst e;exact zR P w i t
 | inr x=>obtain ⟨t,e⟩:=(show ∃t,u=Value.str x t from r);subst e;exact zQ P w x t
theorem Vv {P:Program} {w:World}:∀{ks:List Key} {us:List Value},Vals (ks.map kV) us->ItemsAre (w6 P w) ks us
 | [],_,r=>by rw [List.map_nil] at r;cases r;exact .nil
 | k::ks,_,r=>by
  rw [List.map_cons] at r;cases r with
  | cons h t=>exact .cons (X5 h) (Vv t)
abbrev KT (H:Hp):List (List Key×V)->List (List Key×Addr×Value)->Prop:=Paired fun p q=>p.1=q.1/\H q.2.1=some (.tup (p.1.map kV))/\RelV p.2 q.2.2
theorem KT.val {H:Hp} {kvs:List (List Key×V)} {xs:List (List Key×Addr×Value)} (r:KT H kvs xs) (k:List Key):RelO (u7 kvs k) ((atKey xs k).map (·.2)):=by
 induction r with
 | nil=>exact True.intro
 | @cons p q ps qs h t ih=>
  obtain ⟨h1,_,h2⟩:=h
  by_cases e:p.1=k
  . have e':q.1=k:=h1.symm.trans e;have b:atKey (q::qs) k=some q.2:=by simp [atKey,List.find?_cons,e']
    rw [Ju e,b];exact h2
  . have e':¬q.1=k:=fun z=>e (h1.trans z)
    have b:atKey (q::qs) k=atKey qs k:=by simp [atKey,List.find?_cons,e']
    rw [Jt e,b];exact ih
theorem KT.repl {H:Hp} {kvs:List (List Key×V)} {xs:List (List Key×Addr×Value)} (r:KT H kvs xs) (k:List Key) {y:V} {u:Value} (ry:RelV y u) :
  KT H (kvs.map fun kv=>if kv.1=k then (kv.1,y) else kv) (xs.map (putAt k u)):=by
 induction r with
 | nil=>exact .nil
 | @cons p q ps qs h t ih=>
  rw [List.map_cons,List.map_cons]
  refine .cons ?_ ih
  obtain ⟨h1,h2,h3⟩:=h
  unfold putAt
  by_cases e:p.1=k
  . rw [if_pos e,if_pos (h1.symm.trans e)];exact ⟨h1,h2,ry⟩
  . rw [if_neg e,if_neg (fun z=>e (h1.trans z))];exact ⟨h1,h2,h3⟩
theorem KT.put {H:Hp} {kvs:List (List Key×V)} {xs:List (List Key×Addr×Value)} (r:KT H kvs xs) (k:List Key) {b:Addr} {y:V} {u:Value} (hb:H b=some (.tup (k.map kV))) (ry:RelV y u) :
  KT H (v5 kvs k y) (storedH xs k b u):=by
 have e:(kvs.any fun kv=>decide (kv.1=k))=(atKey xs k).isSome:=by rw [Ur,(r.val k).isSome_eq,Option.isSome_map]
 unfold v5 storedH
 rw [e]
 by_cases q:(atKey xs k).isSome=true
 . rw [if_pos q,if_pos q];exact r.repl k ry
 . rw [if_neg q,if_neg q];exact Paired.snoc r ⟨rfl,hb,ry⟩
theorem KT.keeps {H H':Hp} {kvs:List (List Key×V)} {xs:List (List Key×Addr×Value)} (r:KT H kvs xs) (ht:∀b ys,H b=some (.tup ys)->H' b=some (.tup ys)):KT H' kvs xs:=
 Paired.mapP r fun _ _ z=>⟨z.1,ht _ _ z.2.1,z.2.2⟩
section
variable {P:Program} {w:World} {H:Hp} {h:Heap} {a:Addr}
theorem Nw {u:HO} (ok:HOk P w H h) (e:Rd H a u):ObjOk P w H h a u:=e.ok ok
theorem S5 {kvs:List (Key×V)} (ok:HOk P w H h) (e:Rd H a (.dK kvs)):kvs.length<=sizeLine/\(a==sysModules)=false/\∃vs,KV kvs vs/\h.DictOf (w6 P w) a vs:=
 show ObjOk P w H h a (.dK kvs) from Nw ok e
theorem jy {kvs:List (Key×V)} (ok:HOk P w H h) (e:H a=some (.dK kvs)):kvs.length<=sizeLine/\(a==sysModules)=false/\∃vs,KV kvs vs/\h.DictOf (w6 P w) a vs:=S5 ok (.inl e)
theorem Y7 {ks:List Key} (ok:HOk P w H h) (e:H a=some (.tup (ks.map kV))):(tupleKind (w6 P w)).is h ks a:=by obtain ⟨_,its,r,o,h1,h2,⟨n,h3⟩,_⟩:=(show ObjOk P w H h a (.tup (ks.map kV)) from ok a _ e);exact ⟨o,its.toArray,n,h1,h2,h3,by simpa using Vv r⟩
theorem X4 {kvs:List (List Key×V)} (ok:HOk P w H h) (e:Rd H a (.dT kvs)):kvs.length<=sizeLine/\(a==sysModules)=false /\
  ∃xs,KT H kvs xs/\h.DictOfH (tupleKind (w6 P w)) a xs:=by
 obtain ⟨z,y,xs,r,o,es,ep,h1,h2,h3,h4,h5⟩:=(show ObjOk P w H h a (.dT kvs) from Nw ok e)
 refine ⟨z,y,xs,r,o,es,ep,h1,h2,h3,h4,fun x hx=>?_,h5⟩
 have all:∀{l:List (List Key×V)} {m:List (List Key×Addr×Value)},KT H l m->∀x∈m,(tupleKind (w6 P w)).is h x.1 x.2.1:=by
  intro l m q;induction q with
  | nil=>intro x hx;exact nomatch hx
  | @cons p q ps qs hq t ih=>
   intro x hx
   rcases List.mem_cons.mp hx with e | hx
   . subst e;exact Y7 ok (by rw [<-hq.1];exact hq.2.1)
   . exact ih x hx
 exact all r x hx
theorem jx {kvs:List (List Key×V)} (ok:HOk P w H h) (e:H a=some (.dT kvs)):kvs.length<=sizeLine/\(a==sysModules)=false /\
 ∃xs,KT H kvs xs/\h.DictOfH (tupleKind (w6 P w)) a xs:=X4 ok (.inl e)
end
def DGet (H:Hp) (a:Addr) (y:V) (r:Option V):Prop:=
 (∃kvs k,Rd H a (.dK kvs)/\y=kV k/\r=u7 kvs k)\/∃kvs k b,Rd H a (.dT kvs)/\y=.ref b/\H b=some (.tup (k.map kV))/\r=u7 kvs k
def DPut (H:Hp) (a:Addr) (y v:V) (H':Hp):Prop:=
 (∃kvs k,H a=some (.dK kvs)/\y=kV k/\kvs.length<sizeLine/\H'=upd H a (.dK (v5 kvs k v))) \/
 ∃kvs k b,H a=some (.dT kvs)/\y=.ref b/\H b=some (.tup (k.map kV))/\kvs.length<sizeLine/\H'=upd H a (.dT (v5 kvs k v))
theorem DGet.k {H:Hp} {a:Addr} {kvs:List (Key×V)} {k:Key} (e:H a=some (.dK kvs)):DGet H a (kV k) (u7 kvs k):=.inl ⟨kvs,k,.inl e,rfl,rfl⟩
theorem DGet.t {H:Hp} {a b:Addr} {kvs:List (List Key×V)} {k:List Key} (e:H a=some (.dT kvs)) (eb:H b=some (.tup (k.map kV))):DGet H a (.ref b) (u7 kvs k):=.inr ⟨kvs,k,b,.inl e,rfl,eb,rfl⟩
theorem DPut.k {H:Hp} {a:Addr} {kvs:List (Key×V)} {k:Key} {v:V} (e:H a=some (.dK kvs)) (hl:kvs.length<sizeLine):DPut H a (kV k) v (upd H a (.dK (v5 kvs k v))):=.inl ⟨kvs,k,e,rfl,hl,rfl⟩
theorem DPut.t {H:Hp} {a b:Addr} {kvs:List (List Key×V)} {k:List Key} {v:V} (e:H a=some (.dT kvs)) (eb:H b=some (.tup (k.map kV))) (hl:kvs.length<sizeLine) :
 DPut H a (.ref b) v (upd H a (.dT (v5 kvs k v))):=.inr ⟨kvs,k,b,e,rfl,eb,hl,rfl⟩
section
variable {X:Cx} {pins:List (Addr×Obj)} {U:St} {H:Hp} {s:Shared} {a:Addr} {y v:V} {u r:Value} {o:Option V} {A:Around} {E:Value->Shared->Prop}
theorem Inv.big (I:Inv X pins U H s):sysModules<s.heap.objs.size:=by have h:mainGlobals<s.heap.objs.size:=(I.mod.glob.keeps I.bk).lt;exact Nat.lt_trans (by decide) h
theorem yU {Q:Value->Shared->Prop} (hu:A.units+1<cLine) (I:Inv X pins U H s) (g:DGet H a y (some v)) (ry:RelV y u) (h:∀w' s',Inv X pins U H s'->RelV v w'->Q w' s') :
  wpAny (model X.prog X.w) A (getItem (.ref a) u) Q E s:=by
 rcases g with ⟨kvs,k,e,ey,l⟩ | ⟨kvs,k,b,e,ey,eb,l⟩
 . subst ey;obtain ⟨z,hd,vs,rel,dd⟩:=S5 I.hok e;obtain ⟨w',hw,rw'⟩:=RelO.some_of (v:=v) (o:=valueAt vs k) (by rw [l];exact rel.val k);exact wpAny_getItem_of (X5 ry) dd.mapOf hw (h w' _ (I.tok _) rw')
 . subst ey;cases (show u=Value.ref b from ry);obtain ⟨z,hd,xs,rel,dd⟩:=X4 I.hok e;obtain ⟨w',hw,rw'⟩:=RelO.some_of (v:=v) (o:=(atKey xs k).map (·.2)) (by rw [l];exact rel.val k);obtain ⟨p,hp,hp2⟩:=Option.map_eq_some_iff.mp hw;refine wpAny_getItem_heap (tupleKind_room_in1 hu) (Y7 I.hok eb) dd hp ?_;rw [hp2];exact h w' _ (I.tok _) rw'
theorem y38 {Q:Value->Shared->Prop} (hu:A.units+1<cLine) (I:Inv X pins U H s) (g:DGet H a y o) (ry:RelV y u) (h:∀s',Inv X pins U H s'->Q (.bool o.isSome) s') :
  wpAny (model X.prog X.w) A (compareOp .In u (.ref a)) Q E s:=by
 rcases g with ⟨kvs,k,e,ey,l⟩ | ⟨kvs,k,b,e,ey,eb,l⟩
 . subst ey;obtain ⟨z,hd,vs,rel,dd⟩:=S5 I.hok e;refine wpAny_in_of (X5 ry) hd dd.mapOf ?_;rw [<-(rel.val k).isSome_eq,<-l];exact h _ (I.tok _)
 . subst ey;cases (show u=Value.ref b from ry);obtain ⟨z,hd,xs,rel,dd⟩:=X4 I.hok e;refine wpAny_in_heap (tupleKind_room_in1 hu) (Y7 I.hok eb) hd dd ?_;have q:=(rel.val k).isSome_eq;rw [Option.isSome_map] at q;rw [<-q,<-l];exact h _ (I.tok _)
theorem wD {Q:Value->Shared->Prop} (hu:A.units+1<cLine) (I:Inv X pins U H s) (g:DGet H a y o) (ry:RelV y u) (h:∀s',Inv X pins U H s'->Q (.bool (!o.isSome)) s') :
  wpAny (model X.prog X.w) A (compareOp .NotIn u (.ref a)) Q E s:=by
 rcases g with ⟨kvs,k,e,ey,l⟩ | ⟨kvs,k,b,e,ey,eb,l⟩
 . subst ey;obtain ⟨z,hd,vs,rel,dd⟩:=S5 I.hok e;refine wpAny_notIn_of (X5 ry) hd dd.mapOf ?_;rw [<-(rel.val k).isSome_eq,<-l];exact h _ (I.tok _)
 . subst ey;cases (show u=Value.ref b from ry);obtain ⟨z,hd,xs,rel,dd⟩:=X4 I.hok e;refine wpAny_notIn_heap (tupleKind_room_in1 hu) (Y7 I.hok eb) hd dd ?_;have q:=(rel.val k).isSome_eq;rw [Option.isSome_map] at q;rw [<-q,<-l];exact h _ (I.tok _)
theorem Ja {h':Heap} {t':Nat} {ob:HO} (I:Inv X pins U H s) (mu:Mut (H a)) (hs:Heap.SameBut a s.heap h') (he:∃q,h'.get? a=some q) (new:ObjOk X.prog X.w (upd H a ob) h' a ob) :
  Inv X pins U (upd H a ob) { s with heap:=h',toks:=t' }:=
 I.write (x:=a) (e:=a) mu (.inl rfl) (fun b q hb z=>(hs.2 b hb).trans z) he new
theorem qK {P:Program} {w:World} {H':Hp} {h':Heap} {kvs:List (Key×V)} {vs:List (Key×Value)} (z:kvs.length<=sizeLine) (hd:(a==sysModules)=false) (rel:KV kvs vs) (dd:h'.DictOf (w6 P w) a vs) :
 ObjOk P w H' h' a (.dK kvs):=⟨z,hd,vs,rel,dd⟩
theorem yT {H':Hp} {Q:Unit->Shared->Prop} (hu:A.units+1<cLine) (I:Inv X pins U H s) (g:DPut H a y v H') (ry:RelV y u) (rv:RelV v r) (h:∀s',Inv X pins U H' s'->Q () s') :
  wpAny (model X.prog X.w) A (setItem (.ref a) u r) Q E s:=by
 rcases g with ⟨kvs,k,e,ey,l,eH⟩ | ⟨kvs,k,b,e,ey,eb,l,eH⟩
 . subst ey eH;obtain ⟨z,hd,vs,rel,dd⟩:=jy I.hok e;have hz:vs.length<=sizeLine:=by rw [<-rel.length];exact z
   have hl:(v5 kvs k v).length<=sizeLine:=by have:=Xb kvs k v;omega
   refine wpAny_setItem_pairs (hsz:=hz) (X5 ry) dd fun h' dd' hs=>h _ ?_
   have he:∃q,h'.get? a=some q:=let ⟨q,_,_,hq,_⟩:=dd';⟨q,hq⟩
   exact Ja I (by rw [e];exact True.intro) hs he (qK hl hd (rel.put k rv) dd')
 . subst ey eH;cases (show u=Value.ref b from ry);obtain ⟨z,hd,xs,rel,dd⟩:=jx I.hok e;have hz:xs.length<=sizeLine:=by rw [<-Paired.length rel];exact z
   have hl:(v5 kvs k v).length<=sizeLine:=by have:=Xb kvs k v;omega
   refine wpAny_setItem_heap (hsz:=hz) (tupleKind_room_in1 hu) (Y7 I.hok eb) dd fun h' dd' hs=>h _ ?_
   obtain ⟨q,es,ep,hq,h2,h3,h4,_,h5⟩:=dd';refine Ja I (by rw [e];exact True.intro) hs ⟨q,hq⟩ ⟨hl,hd,_,(rel.put k eb rv).keeps fun c ys ec=>?_,q,es,ep,hq,h2,h3,h4,h5⟩;rw [h8 (jH ec e (fun z=>nomatch z))];exact ec
end
section
variable {X:Cx} {pins:List (Addr×Obj)} {U:St} {H:Hp} {s:Shared} {a:Addr} {kvs:List (Key×V)} {A:Around} {E:Value->Shared->Prop}
theorem jw {Q:Value->Shared->Prop} (I:Inv X pins U H s) (e:Rd H a (.dK kvs)) (h:∀t s',Inv X pins U H s'->Q (.int kvs.length t) s'):wpAny (model X.prog X.w) A (call (.builtin "len") [.ref a]) Q E s:=by obtain ⟨z,hd,vs,rel,dd⟩:=S5 I.hok e;refine call_len_dict hd dd (by rw [<-rel.length];rw [sizeLine_eq] at z;omega) ?_;rw [<-rel.length];exact h _ _ (I.tok _)
end
theorem zO {X:Cx} {pins:List (Addr×Obj)} {U:St} {H:Hp} {s:Shared} {a:Addr} {y:V} {o:Option V} (I:Inv X pins U H s) (g:DGet H a y o):s.TypeIs (.ref a) "dict":=by
 rcases g with ⟨kvs,k,e,_,_⟩ | ⟨kvs,k,b,e,_,_,_⟩
 . obtain ⟨_,_,vs,_,dd⟩:=S5 I.hok e;exact dd.typeIs
 . obtain ⟨_,_,xs,_,dd⟩:=X4 I.hok e;exact dd.typeIs
structure M2 (X:Cx) (o:Expr) (m:Str) (apos:Pos) (e f:Expr) (cpos:Pos):Prop where
 base:attributeBase o m X.env (eval o X.env)=eval o X.env
 few:((backTo cpos (starEach [e,f] X.env)).all (fun x=>!x.1)&&(backToKw cpos (keywordEach [] X.env)).all (fun x=>x.1.isSome)
  && decide (([e,f]:List Expr).length+([]:List Keyword).length+(if ([]:List Keyword).isEmpty then 0 else 1)<30))=true
 line:(apos.endLine==cpos.line)=true
 trees:backTo cpos (starEach [e,f] X.env)=[(false,eval e X.env),(false,eval f X.env)]
end L2
namespace Att
open PySem PySem.W PySem.Calls PyProof.Rows
theorem z7b {P:Params} {h:Heap}:∀(ns:List Int) (vs:List Value),WellAll P h vs (ns.map WData.int)->IntsAre vs ns:=by
 intro ns;induction ns with
 | nil=>
  intro vs w
  rw [List.map_nil] at w
  cases w
  exact .nil
 | cons n ns ih=>
  intro vs w
  rw [List.map_cons] at w
  cases w with
  | cons a b=>
   cases a
   exact .cons _ _ (ih _ b)
theorem yS {l:OpenLaw} {n:Nat} (hn:l.most=some n) {P:Params} {h:Heap} {args:List WData} {vals:List Value}
  (hpre:l.row.toRowW.claim.pre args=true) (hwl:WellAll P h vals args) :
  ∃a vs ns,vals=[Value.ref a]/\args=[WData.list (ns.map WData.int)]/\h.get? a=some { cls:=.type "list",data:=.seq vs.toArray }/\IntsAre vs ns/\ns.length<=n:=by
 have hsh:WShape.hasAll [] args [.list .int]=true:=(pre_splitW hpre).1
 have hc:l.pre.holds [] { args:=args }=true:=(pre_splitW hpre).2
 obtain ⟨d,r,rfl,h1,h2⟩:=hasAllW_cons hsh
 obtain rfl:=hasAllW_nil h2
 obtain ⟨xs,rfl,h3⟩:=hasW_list h1
 obtain ⟨ns,rfl⟩:=items_int h3
 have hlen:ns.length<=n:=by
  unfold OpenLaw.pre at hc;have h4:(WTm.not (.lt (.lit (.int (n:Int))) (.len (.arg 0)))).holds [] { args:=[.list (ns.map .int)] }=true:=by have h4:=(holds_andW hc).1;rw [hn] at h4;exact h4
  have h5:=condW_of h4 (w_not (w_lt w_lit (w_len_list (w_arg rfl))));rw [List.length_map] at h5;refine Nat.le_of_not_lt fun q=>?_
  have q':(n:Int)<((ns.length:Nat):Int):=by omega
  first
   | (rw [decide_eq_true q'] at h5;exact absurd h5 (by decide))
   | (simp at h5;omega)
 cases hwl with
 | cons w1 w2=>
  cases w2
  cases w1 with
  | list ho hall=>exact ⟨_,_,ns,rfl,rfl,ho,z7b ns _ hall,hlen⟩
theorem yR (l:OpenLaw) (args:List WData):l.row.toRowW.claim.post args (.bool true) args=true:=
 postW_of (r:=l.row.toRowW) (X:=(true==true))
  (show WShape.has [] (.bool true) .bool=true by first | rfl | decide | simp [WShape.has,WShape.arms,WShape.armsAll])
  (show (WTm.eq .res (.lit (.bool true))).value [] { args:=args,res:=some (.bool true),after:=args }=some (.bool (true==true)) from w_eq_bool (w_res rfl) w_lit) rfl
theorem attach_call {l:OpenLaw} {n:Nat} {q:Program} {loose:List Str} {XP:(Str->Option Value)->Heap->Prop} {YP:World->Heap->Prop} {d:DefRec}
  (hn:l.most=some n) (hdf:d.params.defaults=[])
  (call:∀(w:World) (s₀ s₁:Shared) (mg mb:Str->Option Value) (fa:Addr) (o:Obj) (pm cd doc:Value) (a:Addr) (vs:List Value) (ns:List Int),
   Ground q loose [] XP w s₀ mg mb s₁.heap->YP w s₁.heap ->
   s₁.heap.get? fa=some o->o.data=.func (docDef d.name d.params d.body d.scope pm cd doc)->s₁.heap.CodeRec cd d.name->mg d.name=some (.ref fa) ->
   s₁.heap.get? a=some { cls:=.type "list",data:=.seq vs.toArray }->IntsAre vs ns->ns.length<=n->s₁.gens=#[] ->
   codeAny (model l.prog w) callerA (.call (.ref fa) ⟨[.ref a],[]⟩) (fun r s'=>r=.ok (.ret (.bool true))/\OldK s₁.heap s'.heap/\s'.os=s₁.os/\AllBare s'.gens) s₁) :
  WalkO q loose XP YP l.row.toRowW d [] (fun f vs=>PySem.call f vs):=by
 intro w s₀ s₁ mg mb G Y fa o pm cd doc dV kV ho hd hcd hD hmg hg args vals as hpre hlay hrd hwl hlo
 obtain rfl:dV=.none:=Dflts.none hD hdf
 obtain rfl:kV=.none:=Dflts.noKw hD
 obtain ⟨a,vs,ns,rfl,rfl,hobj,hints,hlen⟩:=yS hn hpre hwl
 refine enter_call (codeAny_mono (call w s₀ s₁ mg mb fa o pm cd doc a vs ns G Y ho (fd_plain hd) hcd hmg hobj hints hlen hg) fun r s' hq=>?_)
 obtain ⟨rfl,h2,h3,h4⟩:=hq
 exact ⟨.inl ⟨.bool true,.bool true,[],rfl,fun _=>rfl,.bool true,yR l _,fun _=>⟨List.Pairwise.nil,fun _ hm=>(nomatch hm)⟩⟩,h2,h3,h4⟩
section
def noObjs (h:Heap):Heap:={ h with objs:=#[] }
theorem noObjs_get (h:Heap) (b:Addr):(noObjs h).get? b=none:=by
 cases e:(noObjs h).get? b with
 | none=>rfl
 | some o=>exact absurd (Heap.lt_size e) (Nat.not_lt_zero _)
theorem fr_all {h:Heap} {L:Addr} {m:Str->Option Value} (n:h.Ns L m):Fr (noObjs h) L h m:=
 ⟨n,fun b o e=>(by rw [noObjs_get] at e;cases e),Nat.zero_le _⟩
end
end Att
namespace L2
open PySem PySem.Spec PyProof.Rows
theorem Dm:∀{vs:List Value} {ns:List Int},IntsAre vs ns->Vals (ns.map V.int) vs
 | _,_,.nil=>.nil
 | _,_,.cons n t h=>.cons ⟨t,rfl⟩ (Dm h)
def Bj (H:Hp):Prop:=∀b,H b=none\/∃o xs,H b=some (.frz o (.lst xs))
theorem xZ {P:Program} {w:World} {K:Frag} {mg mb:Str->Option Value} {CX:CXT} {k:Nat} {fa a:Addr} {fd:FuncData} {x:Str} {sp:Sp} {s₁:Shared} {vs:List Value} {ns:List Int}
  (KX:K.In s₁.heap) (hns:s₁.heap.Ns mainGlobals mg) (hb:s₁.heap.Ns builtinsNs mb) (hbb:∀x:Str,x≠"__name__"->mb x=bootBuiltins x) (hlim:s₁.heap.NoLimit) (hg:s₁.gens=#[])
  (ha:s₁.heap.get? a=some { cls:=.type "list",data:=.seq vs.toArray }) (hi:IntsAre vs ns) (hl:ns.length<=sizeLine) (hr:Room k callerA)
  (F:∀base:Heap,K.In base->base.Ns mainGlobals mg->FnOk P w K mg base CX k fa fd [x] sp) (hbind:∀(s:Shared) (u:Value),BindsTo s fd ⟨[u],[]⟩ [(x,u)])
  (hsp:∀H:Hp,Bj H->SqL K H a (ns.map V.int)->sp [.ref a] H (fun v _=>v=.bl true) fun _ _ _=>False)
  (hCX:∀H e s',CX [] H s₁ (fun _ _ _=>False) e s'->False) :
  codeAny (model P w) callerA (.call (.ref fa) ⟨[.ref a],[]⟩) (fun r s'=>r=.ok (.ret (.bool true))/\OldK s₁.heap s'.heap/\s'.os=s₁.os/\AllBare s'.gens) s₁:=by
 have rv:=Dm hi
 have lenV:=hi.length
 have core:∀H:Hp,Bj H->SqL K H a (ns.map V.int)->HOk P w H s₁.heap->(∀b,H b≠none->b=a)->(H a≠none->K.lookup a=none) ->
   codeAny (model P w) callerA (.call (.ref fa) ⟨[.ref a],[]⟩) (fun r s'=>r=.ok (.ret (.bool true))/\OldK s₁.heap s'.heap/\s'.os=s₁.os/\AllBare s'.gens) s₁:=by
  intro H hO hS hok hA hK
  have base_of:∀{b:Addr} {o:Obj},s₁.heap.get? b=some o->H b=none->(F5 s₁.heap H).get? b=some o:=fun e n=>yh e n
  have noA:∀{b:Addr} {o:Obj} {es:Array DictEntry} {ep:Nat},s₁.heap.get? b=some o->o.data=.dict es ep->H b=none:=fun {b o es ep} e d=>by
   cases q:H b with
   | none=>rfl
   | some u=>
    have e':b=a:=hA b (by rw [q];simp)
    subst e'
    rw [ha] at e;cases e
    have d':Data.seq vs.toArray _=Data.dict es ep:=d
    cases d'
  have nsK:∀{b:Addr} {m:Str->Option Value},s₁.heap.Ns b m->(F5 s₁.heap H).Ns b m:=fun {b m} ⟨o,es,ep,e,d,r⟩=>⟨o,es,ep,base_of e (noA e d),d,r⟩
  have hKb:K.In (F5 s₁.heap H):=fun b o e=>base_of (KX b o e) (by
   cases q:H b with
   | none=>rfl
   | some u=>
    have e':b=a:=hA b (by rw [q];simp)
    subst e'
    rw [hK (by rw [q];simp)] at e;cases e)
  have hM:Mod K mg (F5 s₁.heap H):=⟨hKb,nsK hns,⟨mb,nsK hb,hbb⟩,let ⟨mc,h1,h2⟩:=hlim;⟨mc,nsK h1,h2⟩⟩
  have e0:Env0 P w K mg (F5 s₁.heap H) callerA [] s₁ H:=⟨rfl,hM,fun b o e=>wM e,Nat.le_of_eq (za _ _),trivial,fun b hb=>absurd (show b∈([]:List Addr) from hb) (by simp),hok,.of_eq hg⟩
  refine codeAny_mono ((F _ hKb (nsK hns)).run callerA [] s₁ H ⟨[.ref a],[]⟩ [.ref a] [.ref a] _ _ hr e0 (hbind s₁ (.ref a)) (.cons rfl .nil) (hsp H hO hS)) fun r s' h=>?_
  cases r with
  | error e=>exact (hCX H e s' h).elim
  | ok fl=>
   cases fl with
   | next=>exact False.elim h
   | brk=>exact False.elim h
   | cont=>exact False.elim h
   | ret u=>
    obtain ⟨v,H',os,bare,un,hok',r',q⟩:=h
    have q':v=.bl true:=q
    subst q'
    obtain rfl:u=Value.bool true:=r'
    refine ⟨rfl,OldK.of_keep fun b o e=>?_,os,bare⟩
    cases q:H b with
    | none=>exact un.keep b o e q (by intro z;exact absurd (show b∈([]:List Addr) from z) (by simp)) (by simp)
    | some u=>
     rcases hO b with z | ⟨ob,xs,z⟩
     . rw [q] at z;cases z
     . have z2:=un.frzs b ob _ z;obtain ⟨e1,_⟩:=hok b _ z;obtain ⟨e2,_⟩:=hok' b _ z2;rw [e] at e1;cases e1;exact e2
 cases hk:K.lookup a with
 | some o=>
  have e:=KX a o hk
  rw [ha] at e
  cases e
  refine core (fun _=>none) (fun _=>.inl rfl) (.inr ⟨_,vs.toArray,_,hk,rfl,rfl,rfl,by rw [List.size_toArray,lenV];exact hl,by simpa using rv⟩) (fun b u z=>by have z':(none:Option HO)=some u:=z;cases z') (fun b z=>absurd rfl z) fun z=>absurd rfl z
 | none=>
  refine core (fun b=>if b=a then some (.frz { cls:=.type "list",data:=.seq vs.toArray } (.lst (ns.map V.int))) else none) (fun b=>?_) (.inl (.inr ⟨{ cls:=.type "list",data:=.seq vs.toArray },if_pos rfl⟩)) (fun b u z=>?_) (fun b z=>?_) fun _=>hk
  . by_cases hb:b=a
    . exact .inr ⟨_,_,if_pos hb⟩
    . exact .inl (if_neg hb)
  . by_cases hb:b=a
    . have z':=(if_pos hb).symm.trans z;cases z';subst hb;exact ⟨ha,by rw [List.length_map];exact hl,vs,_,rv,ha⟩
    . have z':=(if_neg hb).symm.trans z;cases z'
  . by_cases hb:b=a
    . exact hb
    . exact absurd (if_neg hb) z
theorem walk_of {l:PySem.W.OpenLaw} {n k:Nat} {q:Program} {loose:List Str} {XP:(Str->Option Value)->Heap->Prop} {YP:World->Heap->Prop} {d:DefRec} {K:Params->Frag} {CX:World->CXT} {sp:World->Sp} {x:Str}
  (hn:l.most=some n) (hn2:n<=sizeLine) (hdf:d.params.defaults=[]) (hr:Room k callerA)
  (hY:∀(w:World) (h:Heap),YP w h->(K w.params).In h)
  (F:∀(w:World) (mg:Str->Option Value) (fa:Addr) (h:Heap),(K w.params).In h->h.Ns mainGlobals mg->mg d.name=some (.ref fa) ->
   ∃fd:FuncData,(∀(s:Shared) (u:Value),BindsTo s fd ⟨[u],[]⟩ [(x,u)]) /\
    ∀base:Heap,(K w.params).In base->base.Ns mainGlobals mg->FnOk l.prog w (K w.params) mg base (CX w) k fa fd [x] (sp w))
  (hsp:∀(w:World) (H:Hp) (a:Addr) (ns:List Int),ns.length<=n->Bj H->SqL (K w.params) H a (ns.map V.int)->sp w [.ref a] H (fun v _=>v=.bl true) fun _ _ _=>False)
  (hCX:∀(w:World) (H:Hp) (s:Shared) (e:Value) (s':Shared),CX w [] H s (fun _ _ _=>False) e s'->False) :
  PySem.W.WalkO q loose XP YP l.row.toRowW d [] (fun f vs=>PySem.call f vs):=by
 refine Att.attach_call hn hdf fun w s₀ s₁ mg mb fa o pm cd doc a vs ns G Y ho hd hcd hmg hobj hints hlen hg=>?_
 have KX:=hY w _ Y
 obtain ⟨fd,hb,hF⟩:=F w mg fa _ KX G.T.g hmg
 exact xZ KX G.T.g G.T.b G.T.builtins G.T.nolimit hg hobj hints (Nat.le_trans hlen hn2) hr hF hb (fun H hO hS=>hsp w H a ns hlen hO hS) fun H e s'=>hCX w H s₁ e s'
noncomputable def L7 (s:Stmt):Arguments:=match s with
 | .FunctionDef _ a _ _ _ _ _ _ _ _=>a
 | _=>{ posonlyargs:=[],args:=[],vararg:=none,kwonlyargs:=[],kw_defaults:=[],kwarg:=none,defaults:=[] }
noncomputable def E5 (s:Stmt):List Stmt:=match s with
 | .FunctionDef _ _ b _ _ _ _ _ _ _=>b
 | _=>[]
noncomputable def i8 (s:Stmt):Scope:=match s with
 | .FunctionDef _ _ _ _ _ _ sc _ _ _=>sc
 | _=>{ kind:=.function,names:=[],isGenerator:=false,isCoroutine:=false }
abbrev E0:XK:=fun _ _ _=>False
structure Fun (K:Frag) (x qual:Str) (st:Stmt) (f:Addr) (fd:FuncData):Prop where
 ex:∃(oc:Value) (od:Option Addr) (kV doc pm:Value) (an:Option Addr) (cdv ct:Value) (osl:Array (Option Value)),
  fd=PySem.W.fnOf x qual (L7 st) (E5 st) (i8 st) .none kV doc pm an cdv ct/\K.lookup f=some ⟨oc,od,.func fd,osl⟩/\codeIn K cdv qual=true
 kp:keepIn K (.ref f)=true
section
variable {K:Frag}
theorem Fun.binds {x qual:Str} {st:Stmt} {f:Addr} {fd:FuncData} {ps:List Str} (F:Fun K x qual st f fd)
  (h:∀(kV doc pm:Value) (an:Option Addr) (cdv ct:Value) (us:List Value),us.length=ps.length->bindArgs (PySem.W.fnOf x qual (L7 st) (E5 st) (i8 st) .none kV doc pm an cdv ct) ⟨us,[]⟩=pure (ps.zip us)):Binds K fd ps []:=by
 obtain ⟨oc,od,kV,doc,pm,an,cdv,ct,osl,rfl,lk,hcd⟩:=F.ex
 exact .all (h kV doc pm an cdv ct)
theorem qJ {x qual:Str} {st:Stmt} {f:Addr} {oc:Value} {od an:Option Addr} {osl:Array (Option Value)} {kV doc pm cdv ct:Value} (l:K.lookup f=some ⟨oc,od,.func (PySem.W.fnOf x qual (L7 st) (E5 st) (i8 st) .none kV doc pm an cdv ct),osl⟩)
 (c:codeIn K cdv qual=true) (k:keepIn K (.ref f)=true):Fun K x qual st f (PySem.W.fnOf x qual (L7 st) (E5 st) (i8 st) .none kV doc pm an cdv ct):=⟨⟨oc,od,kV,doc,pm,an,cdv,ct,osl,rfl,l,c⟩,k⟩
end
theorem yQ {n:Nat} (h:n<=1000):n<sizeLine:=Nat.lt_of_le_of_lt h (by decide)
section
variable {X:Cx}
theorem call_lenD:CallR X (.builtin "len") (fun xs H Q=>∃a kvs,xs=[V.ref a]/\H a=some (.dK kvs)/\Q (.int kvs.length) H):=by intro pins s U H xs us Q I r h;obtain ⟨a,kvs,rfl,ha,q⟩:=h;obtain ⟨u,rfl,ru⟩:=t9 r;cases ru;exact jw I (.inl ha) fun t s' I'=>⟨.int kvs.length,H,I',⟨t,rfl⟩,q⟩
end
def Same (H H':Hp):Prop:=∀b o,H b=some o->H' b=some o
theorem Same.refl (H:Hp):Same H H:=fun _ _ h=>h
theorem Same.trans {H H1 H2:Hp} (a:Same H H1) (b:Same H1 H2):Same H H2:=fun c o h=>b c o (a c o h)
end L2
set_option maxHeartbeats 4000000
namespace L2
open PySem PySem.Spec PyProof.Rows
noncomputable def t0 (cells:List (Str×Addr)):List (Str×NameKind)->List (Str×Addr)->List (Str×Addr)
 | [],acc=>acc
 | (n,k)::r,acc=>t0 cells r (if k==.free then (n,(cells.lookup n).getD 0)::acc else acc)
theorem Yh {cells:List (Str×Addr)} {x:Str} {c:Addr}:∀{names:List (Str×NameKind)} {acc:List (Str×Addr)},
  (∀y∈names,y.2=.free->∃c,cells.lookup y.1=some c)->(∀y c,acc.lookup y=some c->cells.lookup y=some c)->(t0 cells names acc).lookup x=some c->cells.lookup x=some c
 | [],acc,_,ha,h=>ha x c h
 | (n,k)::r,acc,hf,ha,h=>by
  refine Yh (names:=r) (fun y hy=>hf y (List.mem_cons_of_mem _ hy)) (fun y c'=>?_) h;by_cases hk:k=.free
  . subst hk;obtain ⟨c0,e0⟩:=hf (n,.free) List.mem_cons_self rfl;intro e;have e1:(if (NameKind.free==NameKind.free)=true then (n,(cells.lookup n).getD 0)::acc else acc)=(n,(cells.lookup n).getD 0)::acc:=if_pos (show (NameKind.free==NameKind.free)=true from rfl);rw [e1,List.lookup_cons] at e;cases hyn:y==n with
    | true=>
     rw [hyn] at e
     have e2:y=n:=by simpa using hyn
     subst e2
     have e3:=Option.some.inj e
     have e0':cells.lookup y=some c0:=e0
     rw [e0'] at e3 ⊢
     exact congrArg some e3
    | false=>rw [hyn] at e;exact ha y c' e
  . have e1:(if (k==NameKind.free)=true then (n,(cells.lookup n).getD 0)::acc else acc)=acc:=if_neg (by simpa using hk);rw [e1];exact ha y c'
theorem Kz {cells:List (Str×Addr)} {x:Str}:∀{names:List (Str×NameKind)} {acc:List (Str×Addr)},
  ((∃c,acc.lookup x=some c)\/∃y∈names,y.2=.free/\y.1=x)->∃c,(t0 cells names acc).lookup x=some c
 | [],acc,h=>by
  rcases h with h | ⟨y,hy,_⟩
  . exact h
  . cases hy
 | (n,k)::r,acc,h=>by
  refine Kz (names:=r) ?_;by_cases hk:k=.free
  . subst hk;have e1:(if (NameKind.free==NameKind.free)=true then (n,(cells.lookup n).getD 0)::acc else acc)=(n,(cells.lookup n).getD 0)::acc:=if_pos (show (NameKind.free==NameKind.free)=true from rfl);rw [e1,List.lookup_cons];cases hxn:x==n with
    | true=>exact .inl ⟨_,rfl⟩
    | false=>
     rcases h with h | ⟨y,hy,hf,e⟩
     . exact .inl h
     . rcases List.mem_cons.mp hy with z | z
       . subst z;have e':n=x:=e;subst e';simp at hxn
       . exact .inr ⟨y,z,hf,e⟩
  . have e1:(if (k==NameKind.free)=true then (n,(cells.lookup n).getD 0)::acc else acc)=acc:=if_neg (by simpa using hk);rw [e1];rcases h with h | ⟨y,hy,hf,e⟩
    . exact .inl h
    . rcases List.mem_cons.mp hy with z | z
      . subst z;exact absurd hf hk
      . exact .inr ⟨y,z,hf,e⟩
theorem Xx {scope:Scope} {env:Env} (hf:∀y∈scope.names,y.2=.free->∃c,env.cells.lookup y.1=some c):closureFor scope env=pure (t0 env.cells scope.names []):=by
 have go:∀(names:List (Str×NameKind)) (acc:List (Str×Addr)),(∀y∈names,y.2=.free->∃c,env.cells.lookup y.1=some c) ->
   (forIn names acc fun x cs=>if (x.2==NameKind.free)=true then do let a <-cellOf env x.1;pure (ForInStep.yield ((x.1,a)::cs)) else pure (ForInStep.yield cs):Sem (List (Str×Addr)))=pure (t0 env.cells names acc):=by
  intro names
  induction names with
  | nil=>intro acc _;rfl
  | cons p r ih=>
   intro acc h
   obtain ⟨n,k⟩:=p
   rw [List.forIn_cons]
   by_cases hk:k=.free
   . subst hk;obtain ⟨c,e⟩:=h (n,.free) List.mem_cons_self rfl;have e':env.cells.lookup n=some c:=e;have e1:cellOf env n=pure c:=by unfold cellOf;rw [e']
     have e2:t0 env.cells ((n,NameKind.free)::r) acc=t0 env.cells r ((n,c)::acc):=by show t0 env.cells r (if (NameKind.free==NameKind.free)=true then (n,(env.cells.lookup n).getD 0)::acc else acc)=_;rw [if_pos (show (NameKind.free==NameKind.free)=true from rfl),e'];rfl
     rw [e2,<-ih _ fun y hy=>h y (List.mem_cons_of_mem _ hy)];show ((if (NameKind.free==NameKind.free)=true then do let a <-cellOf env n;pure (ForInStep.yield ((n,a)::acc)) else pure (ForInStep.yield acc)) >>= _:Sem _)=_;rw [if_pos (show (NameKind.free==NameKind.free)=true from rfl),e1];rfl
   . have hk':(k==NameKind.free)=false:=by simpa using hk
     have e2:t0 env.cells ((n,k)::r) acc=t0 env.cells r acc:=by show t0 env.cells r (if (k==NameKind.free)=true then _ else acc)=_;rw [if_neg (by rw [hk'];exact Bool.false_ne_true)]
     rw [e2,<-ih _ fun y hy=>h y (List.mem_cons_of_mem _ hy)];show ((if (k==NameKind.free)=true then do let a <-cellOf env n;pure (ForInStep.yield ((n,a)::acc)) else pure (ForInStep.yield acc)) >>= _:Sem _)=_;rw [if_neg (by rw [hk'];exact Bool.false_ne_true)];rfl
 have:=go scope.names [] hf;unfold closureFor;simpa using this
theorem zb0 {prog:Program} {w:World} {A:Around} {R:Result->Shared->Prop} {s:Shared} {elt target iter:Expr} {ifs:List Expr} {scope:Scope} {pos:Pos} {it acc:Value} {env:Env} (I:Nat->Shared->Prop)
  (turn:∀n s,I n s->wpAny (model prog w) A (pyNext it) (fun r s₁=>match r with
   | none=>R (.ok .next) s₁
   | some v=>wpAny (model prog w) A (letOwnedTupleGo target it v) (fun _ s₁'=>wpAny (model prog w) A (assign target env v) (fun _ s₂=>
    wpAny (model prog w) A (forIn ifs true fun c r=>if r=true then do let ok <-isTrue c env (eval c env);pure (ForInStep.yield ok) else pure (ForInStep.yield r)) (fun ok s₃=>
     if ok=true then wpAny (model prog w) A (eval elt env) (fun x s₄=>
      wpAny (model prog w) A (call (.builtin "list.append") [acc,x]) (fun _ s₅=>∃m,m<n/\I m s₅) (fun _ _=>False) s₄) (fun _ _=>False) s₃
     else ∃m,m<n/\I m s₃) (fun _ _=>False) s₂) (fun _ _=>False) s₁') (fun _ _=>False) s₁) (fun _ _=>False) s)
  (n:Nat) (h:I n s) :
  codeAny (model prog w) A (.compLoop (.ListComp elt [⟨target,iter,ifs,0⟩] scope pos) 0 it acc env) R s:=by
 refine codeAny_loop rfl I (fun n s hI=>?_) n h
 show wpAny _ A ((compTurn (.ListComp elt [⟨target,iter,ifs,0⟩] scope pos) 0 it acc env).onRaise (fun x=>do noteFrame x env;theTreesLotGoes x)) _ _ s
 refine wpAny_noted ?_
 rw [compTurn_list]
 refine wpAny_bind (wpAny_standAt (wpAny_bind (wpAny_mono (turn n s hI) (fun r s₁ h₁=>?_) fun _ _ h'=>h'.elim)))
 cases r with
 | none=>exact wpAny_pure h₁
 | some v=>
  refine wpAny_bind (wpAny_mono h₁ (fun _ s₁' h₁'=>?_) fun _ _ h'=>h'.elim)
  refine wpAny_bind (wpAny_mono h₁' (fun _ s₂ h₂=>wpAny_bind (wpAny_mono h₂ (fun ok s₃ h₃=>?_) fun _ _ h'=>h'.elim)) fun _ _ h'=>h'.elim)
  cases ok with
  | false=>exact wpAny_pure ⟨rfl,h₃⟩
  | true=>
   exact wpAny_bind (wpAny_bind (wpAny_mono h₃ (fun x s₄ h₄=>wpAny_bind (wpAny_mono h₄ (fun _ s₅ h₅=>wpAny_pure (wpAny_pure ⟨rfl,h₅⟩)) fun _ _ h'=>h'.elim)) fun _ _ h'=>h'.elim))
theorem Lv {env:Env}:∀{names:List (Str×NameKind)} {x:Str},
  (names.map fun (n,k)=>if (k==NameKind.free&&env.scope.kind==.function&&env.kindOf n==some .cell) then (n,NameKind.cell) else (n,k)).lookup x =
   (names.lookup x).map fun k=>if (k==NameKind.free&&env.scope.kind==.function&&env.kindOf x==some .cell) then NameKind.cell else k
 | [],_=>rfl
 | (n,k)::r,x=>by
  have ih:=@Lv env r x;show List.lookup x ((if (k==NameKind.free&&env.scope.kind==.function&&env.kindOf n==some .cell)=true then (n,NameKind.cell) else (n,k))::_)=_;cases hx:x==n with
  | true=>
   have e:x=n:=by simpa using hx
   subst e
   by_cases hc:(k==NameKind.free&&env.scope.kind==.function&&env.kindOf x==some .cell)=true
   . rw [if_pos hc];simp only [List.lookup_cons,hx,Option.map_some,hc,if_true]
   . rw [if_neg hc];simp only [List.lookup_cons,hx,Option.map_some,hc,if_false];rfl
  | false=>
   by_cases hc:(k==NameKind.free&&env.scope.kind==.function&&env.kindOf n==some .cell)=true
   . rw [if_pos hc];simp only [List.lookup_cons,hx];exact ih
   . rw [if_neg hc];simp only [List.lookup_cons,hx];exact ih
noncomputable def j7 (X:Cx) (sc:Scope) (N':List Str) (fp:List Addr) (s₃:Shared) (H₃:Hp):Cx:=
 { X with env:=compEnvC sc (t0 X.env.cells sc.names []) s₃.heap.objs.size X.env,N:=N',s₀:=s₃,H₀:=H₃,outer:=X.stack,ex:=fp,fn:=fun _=>false,pn:=[],xe:=fun _ _=>False }
noncomputable def C8 (ix:List Nat) (U:St):St:=ix.map fun j=>(U[j]?).getD none
structure CompOk (X:Cx) (sc:Scope) (caps:List Str) (ix:List Nat):Prop where
 calm:X.calm=true
 kind:sc.kind=.function
 ncell:∀y∈sc.names,y.2≠.cell
 free:∀y∈sc.names,y.2=.free->X.env.kindOf y.1=some .cell\/X.env.kindOf y.1=some .free
 names:∀y∈sc.names,y.2=.local->sc.names.lookup y.1=some .local
 cap:∀(j:Nat) x,caps[j]?=some x->sc.names.lookup x=some .free/\∃i,ix[j]?=some i/\X.N[i]?=some x
 len:ix.length=caps.length
noncomputable def Vu (fsc:Scope) (N:List Str) (sc:Scope) (caps:List Str) (ix:List Nat):Bool:=
 sc.kind==.function&&sc.names.all (fun y=>y.2 != .cell)&&sc.names.all (fun y=>y.2 != .free||(fsc.names.lookup y.1==some .cell||fsc.names.lookup y.1==some .free)) &&
  sc.names.all (fun y=>y.2 != .local||sc.names.lookup y.1==some .local)&&caps.all (fun x=>sc.names.lookup x==some .free)&&(ix.map fun i=>N[i]?)==caps.map some
theorem u6 {X:Cx} {sc:Scope} {caps:List Str} {ix:List Nat} (hc:X.calm=true) (h:Vu X.env.scope X.N sc caps ix=true):CompOk X sc caps ix:=by
 unfold Vu at h;simp only [Bool.and_eq_true] at h;obtain ⟨⟨⟨⟨⟨h1,h2⟩,h3⟩,h4⟩,h5⟩,h6⟩:=h;have e6:(ix.map fun i=>X.N[i]?)=caps.map some:=by simpa using h6
 have elen:ix.length=caps.length:=by simpa using congrArg List.length e6
 refine ⟨hc,by simpa using h1,fun y hy=>?_,fun y hy hf=>?_,fun y hy hl=>?_,fun j x hj=>⟨?_,?_⟩,elen⟩
 . have:=List.all_eq_true.mp h2 y hy;simpa using this
 . have:=List.all_eq_true.mp h3 y hy;rw [hf] at this;simp only [bne_self_eq_false,Bool.false_or,Bool.or_eq_true,beq_iff_eq] at this;exact this
 . have:=List.all_eq_true.mp h4 y hy;rw [hl] at this;simpa using this
 . have:=List.all_eq_true.mp h5 x (List.mem_of_getElem? hj);simpa using this
 . have hjl:j<ix.length:=by rw [elen];exact (List.getElem?_eq_some_iff.mp hj).1
   refine ⟨ix[j],List.getElem?_eq_getElem hjl,?_⟩;have q:=congrArg (fun l=>l[j]?) e6;simp only [List.getElem?_map,List.getElem?_eq_getElem hjl,hj,Option.map_some] at q;exact Option.some.inj q
section
variable {X:Cx} {sc:Scope} {tgs caps:List Str} {ix:List Nat} {pins:List (Addr×Obj)} {U:St} {H:Hp} {s:Shared} {fp:List Addr}
theorem CompOk.free_cell (C:CompOk X sc caps ix) (I:Inv X pins U H s):∀y∈sc.names,y.2=.free->∃c,X.env.cells.lookup y.1=some c:=fun y hy hf=>I.ok.has y.1 (C.free y hy hf)
theorem CompOk.sub (C:CompOk X sc caps ix) (I:Inv X pins U H s) {x:Str} {c:Addr} (h:(t0 X.env.cells sc.names []).lookup x=some c):X.env.cells.lookup x=some c:=
 Yh (C.free_cell I) (fun _ _ e=>by cases e) h
theorem zt (C:CompOk X sc caps ix) (I:Inv X pins U H s) (hf:∀b∈fp,o4 X pins H b) (hl:∀b∈fp,b<s.heap.objs.size) {h':Heap} {t':Nat} {m:Str->Option Value} (hn:h'.Ns s.heap.objs.size m)
  (hk:∀b o,s.heap.get? b=some o->h'.get? b=some o) :
  Inv (j7 X sc (tgs++caps) fp s H) [] (List.replicate tgs.length none++C8 ix U) H { s with heap:=h',toks:=t' }:=by
 have sub:∀{x c},(t0 X.env.cells sc.names []).lookup x=some c->X.env.cells.lookup x=some c:=fun h=>C.sub I h
 have clt:∀{x c},X.env.cells.lookup x=some c->c<s.heap.objs.size:=fun {x c} h=>by obtain ⟨v,q⟩:=I.cell x c h;exact q.lt
 refine ⟨⟨I.ok.mod,C.kind,I.ok.glob,I.ok.blt,Nat.le_refl _,fun x y c h1 h2=>I.ok.inj x y c (sub h1) (sub h2),fun x hx=>?_,fun x c hfn _=>?_,I.ok.hd,I.ok.frames,.inl rfl,fun b hb=>⟨?_,fun x c h z=>?_⟩,fun b o e=>I.bs b o e,Nat.le_trans I.ok.bsz I.sz,fun b o e hb=>?_,fun b hb hfs=>?_,I.stack,I.stkFree⟩,
  rfl,I.bare,Un.kept hk,⟨m,hn,fun i x v e1 e2 e3=>?_⟩,fun x c h=>?_,I.hok.fresh (Nat.le_refl _),fun x c h=>I.freeC x c (sub h),fun p hp=>absurd (show p∈([]:List (Addr×Obj)) from hp) (by simp),I.hok.kept hk,?_⟩
 . -- a cell or free name of the block has a cell
   have hx':(relabel sc X.env).names.lookup x=some .cell\/(relabel sc X.env).names.lookup x=some .free:=hx;have e:(relabel sc X.env).names.lookup x=(sc.names.lookup x).map fun k=>if (k==NameKind.free&&X.env.scope.kind==.function&&X.env.kindOf x==some .cell) then NameKind.cell else k:=Lv
   rw [e] at hx';cases q:sc.names.lookup x with
   | none=>rw [q] at hx';rcases hx' with z | z<;>cases z
   | some k=>
    have hm:(x,k)∈sc.names:=PySem.mem_of_lookup q
    have hkf:k=.free:=by
     rw [q] at hx';simp only [Option.map_some] at hx';by_cases hkk:k=.free
     . exact hkk
     . have:(k==NameKind.free)=false:=by simpa using hkk
       simp only [this,Bool.false_and,Bool.false_eq_true,if_false] at hx';rcases hx' with z | z
       . exact absurd (Option.some.inj z) (C.ncell _ hm)
       . exact Option.some.inj z
    subst hkf
    exact Kz (.inr ⟨_,hm,rfl,rfl⟩)
 . exact absurd (show false=true from hfn) Bool.false_ne_true
 . exact Nat.ne_of_lt (hl b hb)
 . exact (hf b hb).2.2.2.2.1 x c (sub h) z
 . obtain ⟨_,_,_,hx,_⟩:=hf b hb;rcases hx with z | z
   . exact I.ok.noex b o e z
   . exact absurd (Nat.lt_of_lt_of_le (Heap.lt_size e) (Nat.le_trans I.ok.bsz z)) (Nat.lt_irrefl _)
 . obtain ⟨_,h1,h2,_⟩:=hf b hb;rcases List.mem_cons.mp (I.stkSub b hfs) with z | z
   . exact h1 z
   . exact h2 z
 . -- the captured names' values
   have hi:tgs.length<=i:=by
    by_cases hi:i<tgs.length
    . rw [List.getElem?_append_left (by simpa using hi),List.getElem?_replicate] at e2;split at e2<;>cases e2
    . omega
   have e1':caps[i - tgs.length]?=some x:=by have:(tgs++caps)[i]?=some x:=e1;rw [List.getElem?_append_right hi] at this;exact this
   rw [List.getElem?_append_right (by simpa using hi),List.length_replicate] at e2;obtain ⟨hfr,j,hj,hjN⟩:=C.cap _ x e1';have e2':U[j]?=some (some v):=by
    unfold C8 at e2;rw [List.getElem?_map,hj] at e2;simp only [Option.map_some] at e2;have e2:=Option.some.inj e2;cases q:U[j]? with
    | none=>rw [q] at e2;cases e2
    | some o=>rw [q] at e2;exact congrArg some e2
   have hmem:(x,NameKind.free)∈sc.names:=PySem.mem_of_lookup hfr;have hkind:=C.free _ hmem rfl;obtain ⟨m0,hn0,hl0⟩:=I.loc;have hvis:Vis X.env.scope x:=hkind.elim (fun z=>.inr (.inl z)) fun z=>.inr (.inr z)
   obtain ⟨u,r,look⟩:=hl0 j x v hjN e2' hvis;refine ⟨u,r,?_⟩;rcases look with ⟨k,_⟩ | ⟨_,c,hc,z⟩
   . rcases hkind with q | q
     . rw [show X.env.kindOf x=some .cell from q] at k;cases k
     . rw [show X.env.kindOf x=some .free from q] at k;cases k
   . obtain ⟨c',hc'⟩:=Kz (cells:=X.env.cells) (names:=sc.names) (acc:=[]) (x:=x) (.inr ⟨_,hmem,rfl,rfl⟩);have hcc:c'=c:=by have:=sub hc';rw [hc] at this;exact (Option.some.inj this).symm
     subst hcc;refine .inr ⟨?_,c',hc',?_⟩
     . have e:(relabel sc X.env).names.lookup x=(sc.names.lookup x).map fun k=>if (k==NameKind.free&&X.env.scope.kind==.function&&X.env.kindOf x==some .cell) then NameKind.cell else k:=Lv
       show (relabel sc X.env).names.lookup x=some .cell\/(relabel sc X.env).names.lookup x=some .free;rw [e,hfr];simp only [Option.map_some];split
       . exact .inl rfl
       . exact .inr rfl
     . obtain ⟨o,ho,hd⟩:=z;exact ⟨o,hk _ o ho,hd⟩
 . obtain ⟨v,o,ho,hd⟩:=I.cell x c (sub h);exact ⟨v,o,hk _ o ho,hd⟩
 . show _=(tgs++caps).length;unfold C8;rw [List.length_append,List.length_replicate,List.length_map,List.length_append,C.len]
inductive PTs (X:Cx):List Expr->TT->Prop where
 | nil:PTs X [] (fun _ H Q=>Q true H)
 | one {c:Expr} {t:TT} (h:PT X c t):PTs X [c] t
theorem PTs.run {X:Cx} {ifs:List Expr} {t:TT} (h:PTs X ifs t) {pins:List (Addr×Obj)} {s:Shared} {U:St} {H:Hp} {Q:Bool->Hp->Prop} (I:Inv X pins U H s) (q:t U H Q) :
  wpAny (model X.prog X.w) X.A (forIn ifs true fun c r=>if r=true then do let ok <-isTrue c X.env (eval c X.env);pure (ForInStep.yield ok) else pure (ForInStep.yield r)) (TP X pins U Q) X.xe s:=by
 cases h with
 | nil=>exact wpAny_tests_nil ⟨H,I,q⟩
 | one h=>exact wpAny_tests_one (h pins s U H Q I q)
def Nv (J:It) (D:Addr) (B:V->Hp->(List V->Hp->Prop)->Prop) (cs:St) (tt:TT) (te:TE) (Q:VK) (H1:Hp):Prop:=
 ∃W:Nat->Nat->List V->Hp->Prop,(∃m,W 0 m [] (upd H1 D (.lst [])))/\∀i m ys H,W i m ys H ->
  H D=some (.lst ys)/\((J.stop i H/\Q (.ref D) H)\/(J.go i H/\∀x H',J.yld i H x H'->B x H' fun vals H2=>tt (vals.map some++cs) H2 fun b H3=>
   if b=true then te (vals.map some++cs) H3 fun y H4=>H4 D=some (.lst ys)/\ys.length<sizeLine/\∃m',m'<m/\W (i+1) m' (ys++[y]) (upd H4 D (.lst (ys++[y])))
   else ∃m',m'<m/\W (i+1) m' ys H3))
noncomputable def L0 (wi:TI) (B:V->Hp->(List V->Hp->Prop)->Prop) (ix:List Nat) (tt:TT) (te:TE):TE:=fun U H Q=>wi U H fun J H1=>∀D,H1 D=none->Nv J D B (C8 ix U) tt te Q H1
variable {elt tg iter:Expr} {ifs:List Expr} {pos:Pos} {g:TG} {B:V->Hp->(List V->Hp->Prop)->Prop} {tt:TT} {te:TE}
theorem Wr (C:CompOk X sc caps ix) (hg:∀fp s H,PG (j7 X sc (tgs++caps) fp s H) tg g)
  (hB:∀(x:V) (σt cs:St) (H:Hp) (Q:St->Hp->Prop),σt.length=tgs.length->B x H (fun vals H2=>Q (vals.map some++cs) H2)->g x (σt++cs) H fun σ2 H2=>(∃vals:List V,vals.length=tgs.length/\σ2=vals.map some++cs)/\Q σ2 H2)
  (ht:∀fp s H,PTs (j7 X sc (tgs++caps) fp s H) ifs tt) (he:∀fp s H,PE (j7 X sc (tgs++caps) fp s H) elt te)
  {J:It} {it:Addr} {tn:Nat->Heap->Prop} {Q:VK} {E:Value->Shared->Prop} (I2:Inv X pins U H s) (T:Turn X.prog X.w X.K tg J fp it tn) (st:tn 0 s.heap) (hf:∀b∈fp,o4 X pins H b)
  (hw:∀D,H D=none->Nv J D B (C8 ix U) tt te Q H) {RR:Value->Addr->Result->Shared->Prop}
  (hRR:∀D Cc H' s' m,s'.heap.Ns Cc m->Inv X pins U H' s'->o4 X pins H' Cc->Q (.ref D) H'->RR (.ref D) Cc (.ok .next) s') :
  wpAny (model X.prog X.w) X.A (newList []) (fun acc s₃=>wpAny (model X.prog X.w) X.A (newFunctionEnv sc X.env.globals (t0 X.env.cells sc.names []) [] X.env.qual none .none (some X.env)) (fun cenv s₄=>
   codeAny (model X.prog X.w) X.A (.compStart (.ListComp elt [⟨tg,iter,ifs,0⟩] sc pos) 0 (.ref it) acc { cenv with scope:=relabel sc X.env }) (RR acc cenv.locals) s₄) E s₃) E s:=by
 refine wpAny_newObj_type (wpAny_newFunctionEnv C.ncell (by intro y hy;simp at hy) (fun h₁ hns₁ hsb₁=>?_) C.kind)
 have I3:Inv X pins U (upd H s.heap.objs.size (.lst [])) { s with heap:=s.heap.push { cls:=.type "list",dict:=none,data:=.seq ([]:List Value).toArray } }:=I2.lnew (t':=s.toks) (its:=[]) .nil (Nat.zero_le _)
 have hD0:H s.heap.objs.size=none:=I2.fresh
 have lt0:∀b∈fp,b<s.heap.objs.size:=fun b hb=>by obtain ⟨o,e,_⟩:=T.obj _ _ st b hb;exact Heap.lt_size e
 have hfD:∀b∈fp,b≠s.heap.objs.size:=fun b hb=>Nat.ne_of_lt (lt0 b hb)
 have hf3:∀b∈fp,o4 X pins (upd H s.heap.objs.size (.lst [])) b:=fun b hb=>⟨by rw [h8 (hfD b hb)];exact (hf b hb).1,(hf b hb).2⟩
 generalize hs3:({ s with heap:=s.heap.push { cls:=.type "list",dict:=none,data:=.seq ([]:List Value).toArray } }:Shared)=s₃ at I3 hns₁ hsb₁ ⊢
 have hs3h:s₃.heap=s.heap.push { cls:=.type "list",dict:=none,data:=.seq ([]:List Value).toArray }:=by rw [<-hs3]
 have st3:tn 0 s₃.heap:=T.keep _ _ _ st fun b _ o e=>by rw [hs3h];exact Heap.get?_push_of_some _ e
 have hl3:∀b∈fp,b<s₃.heap.objs.size:=fun b hb=>by rw [hs3h,Heap.size_push];exact Nat.lt_succ_of_lt (lt0 b hb)
 generalize hDD:s.heap.objs.size=D at *
 have hk1:∀b o,s₃.heap.get? b=some o->h₁.get? b=some o:=fun b o e=>hsb₁.extBut b o (Nat.ne_of_lt (Heap.lt_size e)) (Heap.get?_push_of_some _ e)
 have I4:=zt (tgs:=tgs) (t':=s₃.toks+([]:List (Str×Value)).length) C I3 hf3 hl3 hns₁ hk1
 have st4:tn 0 h₁:=T.keep _ _ _ st3 fun b _ o e=>hk1 b o e
 have fr4:∀b∈fp,(upd H D (.lst [])) b=none:=fun b hb=>(hf3 b hb).1
 generalize hXc:j7 X sc (tgs++caps) fp s₃ (upd H D (.lst []))=Xc at I4
 have hprog:Xc.prog=X.prog:=by rw [<-hXc];rfl
 have hww:Xc.w=X.w:=by rw [<-hXc];rfl
 have hKK:Xc.K=X.K:=by rw [<-hXc];rfl
 have hcalm:Xc.calm=true:=by rw [<-hXc];exact C.calm
 have hA:Xc.A=X.A:=by rw [<-hXc];rfl
 have henv:Xc.env=compEnvC sc (t0 X.env.cells sc.names []) s₃.heap.objs.size X.env:=by rw [<-hXc];rfl
 have hxe:Xc.xe=fun _ _=>False:=by rw [<-hXc];rfl
 have hg':=hg fp s₃ (upd H D (.lst []))
 have ht':=ht fp s₃ (upd H D (.lst []))
 have he':=he fp s₃ (upd H D (.lst []))
 rw [hXc] at hg' ht' he'
 obtain ⟨W,⟨m0,w0⟩,turn⟩:=hw D hD0
 have stat:∀{H':Hp},(∀b∈fp,H' b=none)->∀b∈fp,o4 Xc [] H' b:=fun {H'} hn b hb=>by
  refine ⟨hn b hb,?_,?_,.inl ?_,fun x c e z=>?_,fun p hp=>?_⟩
  . rw [henv];exact Nat.ne_of_lt (hl3 b hb)
  . rw [<-hXc];intro z;obtain ⟨_,h1,h2,_⟩:=hf b hb;rcases List.mem_cons.mp (I3.stkSub b z) with q | q
    . exact h1 q
    . exact h2 q
  . rw [<-hXc];exact hb
  . rw [henv] at e;exact (hf b hb).2.2.2.2.1 x c (C.sub I2 e) z
  . rw [<-hXc] at hp;exact absurd (show p∈([]:List (Addr×Obj)) from hp) (by simp)
 have loop:∀s₄:Shared,s₄={ s₃ with heap:=h₁,toks:=s₃.toks+([]:List (Str×Value)).length } ->
   codeAny (model X.prog X.w) X.A (.compLoop (.ListComp elt [⟨tg,iter,ifs,0⟩] sc pos) 0 (.ref it) (.ref D) (compEnvC sc (t0 X.env.cells sc.names []) s₃.heap.objs.size X.env)) (RR (.ref D) s₃.heap.objs.size) s₄:=by
  intro s₄ hs4
  rw [<-hprog,<-hww,<-hA,<-henv]
  refine zb0 (fun n s'=>∃(i:Nat) (ys:List V) (σt:St) (H':Hp),σt.length=tgs.length/\Inv Xc [] (σt++C8 ix U) H' s'/\tn i s'.heap/\(∀b∈fp,H' b=none)/\W i n ys H') ?_ m0
   ⟨0,[],List.replicate tgs.length none,upd H D (.lst []),by simp,by rw [hs4];exact I4,by rw [hs4];exact st4,fr4,w0⟩
  rintro n s5 ⟨i,ys,σt,H5,hσ,I5,st5,fr5,w5⟩
  obtain ⟨hD5,hturn⟩:=turn i n ys H5 w5
  rcases hturn with ⟨stop,q⟩ | ⟨go,step⟩
  . rw [hprog,hww];refine thn (T.done Xc hprog hww hKK hcalm i [] s5 _ H5 _ I5 (stat fr5) st5 stop) fun r s6 ⟨hr,I6⟩=>?_
    subst hr;obtain ⟨m6,hn6,_⟩:=I6.loc;rw [henv] at hn6;have hcb:∀b∈fp,(b∈X.ex\/X.s₀.heap.objs.size<=b)/\b≠X.env.locals/\(∀x c,X.env.cells.lookup x=some c->c≠b)/\∀p∈X.pn++pins,p.1≠b:=fun b hb=>⟨(hf b hb).2.2.2.1,(hf b hb).2.1,(hf b hb).2.2.2.2.1,(hf b hb).2.2.2.2.2⟩
    have hos:s6.os=s₃.os:=by have:=I6.os;rw [<-hXc] at this;exact this
    have un6:Un (frs X.stack) fp (upd H D (.lst [])) H5 s₃.heap s6.heap:=by have:=I6.base;rw [<-hXc] at this;exact this
    have hok6:HOk X.prog X.w H5 s6.heap:=by have:=I6.hok;rw [hprog,hww] at this;exact this
    have I7:Inv X pins U H5 s6:=I3.call' hos un6 hok6 I6.bare hcb;refine hRR D _ H5 s6 m6 hn6 I7 ?_ q;have hCn:H5 s₃.heap.objs.size=none:=by have:=I6.free;rw [henv] at this;exact this
    exact I3.fpOk (Nat.le_refl _) hCn
  . rw [hprog,hww];refine thn (T.item Xc hprog hww hKK hcalm i [] s5 _ H5 _ I5 (stat fr5) st5 go) fun r s6 ⟨u,hr,h6⟩=>?_
    subst hr;refine thn h6 fun _ s7 ⟨x,H7,I7,r7,y7,st7,fr7⟩=>?_
    have I7':=I7.pinned (stat fr7) (T.obj _ _ st7);have hst:=hg' _ s7 _ H7 x u _ I7' r7 (hB x σt (C8 ix U) H7 (fun σ2 H2=>tt σ2 H2 fun b H3=>if b=true then te σ2 H3 fun y H4=>H4 D=some (.lst ys)/\ys.length<sizeLine/\∃m',m'<n/\W (i+1) m' (ys++[y]) (upd H4 D (.lst (ys++[y]))) else ∃m',m'<n/\W (i+1) m' ys H3) hσ (step x H7 y7));rw [hprog,hww,hxe] at hst;refine thn hst fun _ s8 ⟨σ8,H8,I8,⟨vals,hvl,hσ8⟩,q8⟩=>?_
    have again:∀{H9:Hp} {s9:Shared},Inv Xc ([]++Y8 fp s7.heap) σ8 H9 s9->tn (i+1) s9.heap/\∀b∈fp,H9 b=none:=fun {H9 s9} I9=>
     ⟨T.keep _ _ _ st7 fun b hb o e=>(I9.pin (b,o) (List.mem_append_right _ (List.mem_append_right _ (Dp hb e)))).1,fun b hb=>by obtain ⟨o,e,d⟩:=T.obj _ _ st7 b hb;exact (I9.pin (b,o) (List.mem_append_right _ (List.mem_append_right _ (Dp hb e)))).2.1⟩
    subst hσ8;have hts:=ht'.run I8 q8;rw [hprog,hww,hxe] at hts;refine thn hts fun ok s9 ⟨H9,I9,q9⟩=>?_
    cases ok with
    | false=>
     rw [if_neg Bool.false_ne_true] at q9 ⊢
     obtain ⟨m',hm,w9⟩:=q9
     obtain ⟨a1,a2⟩:=again I9
     exact ⟨m',hm,i+1,ys,vals.map some,H9,by simpa using hvl,I9.unpinned,a1,a2,w9⟩
    | true=>
     rw [if_pos rfl] at q9 ⊢
     have hev:=he' _ s9 _ H9 _ I9 q9
     rw [hprog,hww,hxe] at hev
     refine thn hev fun uy s10 ⟨y,H10,I10,r10,hD10,hz10,m',hm,w10⟩=>?_
     have hap:=U4 (X:=Xc) _ s10 _ H10 (.ref D) [y] (.ref D) [uy] (fun v H11=>v=.non/\H11=upd H10 D (.lst (ys++[y]))) I10 rfl (.cons r10 .nil) ⟨D,ys,y,rfl,rfl,hD10,hz10,rfl,rfl⟩
     rw [hprog,hww,hxe] at hap
     refine thn hap fun _ s11 ⟨v,H11,I11,_,_,e11⟩=>?_
     subst e11
     obtain ⟨a1,a2⟩:=again I11
     exact ⟨m',hm,i+1,ys++[y],vals.map some,_,by simpa using hvl,I11.unpinned,a1,a2,w10⟩
 refine codeAny_compStart_list (loop _ rfl) (T.self X.A 0 _ _ _ st4 (loop _ rfl))
theorem Tk {wi:TI} (C:CompOk X sc caps ix) (hi:PI X tg iter wi) (hg:∀fp s H,PG (j7 X sc (tgs++caps) fp s H) tg g)
  (hB:∀(x:V) (σt cs:St) (H:Hp) (Q:St->Hp->Prop),σt.length=tgs.length->B x H (fun vals H2=>Q (vals.map some++cs) H2)->g x (σt++cs) H fun σ2 H2=>(∃vals:List V,vals.length=tgs.length/\σ2=vals.map some++cs)/\Q σ2 H2)
  (ht:∀fp s H,PTs (j7 X sc (tgs++caps) fp s H) ifs tt) (he:∀fp s H,PE (j7 X sc (tgs++caps) fp s H) elt te)
  (hs:∀x,foldedSetIterable iter X.env x=pure x:=by intro _;rfl):PE X (.ListComp elt [⟨tg,iter,ifs,0⟩] sc pos) (L0 wi B ix tt te):=by
 intro pins s U H Q I h
 rw [eval_ListComp]
 refine wpAny_comprehension_free (use:=none) rfl hs (Xx (C.free_cell I)) C.kind C.names (thn (hi pins s U H _ I h) fun v s1 h1=>thn h1 fun itv s2 h2=>?_)
 obtain ⟨it,fp,tn,J,H2,e,I2,T,st2,f2,hw⟩:=h2
 subst e
 refine Wr (RR:=fun acc Cc=>compPost (model X.prog X.w) X.A X.xe none (EP X pins U Q) acc Cc) C hg hB ht he I2 T st2 f2 hw ?_
 intro D Cc H' s' m hn I' hfp q
 refine ⟨m,hn,fun h' sb=>⟨.ref D,H',?_,rfl,q⟩⟩
 exact I'.turned (t':=s'.toks) (fun b o hb e=>sb.extBut b o hb e) hfp.1 hfp.2.1 hfp.2.2.2.1 hfp.2.2.2.2.1 hfp.2.2.2.2.2
theorem Tj {wi:TI} {k:Nat} {x:Str} {spos px:Pos} (hN:X.N.Nodup) (hk:X.N[k]?=some x) (hx:X.env.scope.names.lookup x=some .local) (C:CompOk X sc caps ix) (hi:PI X tg iter wi) (hg:∀fp s H,PG (j7 X sc (tgs++caps) fp s H) tg g)
  (hB:∀(x:V) (σt cs:St) (H:Hp) (Q:St->Hp->Prop),σt.length=tgs.length->B x H (fun vals H2=>Q (vals.map some++cs) H2)->g x (σt++cs) H fun σ2 H2=>(∃vals:List V,vals.length=tgs.length/\σ2=vals.map some++cs)/\Q σ2 H2)
  (ht:∀fp s H,PTs (j7 X sc (tgs++caps) fp s H) ifs tt) (he:∀fp s H,PE (j7 X sc (tgs++caps) fp s H) elt te)
  (hsw:swapsWith (.ListComp elt [⟨tg,iter,ifs,0⟩] sc pos) (some (.Name x px)) spos.line X.env=pure true:=by rfl)
  (hs:∀x,foldedSetIterable iter X.env x=pure x:=by intro _;rfl):PS X (.Assign [.Name x px] (.ListComp elt [⟨tg,iter,ifs,0⟩] sc pos) spos) (C9 (L0 wi B ix tt te) (w4 k)):=by
 intro pins s U H D0 I h
 rw [exec_Assign_Name_used _ _ _ _ hsw]
 refine wpAny_bind (wpAny_standAt (wpAny_bind ?_))
 show wpAny _ X.A (do let _ <-comprehension (.ListComp elt [⟨tg,iter,ifs,0⟩] sc pos) sc X.env _ (newList []) false (eval iter X.env) (some (assign (.Name x px) X.env))) _ _ s
 refine wpAny_bind (wpAny_mono (wpAny_comprehension_free (use:=some (assign (.Name x px) X.env)) (Q:=fun _ s'=>SP X pins D0 .next s') rfl hs (Xx (C.free_cell I)) C.kind C.names
  (thn (hi pins s U H _ I h) fun v s1 h1=>thn h1 fun itv s2 h2=>?_)) (fun _ s' hq=>wpAny_pure (wpAny_pure hq)) fun _ _ e=>e)
 obtain ⟨it,fp,tn,J,H2,e,I2,T,st2,f2,hw⟩:=h2
 subst e
 refine Wr (RR:=fun acc Cc=>compPost (model X.prog X.w) X.A X.xe (some (assign (.Name x px) X.env)) (fun _ s'=>SP X pins D0 .next s') acc Cc) C hg hB ht he I2 T st2 f2 hw ?_
 intro D Cc H' s' m hn I' hfp q
 show wpAny _ X.A (assign (.Name x px) X.env (.ref D)) _ _ _
 refine wpAny_assign_Name (Wb I' hN hk (.inl hx) (v:=.ref D) rfl (fun s'' I'' hch=>?_) (.inr hx))
 obtain ⟨a,sb,ha⟩:=hch
 have hne:Cc≠a:=by
  rcases ha with z | z
  . rw [z];exact hfp.2.1
  . exact fun e=>hfp.2.2.2.2.1 x a z e.symm
 refine ⟨m,hn.sameBut sb hne,fun h' sb'=>⟨_,H',?_,q⟩⟩
 exact I''.turned (t':=s''.toks) (fun b o hb e=>sb'.extBut b o hb e) hfp.1 hfp.2.1 hfp.2.2.2.1 hfp.2.2.2.2.1 hfp.2.2.2.2.2
end
section
variable {X:Cx}
theorem PE.imp {e:Expr} {t t':TE} (h:PE X e t) (hi:∀U H Q,t' U H Q->t U H Q):PE X e t':=fun pins s U H Q I q=>h pins s U H Q I (hi U H Q q)
theorem PT.imp {e:Expr} {t t':TT} (h:PT X e t) (hi:∀U H Q,t' U H Q->t U H Q):PT X e t':=fun pins s U H Q I q=>h pins s U H Q I (hi U H Q q)
theorem OpR.imp {f:Value->Value->Sem Value} {r r':R2} (h:OpR X f r) (hi:∀x y H Q,r' x y H Q->r x y H Q):OpR X f r':=fun pins s U H x y v u Q I rx ry q=>h pins s U H x y v u Q I rx ry (hi x y H Q q)
theorem UnR.imp {f:Value->Sem Value} {r r':V->Hp->VK->Prop} (h:UnR X f r) (hi:∀x H Q,r' x H Q->r x H Q):UnR X f r':=fun pins s U H x v Q I rx q=>h pins s U H x v Q I rx (hi x H Q q)
theorem CallR.imp {f:Value} {r r':List V->Hp->VK->Prop} (h:CallR X f r) (hi:∀xs H Q,r' xs H Q->r xs H Q):CallR X f r':=fun pins s U H xs us Q I rx q=>h pins s U H xs us Q I rx (hi xs H Q q)
end
noncomputable def B5 (i:Nat):TE:=fun U H Q=>match U[i]? with | some (some v)=>Q v H | _=>False
theorem pw {X:Cx} (i:Nat) {x:Str} {pos:Pos} (hN:X.N[i]?=some x:=by rfl) (hv:Vis X.env.scope x:=by first | exact Or.inl rfl | exact Or.inr (Or.inl rfl) | exact Or.inr (Or.inr rfl)) (hd:(x==("__debug__":Str))=false:=by decide)
  (hcd:(x==("__classdict__":Str))=false:=by decide):PE X (.Name x pos) (B5 i):=
 (Qp hN hv hd hcd).imp fun U H Q q=>by
  unfold B5 at q;unfold Zv;split at q
  . rename_i v e;exact ⟨v,e,q⟩
  . exact q.elim
noncomputable def cI (g:Int->Int->V):R2:=fun x y H Q=>match x,y with | .int i,.int j=>Q (g i j) H | _,_=>False
noncomputable def cIC (C:Int->Int->Prop) (g:Int->Int->V):R2:=fun x y H Q=>match x,y with | .int i,.int j=>C i j/\Q (g i j) H | _,_=>False
theorem OpR.cI {X:Cx} {f:Value->Value->Sem Value} {g:Int->Int->V} (h:OpR X f (rI0 g)):OpR X f (cI g):=h.imp fun x y H Q q=>by cases x<;>cases y<;>first | exact ⟨_,_,rfl,rfl,q⟩ | exact q.elim
theorem OpR.cIC {X:Cx} {f:Value->Value->Sem Value} {C:Int->Int->Prop} {g:Int->Int->V} (h:OpR X f (rI C g)):OpR X f (cIC C g):=h.imp fun x y H Q q=>by cases x<;>cases y<;>first | exact ⟨_,_,rfl,rfl,q.1,q.2⟩ | exact q.elim
section
variable {X:Cx}
theorem n8:OpR X (binaryOp .Add) (cI fun i j=>.int (i+j)):=op_add.cI
theorem D6:OpR X (binaryOp .Sub) (cI fun i j=>.int (i - j)):=op_sub.cI
theorem jv:OpR X (binaryOp .Mult) (cIC CMul fun i j=>.int (i * j)):=op_mul.cIC
theorem Qi:OpR X (binaryOp .FloorDiv) (cIC N2 fun i j=>.int (i / j)):=op_fdiv.cIC
theorem K9:OpR X (binaryOp .Mod) (cIC (fun _ j=>0<j) fun i j=>.int (i % j)):=op_mod.cIC
theorem V8:OpR X (compareOp .Lt) (cI fun i j=>.bl (decide (i<j))):=op_lt.cI
theorem Ee:OpR X (compareOp .LtE) (cI fun i j=>.bl (decide (i<=j))):=op_le.cI
theorem Ed:OpR X (compareOp .Gt) (cI fun i j=>.bl (decide (j<i))):=op_gt.cI
def cU (g:Int->V):V->Hp->VK->Prop:=fun x H Q=>match x with | .int i=>Q (g i) H | _=>False
theorem X3:UnR X (unaryOp .USub) (cU fun i=>.int (-i)):=un_neg.imp fun x H Q q=>by cases x<;>first | exact ⟨_,rfl,q⟩ | exact q.elim
end
noncomputable def y3 (H:Hp) (p:Addr):Option (List V):=match H p with
 | some (.lst xs)=>some xs
 | some (.tup xs)=>some xs
 | some (.frz _ (.lst xs))=>some xs
 | some (.frz _ (.tup xs))=>some xs
 | _=>none
theorem Uq {K:Frag} {H:Hp} {p:Addr} {xs:List V} (h:y3 H p=some xs):SqL K H p xs\/SqT K H p xs:=by
 unfold y3 at h;split at h;all_goals first | (cases h;done) | skip
 . rename_i ys e;cases h;exact .inl (.inl (.inl e))
 . rename_i ys e;cases h;exact .inr (.inl (.inl e))
 . rename_i o ys e;cases h;exact .inl (.inl (.inr ⟨_,e⟩))
 . rename_i o ys e;cases h;exact .inr (.inl (.inr ⟨_,e⟩))
theorem Vt {H:Hp} {p:Addr} {xs:List V} (h:H p=some (.lst xs)):y3 H p=some xs:=by unfold y3;rw [h]
theorem Vs {H:Hp} {p:Addr} {xs:List V} (h:H p=some (.tup xs)):y3 H p=some xs:=by unfold y3;rw [h]
noncomputable def cIx:R2:=fun x y H Q=>match x,y with
 | .ref p,.int i=>(match y3 H p with
  | some xs=>(match atI xs i with | some v=>Q v H | none=>False)
  | none=>False)
 | .str z,.int i=>z.length<=sizeLine/\(match atI z.cps.toList i with | some c=>Q (.str ⟨#[c]⟩) H | none=>False)
 | _,_=>False
def K8 (x:V) (H:Hp) (Q:Bool->Hp->Prop):Prop:=match x with
 | .bl b=>Q b H
 | .int i=>Q (i != 0) H
 | .non=>Q false H
 | .str y=>y.length<=sizeLine/\Q ((y.length:Int) != 0) H
 | .ref p=>(match y3 H p with
  | some xs=>Q (!xs.isEmpty) H
  | none=>(match H p with | some (.dK kvs)=>Q (!kvs.isEmpty) H | _=>False))
 | _=>False
theorem Up {K:Frag} {x:V} {H:Hp} {Q:Bool->Hp->Prop} (h:K8 x H Q):∃k,Zn K x H k/\Q k H:=by
 cases x with
 | bl b=>exact ⟨b,rfl,h⟩
 | int i=>exact ⟨_,rfl,h⟩
 | non=>exact ⟨_,rfl,h⟩
 | str y=>exact ⟨_,⟨h.1,rfl⟩,h.2⟩
 | ref p=>
  unfold K8 at h
  dsimp only at h
  split at h
  . rename_i xs e;rcases Uq (K:=K) e with z | z
    . exact ⟨_,.inl ⟨xs,z,rfl⟩,h⟩
    . exact ⟨_,.inr (.inl ⟨xs,z,rfl⟩),h⟩
  . split at h
    . rename_i kvs e;exact ⟨_,.inr (.inr ⟨kvs,e,rfl⟩),h⟩
    . exact h.elim
 | _=>exact h.elim
noncomputable def y39 (t:TE):TT:=fun U H Q=>t U H fun x H'=>K8 x H' Q
section
variable {X:Cx} {a b c:Expr} {ta tb:TE} {pos:Pos}
theorem qH (ha:PE X a ta) (he:∀whole,isTrue a X.env whole=(do let v <-whole;standAt a.pos;holding [v] (truthy v)):=by intro _;rfl):PT X a (y39 ta):=by intro pins s U H Q I h;exact isTrue_plain (thn (ha pins s U H _ I h) fun v s1 ⟨x,H1,I1,r1,q1⟩=>Qj pins s1 U H1 x v Q I1 r1 (Up q1)) (he _)
noncomputable def Fm (t:TE):TT:=fun U H Q=>t U H fun x H'=>match x with | .bl k=>Q k H' | _=>False
theorem wC {op:CmpOp} {r:R2} (ho:OpR X (compareOp op) r) (ha:PE X a ta) (hb:PE X b tb) (hm:behindInMarks op b=false):PT X (.Compare a [op] [b] pos) (Fm (tOp r ta tb)):=by
 intro pins s U H Q I h;refine wpAny_isTrue_Compare1 (thn (ha pins s U H _ I h) fun v s1 ⟨x,H1,I1,r1,q1⟩=>thn (hb pins s1 U H1 _ I1 q1) fun u s2 ⟨y,H2,I2,r2,q2⟩=>
  thn (ho pins s2 U H2 x y v u _ I2 r1 r2 q2) fun c s3 ⟨z,H3,I3,r3,q3⟩=>?_) hm
 cases z<;>first | exact q3.elim | skip
 cases r3;exact wpAny_truthy_bool ⟨H3,I3,q3⟩
end
section
variable {X:Cx} {a b c:Expr} {ta tb:TE} {pos:Pos}
def PChT (X:Cx) (ops:List CmpOp) (rs:List Expr) (t:V->TT):Prop:=
 ∀(pos:Pos) (pins:List (Addr×Obj)) (s:Shared) (U:St) (H:Hp) (x:V) (v:Value) (Q:Bool->Hp->Prop),Inv X pins U H s->RelV x v->t x U H Q->wpAny (model X.prog X.w) X.A (testChain pos v ops (evalEach rs X.env)) (TP X pins U Q) X.xe s
noncomputable def y3a (r:R2) (tb:TE) (t:V->TE):V->TE:=fun x U H Q=>tb U H fun y H2=>r x y H2 fun z H3=>match z with | .bl k=>(if k=true then t y U H3 Q else Q (.bl false) H3) | _=>False
noncomputable def Qh (r:R2) (tb:TE):V->TT:=fun x U H Q=>tb U H fun y H2=>r x y H2 fun z H3=>match z with | .bl k=>Q k H3 | _=>False
noncomputable def Qg (r:R2) (tb:TE) (t:V->TT):V->TT:=fun x U H Q=>tb U H fun y H2=>r x y H2 fun z H3=>match z with | .bl k=>(if k=true then t y U H3 Q else Q false H3) | _=>False
theorem yP {op:CmpOp} {r:R2} (ho:OpR X (compareOp op) r) (hb:PE X b tb):PChT X [op] [b] (Qh r tb):=by
 intro pos pins s U H x v Q I rx h;refine test_last (thn (hb pins s U H _ I h) fun u s2 ⟨y,H2,I2,r2,q2⟩=>thn (ho pins s2 U H2 x y v u _ I2 rx r2 q2) fun d s3 ⟨z,H3,I3,r3,q3⟩=>?_);cases z<;>first | exact q3.elim | skip
 cases r3;exact wpAny_truthy_bool ⟨H3,I3,q3⟩
theorem yO {op op':CmpOp} {ops:List CmpOp} {r':Expr} {rs:List Expr} {r:R2} {t:V->TT} (ho:OpR X (compareOp op) r) (hb:PE X b tb) (hr:PChT X (op'::ops) (r'::rs) t):PChT X (op::op'::ops) (b::r'::rs) (Qg r tb t):=by
 intro pos pins s U H x v Q I rx h;refine test_link (thn (hb pins s U H _ I h) fun u s2 ⟨y,H2,I2,r2,q2⟩=>thn (ho pins s2 U H2 x y v u _ I2 rx r2 q2) fun d s3 ⟨z,H3,I3,r3,q3⟩=>?_);cases z<;>first | exact q3.elim | skip
 rename_i k;cases r3;refine wpAny_truthy_bool ?_;cases k with
 | false=>exact ite_ff ⟨H3,I3,by simpa using q3⟩
 | true=>exact ite_tt (hr pos pins s3 U H3 y u Q I3 r2 (by simpa using q3))
noncomputable def Nu (ta:TE) (t:V->TT):TT:=fun U H Q=>ta U H fun x H1=>t x U H1 Q
theorem qG {op₁ op₂:CmpOp} {ops:List CmpOp} {r₁ r₂:Expr} {rs:List Expr} {t:V->TT} (ha:PE X a ta) (hr:PChT X (op₁::op₂::ops) (r₁::r₂::rs) t) (hm:lastMarks (op₁::op₂::ops) (r₁::r₂::rs)=false:=by with_unfolding_all rfl) :
  PT X (.Compare a (op₁::op₂::ops) (r₁::r₂::rs) pos) (Nu ta t):=by
 intro pins s U H Q I h
 exact isTrue_chain (thn (ha pins s U H _ I h) fun v s1 ⟨x,H1,I1,r1,q1⟩=>hr pos pins s1 U H1 x v Q I1 r1 q1) hm
noncomputable def Nt (ta tb:TE):TE:=fun U H Q=>ta U H fun x H1=>match x with | .bl c=>(if c=true then tb U H1 Q else Q (.bl false) H1) | _=>False
end
section
variable {X:Cx} {a b c:Expr} {ta tb:TE} {pos:Pos} {rest:List Expr}
theorem wB (ha:PE X a ta) (hb:PE X (.BoolOp .And (b::rest) pos) tb):PE X (.BoolOp .And (a::b::rest) pos) (Nt ta tb):=by
 intro pins s U H Q I h;refine BoolOp_and (thn (ha pins s U H _ I h) fun v s1 ⟨x,H1,I1,r1,q1⟩=>?_);cases x<;>first | exact q1.elim | skip
 rename_i k;cases r1;refine wpAny_truthy_bool ?_;cases k with
 | true=>exact ite_tt (hb pins s1 U H1 Q I1 (by simpa using q1))
 | false=>exact ite_ff ⟨.bl false,H1,I1,rfl,by simpa using q1⟩
noncomputable def ju (ta:TE):TE:=fun U H Q=>ta U H fun x H1=>K8 x H1 fun k H2=>Q (.bl (!k)) H2
theorem wA (ha:PE X a ta):PE X (.UnaryOp .Not a pos) (ju ta):=by intro pins s U H Q I h;refine UnaryOp_ (thn (ha pins s U H _ I h) fun v s1 ⟨x,H1,I1,r1,q1⟩=>not_of ?_);exact thn (Qj pins s1 U H1 x v _ I1 r1 (Up q1)) fun k s2 ⟨H2,I2,q2⟩=>⟨.bl (!k),H2,I2,rfl,q2⟩
noncomputable def G4 (H:Hp):V->Option String
 | .non=>some "NoneType"
 | .bl _=>some "bool"
 | .int _=>some "int"
 | .str _=>some "str"
 | .ref a=>(match H a with
  | some (.lst _)=>some "list"
  | some (.frz _ (.lst _))=>some "list"
  | some (.tup _)=>some "tuple"
  | some (.dK _)=>some "dict"
  | some (.dT _)=>some "dict"
  | _=>none)
 | _=>none
noncomputable def C7 (t c:String):Bool:=t==c||(t=="bool"&&c=="int")
noncomputable def D5 (c:String):Bool:=["int","bool","str","list","tuple","dict"].contains c
theorem J5 {K:Frag} {t c:String} (ht:["NoneType","bool","int","str","list","tuple","dict"].contains t=true) (hc:D5 c=true):PySem.W.kitOne K (.type t) (.type c)=some (C7 t c):=by
 have h1:t="NoneType"\/t="bool"\/t="int"\/t="str"\/t="list"\/t="tuple"\/t="dict":=by simpa using ht
 have h2:c="int"\/c="bool"\/c="str"\/c="list"\/c="tuple"\/c="dict":=by simpa [D5] using hc
 rcases h1 with rfl | rfl | rfl | rfl | rfl | rfl | rfl<;>rcases h2 with rfl | rfl | rfl | rfl | rfl | rfl<;>first | rfl | (with_unfolding_all rfl)
theorem xY:CallR X (.builtin "isinstance") (fun xs H Q=>match xs with
  | [x,.ty c]=>D5 c=true/\(match G4 H x with | some t=>Q (.bl (C7 t c)) H | none=>False)
  | _=>False):=by
 intro pins s U H xs us Q I r h
 split at h
 . rename_i x c;obtain ⟨hc,h⟩:=h;obtain ⟨u,w',rfl,ru,rw'⟩:=Bt r;cases rw';split at h
   . rename_i t et;have fin:∀(tk:Nat),EP X pins U Q (.bool (C7 t c)) { s with toks:=tk }:=fun tk=>⟨.bl _,H,I.tok _,rfl,h⟩
     cases x<;>simp only [G4] at et
     case non=>cases et;exact J6 I ru .non (J5 (by decide) hc) fin
     case bl b=>cases et;exact J6 I ru (.bl b) (J5 (by decide) hc) fin
     case int b=>cases et;exact J6 I ru (.int b) (J5 (by decide) hc) fin
     case str b=>cases et;exact J6 I ru (.str b) (J5 (by decide) hc) fin
     case ref a=>
      split at et<;>first | (cases et;done) | skip
      . rename_i ys e;cases et;exact J6 I ru (.lst e) (J5 (by decide) hc) fin
      . rename_i o ys e;cases et;exact J6 I ru (.frz e) (J5 (by decide) hc) fin
      . rename_i ys e;cases et;exact J6 I ru (.tup e) (J5 (by decide) hc) fin
      . rename_i ys e;cases et;exact J6 I ru (.dK e) (J5 (by decide) hc) fin
      . rename_i ys e;cases et;exact J6 I ru (.dT e) (J5 (by decide) hc) fin
     all_goals cases et
   . exact h.elim
 . exact h.elim
theorem yN (hc:X.calm=true):CallR X (.builtin "sum") (fun xs H Q=>match xs with
  | [.ref p]=>∃ns:List Int,y3 H p=some (ns.map V.int)/\Q (.int ns.sum) H
  | _=>False):=by
 intro pins s U H xs us Q I r h
 split at h
 . rename_i p;obtain ⟨ns,e,q⟩:=h;obtain ⟨u,rfl,ru⟩:=t9 r;cases ru;have key:∀{its:List Value},Vals (ns.map V.int) its->∃ys:Array (Int×Tok),its.toArray=intItems ys/\preSum (numAt ys) ys.size=ns.sum:=fun {its} rv=>by
    have hi:=Do rv;obtain ⟨ys,hx⟩:=hi.allInts.items;refine ⟨ys,hx,?_⟩;have e1:ns=ys.toList.map (·.1):=by rw [<-nums_intItems,<-hx];exact (show numsOf its.toArray.toList=ns from hi.numsOf).symm
    rw [preSum_eq,List.take_of_length_le (by simp),e1]
   rcases Uq (K:=X.K) e with hq | hq
   . obtain ⟨its,rv,pl,_⟩:=I.list hq;obtain ⟨ys,hx,es⟩:=key rv;refine sum_intListG (I.ok.hd hc) (hx ▸ pl.isList) fun h' tk t' hk=>?_
     rw [es];exact ⟨.int ns.sum,H,I.kept hk,⟨_,rfl⟩,q⟩
   . obtain ⟨its,rv,pl,_⟩:=I.tuple hq;obtain ⟨ys,hx,es⟩:=key rv;refine PySem.W.ktm_sumG (I.ok.hd hc) (hx ▸ pl) fun h' tk t' hk=>?_
     rw [es];exact ⟨.int ns.sum,H,I.kept hk,⟨_,rfl⟩,q⟩
 . exact h.elim
abbrev X2 (s:Shared) (L:Addr):List (Addr×Obj):=Aa (Att.noObjs s.heap) s.heap L
section
variable {pins:List (Addr×Obj)} {U:St} {H:Hp} {s:Shared} {h':Heap} {m:Str->Option Value}
theorem Wq {L:Addr} (N:News (Att.noObjs s.heap) L h' (X2 s L)):∀b o,b≠L->s.heap.get? b=some o->h'.get? b=some o:=fun b o hb e=>(N (b,o) (Xd hb (Att.noObjs_get _ _) e)).1
theorem Inv.frn {tk:Nat} (I:Inv X pins U H s) (hn:s.heap.Ns X.env.locals m) (F:Fr (Att.noObjs s.heap) X.env.locals h' m) (N:News (Att.noObjs s.heap) X.env.locals h' (X2 s X.env.locals)):Inv X pins U H { s with heap:=h',toks:=tk }:=by
 have kept:=Wq N;refine I.step (g':=s.gens) (d':=s.drawn) (ch:=[]) (fun _ z=>nomatch z) (fun b o hL _ _ e _=>kept b o hL e) (fun b o hL _ _ e _=>⟨o.slots,kept b o hL e⟩) (fun _ _ _ _ n=>n) (fun b o _ e=>?_) (fun _ _ e=>e) (fun _ _ _ e=>e) (fun b ps e=>⟨#[],by rw [e];simp⟩) (fun m' hm=>?_) (fun b u e=>?_) I.bare
 . by_cases hb:b=X.env.locals
   . subst hb;obtain ⟨o',_,_,ho',_⟩:=F.ns;exact ⟨o',ho'⟩
   . exact ⟨o,kept b o hb e⟩
 . rw [hm.eq_nsMap,<-hn.eq_nsMap];exact F.ns
 . refine (I.hok b u e).stay (fun c v hc q=>kept c v ?_ q) (fun _ q=>q) fun _ _ q=>q
   intro z;rcases hc with hc | hc
   . rw [<-hc,z,I.free] at e;cases e
   . rw [z,I.free] at hc;cases hc
theorem Inv.frnew {tk:Nat} {D:Addr} {ob:Obj} {o:HO} (I:Inv X pins U H s) (hn:s.heap.Ns X.env.locals m) (F:Fr (Att.noObjs s.heap) X.env.locals h' m) (N:News (Att.noObjs s.heap) X.env.locals h' ((D,ob)::X2 s X.env.locals))
  (hD:s.heap.get? D=none) (new:ObjOk X.prog X.w (upd H D o) h' D o):H D=none/\Inv X pins U (upd H D o) { s with heap:=h',toks:=tk }:=by
 have kept:=Wq (fun p hp=>N p (.tail _ hp))
 have hDL:D≠X.env.locals:=(N (D,ob) (.head _)).2.1
 have neD:∀b o,s.heap.get? b=some o->b≠D:=fun b o e z=>by rw [z,hD] at e;cases e
 have HD:H D=none:=by
  cases q:H D with
  | none=>rfl
  | some u=>
   have:=(I.hok D u q).lt
   obtain ⟨v,hv⟩:∃v,s.heap.get? D=some v:=by
    have z:=I.hok D u q;cases u with
    | lst xs=>obtain ⟨_,_,_,_,e⟩:=z;exact ⟨_,e⟩
    | tup xs=>obtain ⟨_,_,_,o,e,_⟩:=z;exact ⟨_,e⟩
    | dK kvs=>obtain ⟨_,_,_,_,o,_,_,e,_⟩:=z;exact ⟨_,e⟩
    | dT kvs=>obtain ⟨_,_,_,_,o,_,_,e,_⟩:=z;exact ⟨_,e⟩
    | set S n=>obtain ⟨_,_,_,_,e,_⟩:=z;exact ⟨_,e⟩
    | ins C dx fs=>obtain ⟨_,_,_,e,_⟩:=z;exact ⟨_,e⟩
    | own x=>exact z
    | xd fs=>obtain ⟨mA,n1,_⟩:=z;obtain ⟨o,_,_,e,_⟩:=n1;exact ⟨o,e⟩
    | met f x=>exact ⟨_,z⟩
    | rng lo hi=>obtain ⟨_,_,_,e⟩:=z;exact ⟨_,e⟩
    | frz o u=>exact ⟨_,z.1⟩
    | tbl ps=>exact ⟨_,z⟩
    | ctb q=>obtain ⟨_,e,_⟩:=z;exact ⟨_,e⟩
    | ext φ=>exact z.2.1
   rw [hD] at hv;cases hv
 refine ⟨HD,I.step (g':=s.gens) (d':=s.drawn) (ch:=[]) (fun _ z=>nomatch z) (fun b o hL _ _ e _=>kept b o hL e) (fun b o hL _ _ e _=>⟨o.slots,kept b o hL e⟩) (fun b ob _ e n=>by rw [h8 (neD b ob e)];exact n) (fun b o _ e=>?_)
  (fun b xs e=>by rw [h8 (t7 e HD)];exact e) (fun b u xs e=>by rw [h8 (t7 e HD)];exact e) (fun b ps e=>⟨#[],by rw [h8 (t7 e HD),e];simp⟩) (fun m' hm=>?_) (fun b u e=>?_) I.bare⟩
 . by_cases hb:b=X.env.locals
   . subst hb;obtain ⟨o',_,_,ho',_⟩:=F.ns;exact ⟨o',ho'⟩
   . exact ⟨o,kept b o hb e⟩
 . rw [hm.eq_nsMap,<-hn.eq_nsMap];exact F.ns
 . by_cases hb:b=D
   . subst hb;rw [m7] at e;cases e;exact new
   . rw [h8 hb] at e;refine (I.hok b u e).stay (fun c v hc q=>kept c v ?_ q) (fun c q=>?_) fun c xs q=>?_
     . intro z;rcases hc with hc | hc
       . rw [<-hc,z,I.free] at e;cases e
       . rw [z,I.free] at hc;cases hc
     . rw [h8 (t7 q HD)];exact q
     . rw [h8 (t7 q HD)];exact q
end
theorem zM {bs:List Bool}:∀{us:List Value},Vals (bs.map V.bl) us->LSm.BoolsAre us bs:=by
 induction bs with
 | nil=>intro us r;cases r;exact .nil
 | cons b bs ih=>
  intro us r
  cases r with
  | cons r1 r2=>cases r1;exact .cons b (ih r2)
theorem yM (hc:X.calm=true):CallR X (.builtin "all") (fun xs H Q=>match xs with
  | [.ref p]=>∃bs:List Bool,Rd H p (.lst (bs.map V.bl))/\Q (.bl (bs.all id)) H
  | _=>False):=by
 intro pins s U H xs us Q I r h
 split at h
 . rename_i p;obtain ⟨bs,e,q⟩:=h;obtain ⟨u,rfl,ru⟩:=t9 r;cases ru;obtain ⟨its,rv,pl,_⟩:=I.list (.inl e);obtain ⟨m,hn,_⟩:=id I.loc;exact LSm.all_bools (Att.fr_all hn) (Jx (g:=Att.noObjs s.heap) (L:=X.env.locals)) (I.ok.hd hc) pl.isList (zM rv) fun h' tk F N=>⟨.bl _,H,I.frn hn F N,rfl,q⟩
 . exact h.elim
theorem yL:CallR X (.type "int") (fun xs H Q=>match xs with | [.int i]=>Q (.int i) H | [.bl k]=>Q (.int (if k then 1 else 0)) H | _=>False):=call_int1.imp fun xs H Q q=>by
 split at q
 . exact .inl ⟨_,rfl,q⟩
 . exact .inr ⟨_,rfl,q⟩
 . exact q.elim
end
noncomputable def ItS (S:Hp->Prop) (xs:List V):It:=⟨fun i H=>S H/\i<xs.length,fun i H x H'=>H'=H/\xs[i]?=some x,fun i H=>S H/\xs.length<=i⟩
theorem Turn.conv {P:Program} {w:World} {K:Frag} {tg:Expr} {J J':It} {fp:List Addr} {it:Addr} {tn:Nat->Heap->Prop} (T:Turn P w K tg J fp it tn) (h1:∀i H,J'.go i H->J.go i H) (h2:∀i H x H',J'.go i H->J.yld i H x H'->J'.yld i H x H')
  (h3:∀i H,J'.stop i H->J.stop i H):Turn P w K tg J' fp it tn where
 mem:=T.mem
 obj:=T.obj
 keep:=T.keep
 item:=fun X a b c d i pins s U H E I hf st hg=>thn (T.item X a b c d i pins s U H E I hf st (h1 i H hg)) fun r s1 ⟨u,e,h⟩=>⟨u,e,thn h fun _ s2 ⟨x,H',I',r',y',st',fr'⟩=>⟨x,H',I',r',h2 i H x H' hg y',st',fr'⟩⟩
 done:=fun X a b c d i pins s U H E I hf st hg=>T.done X a b c d i pins s U H E I hf st (h3 i H hg)
 self:=T.self
section
variable {X:Cx} {tg:Expr}
def R0 (x:V) (H1:Hp) (R:It->Hp->Prop):Prop:=match x with
 | .ref a=>(match H1 a with
  | some (.lst xs)=>R (ItS (fun H'=>Rd H' a (.lst xs)) xs) H1
  | some (.frz _ (.lst xs))=>R (ItS (fun H'=>Rd H' a (.lst xs)) xs) H1
  | some (.tup xs)=>R (ItS (fun H'=>H' a=some (.tup xs)) xs) H1
  | _=>False)
 | _=>False
theorem xX {a:Addr} {H:Hp} {R:It->Hp->Prop} {xs:List V} (h:Rd H a (.lst xs)) (r:R (ItS (fun H'=>Rd H' a (.lst xs)) xs) H):R0 (.ref a) H R:=by
 unfold R0;rcases h with h | ⟨o,h⟩
 . dsimp only;rw [h];exact r
 . dsimp only;rw [h];exact r
theorem xW {a:Addr} {H:Hp} {R:It->Hp->Prop} {xs:List V} (h:H a=some (.tup xs)) (r:R (ItS (fun H'=>H' a=some (.tup xs)) xs) H):R0 (.ref a) H R:=by unfold R0;dsimp only;rw [h];exact r
noncomputable def y3b (K:Frag) (tl:TE):TI:=fun U H R=>tl U H fun x H1=>R0 x H1 R
theorem qF {l:Expr} {tl:TE} (hl:PE X l tl):PI X tg l (y3b X.K tl):=by
 intro pins s U H R I h;refine thn (hl pins s U H _ I h) fun v s1 ⟨x,H1,I1,r1,q1⟩=>?_
 cases x<;>first | exact q1.elim | skip
 rename_i a;cases r1;unfold R0 at q1;dsimp only at q1;have asList:∀xs,Rd H1 a (.lst xs)->R (ItS (fun H'=>Rd H' a (.lst xs)) xs) H1->wpAny (model X.prog X.w) X.A (pyIter (.ref a)) (PIE X pins U tg R) X.xe s1:=fun xs hq q=>by
  obtain ⟨its,rv,p,hz⟩:=I1.list (.inl hq);refine wpAny_pyIter_list p.isList ?_;refine ⟨s1.heap.objs.size,[s1.heap.objs.size],_,_,H1,rfl,I1.kept (t':=s1.toks) fun b o e=>Heap.get?_push_of_some _ e,(yZ a _).conv ?_ ?_ ?_,⟨_,Heap.get?_push_size _ rfl,rfl,rfl⟩,fun b hb=>?_,q⟩
  . exact fun i H' ⟨h1,h2⟩=>⟨xs,xs[i],.inl h1,by simp [h2]⟩
  . exact fun i H' x H'' ⟨h1,h2⟩ ⟨e,y⟩=>⟨e,y xs (.inl h1)⟩
  . exact fun i H' ⟨h1,h2⟩=>⟨xs,.inl h1,h2⟩
  . have e:b=s1.heap.objs.size:=by simpa using hb
    subst e;exact I1.fpOk (Nat.le_refl _) (I1.hok.fresh (Nat.le_refl _))
 split at q1
 . rename_i xs e;exact asList xs (.inl e) q1
 . rename_i o xs e;exact asList xs (.inr ⟨o,e⟩) q1
 . rename_i xs e;obtain ⟨its,rv,p,hz⟩:=I1.tuple (.of e);refine wpAny_pyIter_tuple (show s1.heap.IsTuple a its.toArray from p) ?_;refine ⟨s1.heap.objs.size,[s1.heap.objs.size],_,_,H1,rfl,I1.kept (t':=s1.toks) fun b o e=>Heap.get?_push_of_some _ e,(zz a _).conv ?_ ?_ ?_,⟨_,Heap.get?_push_size _ rfl,rfl,rfl⟩,fun b hb=>?_,q1⟩
   . exact fun i H' ⟨h1,h2⟩=>⟨xs,xs[i],.of h1,by simp [h2]⟩
   . exact fun i H' x H'' ⟨h1,h2⟩ ⟨e,y⟩=>⟨e,y xs (.of h1)⟩
   . exact fun i H' ⟨h1,h2⟩=>⟨xs,.of h1,h2⟩
   . have e:b=s1.heap.objs.size:=by simpa using hb
     subst e;exact I1.fpOk (Nat.le_refl _) (I1.hok.fresh (Nat.le_refl _))
 . exact q1.elim
noncomputable def x3 (lo:Int) (n:Nat):List V:=(List.range n).map fun (i:Nat)=>V.int (lo+i)
theorem Af (lo:Int) (n:Nat):(x3 lo n).length=n:=by simp [x3]
theorem Ti (lo:Int) (n i:Nat) (h:i<n):(x3 lo n)[i]?=some (.int (lo+i)):=by simp [x3,h]
noncomputable def iR1 (ta:TA):TI:=fun U H R=>ta U H fun vs H1=>match vs with | [.int j]=>(-(2 ^ 62)<=j/\j<2 ^ 62)/\R (ItS (fun _=>True) (x3 0 j.toNat)) H1 | _=>False
noncomputable def iR2 (ta:TA):TI:=fun U H R=>ta U H fun vs H1=>match vs with | [.int i,.int j]=>(-(2 ^ 62)<=i/\i<2 ^ 62/\-(2 ^ 62)<=j/\j<2 ^ 62)/\R (ItS (fun _=>True) (x3 i (j - i).toNat)) H1 | _=>False
theorem U6 (lo:Int) (n:Nat):(∀i (H:Hp),(ItS (fun _=>True) (x3 lo n)).go i H->(Itr lo n).go i H)/\(∀i H x H',(ItS (fun _=>True) (x3 lo n)).go i H->(Itr lo n).yld i H x H'->(ItS (fun _=>True) (x3 lo n)).yld i H x H') /\
  (∀i (H:Hp),(ItS (fun _=>True) (x3 lo n)).stop i H->(Itr lo n).stop i H):=by
 refine ⟨fun i H ⟨_,h⟩=>?_,fun i H x H' ⟨_,h⟩ ⟨e,y⟩=>⟨e,?_⟩,fun i H ⟨_,h⟩=>?_⟩
 . rw [Af] at h;exact h
 . rw [Af] at h;rw [y];exact Ti lo n i h
 . rw [Af] at h;exact h
end
def Zf (J:It) (g:TG) (tb:TS) (D:Ends) (U:St) (H1:Hp):Prop:=∃W:Nat->Nat->St->Hp->Prop,(∃m,W 0 m U H1)/\∀i m U H,W i m U H ->
 (J.stop i H/\D.nx U H)\/(J.go i H/\∃N:St->Hp->Prop,(∀σ' H',N σ' H'->∃m',m'<m/\W (i+1) m' σ' H')/\∀x H',J.yld i H x H'->g x U H' fun σ2 H2=>tb { D with nx:=N,ct:=N,bk:=D.nx } σ2 H2)
noncomputable def Nr (wi:TI) (g:TG) (tb:TS):TS:=fun D U H=>wi U H fun J H1=>Zf J g tb D U H1
theorem wz {X:Cx} {tg iter:Expr} {body:List Stmt} {wi:TI} {g:TG} {tb:TS} {pos:Pos} (hp:PassesOwn (model X.prog X.w) X.A X.env X.xe) (hc:X.calm=true) (hi:PI X tg iter wi) (hg:PG X tg g) (hb:PSs X body tb)
 (hs:∀x,foldedSetIterable iter X.env x=pure x:=by intro _;rfl):PS X (.For tg iter body [] pos) (Nr wi g tb):=qR hp hc hi hg hb hs
theorem Same.upd_new {H:Hp} {a:Addr} {o:HO} (h:H a=none):Same H (upd H a o):=fun b u e=>by rw [h8 (t7 e h)];exact e
theorem Same.upd_at {H H1:Hp} {a:Addr} {o:HO} (s:Same H H1) (h:H a=none):Same H (upd H1 a o):=fun b u e=>by rw [h8 (t7 e h)];exact s b u e
theorem y2m {prog:Program} {w:World} {A:Around} {E:Value->Shared->Prop} {s:Shared} {z TI TO i1 i2 l1 l2:Addr} (D:ZipApart z TI TO i1 i2 l1 l2) {xs ys:Array Value} {i:Nat} {Q:Option Value->Shared->Prop} (hi:i<min xs.size ys.size)
  (hz:IsZip s.heap z TI TO .none) (hTI:IsPair s.heap TI (.ref i1) (.ref i2)) (hTO:∃a b,IsPair s.heap TO a b) (h1:s.heap.IsListIter i1 l1 i) (h2:s.heap.IsListIter i2 l2 i) (g1:s.heap.IsList l1 xs) (g2:s.heap.IsList l2 ys)
  (q:∀T vals h' tk,(∃x y,xs[i]?=some x/\ys[i]?=some y/\vals=#[x,y])->s.heap.objs.size<=T->IsTp h' T vals->(IsZip h' z TI TO (rawInt T)/\IsPair h' TI (.ref i1) (.ref i2)/\(∃a b,IsPair h' TO a b)/\h'.IsListIter i1 l1 (i+1)/\h'.IsListIter i2 l2 (i+1)/\h'.IsList l1 xs/\h'.IsList l2 ys/\T≠z/\T≠TO/\T≠i1/\T≠i2) ->
   (∀c o,c∉[z,TO,i1,i2]->s.heap.get? c=some o->h'.get? c=some o)->Q (some (.ref T)) { s with heap:=h',toks:=tk }):wpAny (model prog w) A (pyNext (.ref z)) Q E s:=by
 obtain ⟨a,b,hTO⟩:=hTO
 have bx:i<xs.size:=by omega
 have by':i<ys.size:=by omega
 have gt:∀{c:Addr} {o:Obj},s.heap.get? c=some o->s.heap.objs.size≠c:=fun e z=>absurd (Heap.lt_size e) (by rw [z];exact Nat.lt_irrefl _)
 have n1:s.heap.objs.size≠i1:=by obtain ⟨_,e,_⟩:=h1;exact gt e
 have n2:s.heap.objs.size≠i2:=by obtain ⟨_,e,_⟩:=h2;exact gt e
 refine wpAny_pyNext_zip_item D hz hTI hTO h1 h2 g1 g2 (x:=xs[i]) (y:=ys[i]) (by simp [bx]) (by simp [by']) fun h' r1 r2 r3 r4 r5 _ kp=>?_
 have kl:∀c o,c∉[z,TO,i1,i2]->s.heap.get? c=some o->h'.get? c=some o:=fun c o hc e=>by simp only [List.mem_cons,List.not_mem_nil,or_false,not_or] at hc;exact kp c o hc.1 hc.2.1 hc.2.2.1 hc.2.2.2 e
 refine q s.heap.objs.size #[xs[i],ys[i]] h' s.toks ⟨_,_,by simp [bx],by simp [by'],rfl⟩ (Nat.le_refl _) (.mk' r5) ⟨r1,kp _ _ D.TIz D.TITO D.TIi1 D.TIi2 hTI,⟨_,_,r2⟩,r3,r4,?_,?_,gt hz,gt hTO,n1,n2⟩ kl
 . exact g1.at fun o e=>kp _ o D.l1z D.l1TO D.l1i1 D.l1i2 e
 . exact g2.at fun o e=>kp _ o D.l2z D.l2TO D.l2i1 D.l2i2 e
theorem wy {prog:Program} {w:World} {A:Around} {E:Value->Shared->Prop} {s:Shared} {e it l:Addr} (hei:e≠it) (hle:l≠e) (hli:l≠it) {items:Array Value} {i:Nat} {Q:Option Value->Shared->Prop} (hi:i<items.size)
  (he:∃old,IsEnum s.heap e it i old) (h1:s.heap.IsListIter it l i) (g1:s.heap.IsList l items)
  (q:∀T vals h' tk,(∃t x,items[i]?=some x/\vals=#[.int i t,x])->s.heap.objs.size<=T->IsTp h' T vals->((∃x,IsEnumOut h' e it ((i:Int)+1) x T)/\h'.IsListIter it l (i+1)/\h'.IsList l items/\T≠e/\T≠it) ->
   (∀c o,c∉[e,it]->s.heap.get? c=some o->h'.get? c=some o)->Q (some (.ref T)) { s with heap:=h',toks:=tk }):wpAny (model prog w) A (pyNext (.ref e)) Q E s:=by
 obtain ⟨old,he⟩:=he
 have gt:∀{c:Addr} {o:Obj},s.heap.get? c=some o->s.heap.objs.size≠c:=fun e z=>absurd (Heap.lt_size e) (by rw [z];exact Nat.lt_irrefl _)
 have n1:s.heap.objs.size≠it:=by obtain ⟨_,e,_⟩:=h1;exact gt e
 refine wpAny_pyNext_enum_item he h1 g1 (x:=items[i]) (by simp [hi]) hei fun h' r1 r2 r3 _ kp=>?_
 have kl:∀c o,c∉[e,it]->s.heap.get? c=some o->h'.get? c=some o:=fun c o hc e=>by simp only [List.mem_cons,List.not_mem_nil,or_false,not_or] at hc;exact kp c o hc.1 hc.2 e
 exact q s.heap.objs.size #[.int i s.toks,items[i]] h' (s.toks+1) ⟨_,_,by simp [hi],rfl⟩ (Nat.le_refl _) (.mk' r3) ⟨⟨_,r1⟩,r2,g1.at fun o e=>kp _ o hle hli e,gt he,n1⟩ kl
section
variable {X:Cx} {pins:List (Addr×Obj)} {U:St} {H:Hp} {s:Shared}
theorem Inv.turnedT {wr:List Addr} {h':Heap} {tk:Nat} {T:Addr} {xs:List V} {its:List Value} (I:Inv X pins U H s) (hw:∀b∈wr,o4 X pins H b) (k:∀b o,b∉wr->s.heap.get? b=some o->h'.get? b=some o)
  (hT:s.heap.objs.size<=T) (ht:IsTp h' T its.toArray) (rv:Vals xs its) (hz:xs.length<=sizeLine):Inv X pins U (upd H T (.tup xs)) { s with heap:=h',toks:=tk }:=by
 have HT:H T=none:=I.hok.fresh hT
 have nw:∀b u,H b=some u->b∉wr:=fun b u e z=>by rw [(hw b z).1] at e;cases e
 have neT:∀b o,s.heap.get? b=some o->b≠T:=fun b o e=>Nat.ne_of_lt (Nat.lt_of_lt_of_le (Heap.lt_size e) hT)
 refine I.step (g':=s.gens) (d':=s.drawn) (ch:=wr) (fun b hb=>⟨(hw b hb).2.2.2.1,(hw b hb).2.1,(hw b hb).2.2.2.2.1,(hw b hb).2.2.2.2.2⟩) (fun b o _ _ hc e _=>k b o hc e) (fun b o _ _ hc e _=>⟨o.slots,k b o hc e⟩)
  (fun b o _ e n=>by rw [h8 (neT b o e)];exact n) (fun b o hc e=>⟨o,k b o hc e⟩) (fun b ys e=>by rw [h8 (t7 e HT)];exact e) (fun b u ys e=>by rw [h8 (t7 e HT)];exact e)
  (fun b ps e=>⟨#[],by rw [h8 (t7 e HT),e];simp⟩) (fun m hm=>?_) (fun b u e=>?_) I.bare
 . obtain ⟨o,es,ep,ho,r⟩:=hm;exact ⟨o,es,ep,k _ o (fun z=>(hw _ z).2.1 rfl) ho,r⟩
 . by_cases hb:b=T
   . subst hb;rw [m7] at e;cases e;exact ⟨hz,its,rv,ht⟩
   . rw [h8 hb] at e;refine (I.hok b u e).stay (fun c v hc q=>k c v ?_ q) (fun c q=>?_) fun c ys q=>?_
     . rcases hc with z | z
       . rw [z];exact nw b u e
       . exact nw c _ z
     . rw [h8 (t7 q HT)];exact q
     . rw [h8 (t7 q HT)];exact q
end
section
variable {X:Cx} {pins:List (Addr×Obj)} {U:St} {H:Hp} {s:Shared}
theorem Inv.turnedN {wr:List Addr} {h':Heap} {tk:Nat} (I:Inv X pins U H s) (hw:∀b∈wr,o4 X pins H b) (k:∀b o,b∉wr->s.heap.get? b=some o->h'.get? b=some o):Inv X pins U H { s with heap:=h',toks:=tk }:=by
 have nw:∀b u,H b=some u->b∉wr:=fun b u e z=>by rw [(hw b z).1] at e;cases e
 refine I.step (g':=s.gens) (d':=s.drawn) (ch:=wr) (fun b hb=>⟨(hw b hb).2.2.2.1,(hw b hb).2.1,(hw b hb).2.2.2.2.1,(hw b hb).2.2.2.2.2⟩) (fun b o _ _ hc e _=>k b o hc e) (fun b o _ _ hc e _=>⟨o.slots,k b o hc e⟩)
  (fun b o _ e n=>n) (fun b o hc e=>⟨o,k b o hc e⟩) (fun b ys e=>e) (fun b u ys e=>e) (fun b ps e=>⟨#[],by rw [e];simp⟩) (fun m hm=>?_) (fun b u e=>?_) I.bare
 . obtain ⟨o,es,ep,ho,r⟩:=hm;exact ⟨o,es,ep,k _ o (fun z=>(hw _ z).2.1 rfl) ho,r⟩
 . refine (I.hok b u e).stay (fun c v hc q=>k c v ?_ q) (fun c q=>q) fun c ys q=>q
   rcases hc with z | z
   . rw [z];exact nw b u e
   . exact nw c _ z
end
noncomputable def ItP (S:Hp->Prop) (ps:List (V×V)):It:=⟨fun i H=>S H/\i<ps.length,fun i H x H'=>∃T a b,x=.ref T/\H T=none/\H'=upd H T (.tup [a,b])/\ps[i]?=some (a,b),fun i H=>S H/\i=ps.length⟩
theorem Ck:2<=sizeLine:=by rw [sizeLine_eq];decide
theorem yK {P:Program} {w:World} {K:Frag} {elts:List Expr} {k:Nat} {pos:Pos} {e it l:Addr} {xs:List V} (hei:e≠it) (hle:l≠e) (hli:l≠it) :
  Turn P w K (.Tuple elts k pos) (ItP (fun H=>Rd H l (.lst xs)) ((x3 0 xs.length).zip xs)) [e,it] e (fun i h=>(∃old,IsEnum h e it i old)/\h.IsListIter it l i) where
 mem:=by simp
 obj:=fun i h ⟨⟨old,he⟩,⟨o1,h1,_,d1⟩⟩ c hc=>by
  have hc':c=e\/c=it:=by simpa using hc
  rcases hc' with rfl | rfl
  . exact ⟨_,he,fun v z=>by cases z⟩
  . exact ⟨o1,h1,fun v z=>by rw [d1] at z;cases z⟩
 keep:=fun i h h' ⟨⟨old,he⟩,h1⟩ kp=>⟨⟨old,kp e (by simp) _ he⟩,h1.at fun o z=>kp it (by simp) o z⟩
 item:=by
  intro X hP hw hK hc i pins s U H E I hf st hg;subst hP hw hK;obtain ⟨hS,hlt⟩:=hg;obtain ⟨he,h1⟩:=st;obtain ⟨its,r,p1,z1⟩:=I.list (.inl hS);have W:=WalksT.enumerate (prog:=X.prog) (w:=X.w) (A:=X.A) (I.ok.hd hc) e it l hei hle hli its.toArray;have le1:=r.length;have hlx:i<xs.length:=by rw [List.length_zip,Af] at hlt;omega
  have hlz:i<its.toArray.size:=by simp only [List.size_toArray];omega
  refine wy hei hle hli hlz he h1 p1.isList fun T vals h' tk hPt hT ht hM hk=>⟨.ref T,rfl,?_⟩
  refine W.go elts k pos i T _ _ _ hM fun h'' hst'' hk''=>?_
  obtain ⟨t,x,hx,rfl⟩:=hPt;obtain ⟨a,ea⟩:∃a,xs[i]?=some a:=⟨xs[i],by simp⟩;obtain ⟨u1,q1,ru1⟩:=r.get ea;have hx':its[i]?=some x:=by simpa using hx
  rw [q1] at hx';cases hx';obtain ⟨oT,hoT,hcT,nT,hdT⟩:=ht;have ht'':IsTp h'' T ([.int (i:Nat) t,x]:List Value).toArray:=⟨oT,hk'' T oT (W.apart i T _ hM) hoT,hcT,nT,hdT⟩;have sub:∀c∈[e,it],o4 X pins H c:=fun c hc'=>hf c hc'
  have I2:=I.turnedT (tk:=tk) (xs:=[.int (i:Nat),a]) (its:=[.int (i:Nat) t,x]) sub (fun c o hcw z=>hk'' c o hcw (hk c o hcw z)) hT ht'' (.cons ⟨_,rfl⟩ (.cons ru1 .nil)) Ck;have HT:H T=none:=I.hok.fresh hT;refine ⟨.ref T,upd H T (.tup [.int (i:Nat),a]),I2,rfl,⟨T,.int (i:Nat),a,rfl,HT,rfl,?_⟩,⟨hst''.1,hst''.2.1⟩,fun c hc'=>?_⟩
  . rw [List.getElem?_zip_eq_some];refine ⟨?_,ea⟩;rw [Ti 0 _ _ hlx];simp
  . rw [h8]
    . exact (hf c hc').1
    . intro ec;have hh:∃o,s.heap.get? c=some o:=by
       have hc'':c=e\/c=it:=by simpa using hc'
       obtain ⟨old,he'⟩:=he;obtain ⟨o1,g1,_⟩:=h1;rcases hc'' with z | z<;>subst z
       . exact ⟨_,he'⟩
       . exact ⟨_,g1⟩
      obtain ⟨o,ho⟩:=hh;exact absurd (Nat.lt_of_lt_of_le (Heap.lt_size ho) hT) (by rw [ec];exact Nat.lt_irrefl _)
 done:=by
  intro X hP hw hK hc i pins s U H E I hf st hg;subst hP hw hK;obtain ⟨hS,hle'⟩:=hg;obtain ⟨he,h1⟩:=st;obtain ⟨its,r,p1,z1⟩:=I.list (.inl hS);have W:=WalksT.enumerate (prog:=X.prog) (w:=X.w) (A:=X.A) (I.ok.hd hc) e it l hei hle hli its.toArray;have le1:=r.length;have hi:its.toArray.size=i:=by rw [List.length_zip,Af] at hle';simp only [List.size_toArray];omega
  rw [<-hi] at h1 he;exact W.done s _ _ ⟨he,h1,p1.isList⟩ fun h' tk hk=>⟨rfl,I.turnedN hf hk⟩
 self:=fun A i s Q E st h=>by obtain ⟨⟨old,he⟩,_⟩:=st;exact wpAny_pyIter_enum he h
section
variable {X:Cx} {a:Expr} {ta:TA} {p pos tpos:Pos} {elts:List Expr} {k:Nat}
noncomputable def y40 (ta:TA):TI:=fun U H R=>ta U H fun vs H1=>match vs with
 | [.ref l1,.ref l2]=>∃xs ys,Rd H1 l1 (.lst xs)/\Rd H1 l2 (.lst ys)/\R (ItP (fun H=>Rd H l1 (.lst xs)/\Rd H l2 (.lst ys)) (xs.zip ys)) H1
 | _=>False
theorem Vr {n l1 l2:Addr} (h1:l1<n) (h2:l2<n):ZipApart (n+4) (n+2) (n+3) n (n+1) l1 l2:=PySem.W.ktu_apart _ _ _ h1 h2
noncomputable def jt (ta:TA):TI:=fun U H R=>ta U H fun vs H1=>match vs with
 | [.ref l]=>∃xs,Rd H1 l (.lst xs)/\R (ItP (fun H=>Rd H l (.lst xs)) ((x3 0 xs.length).zip xs)) H1
 | _=>False
theorem wx (hg:Gl X "enumerate") (hm:X.mg "enumerate"=none) (ha:PA X [a] ta) (hs:starEach [a] X.env=[(false,eval a X.env)]:=by rfl) :
  PI X (.Tuple elts k tpos) (.Call (.Name "enumerate" p) [a] [] pos) (jt ta):=by
 intro pins s U H R I h
 refine Call_ (J0 I hg hm boot_enumerate (PyProof.Rows.callWith_type1 (thn (ha pos pins s U H _ I h) fun us s1 ⟨vs,H1,I1,r1,q1⟩=>?_) hs rfl))
 dsimp only at q1
 split at q1
 . rename_i l;obtain ⟨xs,e1,q⟩:=q1;obtain ⟨u,rfl,ru⟩:=t9 r1;cases ru;obtain ⟨its1,rr1,p1,_⟩:=I1.list (.inl e1);have lt1:l<s1.heap.objs.size:=by obtain ⟨o,ho,_⟩:=p1.isList;exact Heap.lt_size ho
   refine call_enumerate_list p1.isList fun h' he hi hsz hk=>?_
   refine wpAny_pyIter_enum he ⟨s1.heap.objs.size+1,[s1.heap.objs.size+1,s1.heap.objs.size],_,_,H1,rfl,I1.kept (t':=s1.toks) hk,yK (Nat.succ_ne_self _) (Nat.ne_of_lt (Nat.lt_succ_of_lt lt1)) (Nat.ne_of_lt lt1),⟨⟨_,he⟩,hi⟩,fun c hc=>?_,q⟩;have hc':s1.heap.objs.size<=c:=by
    have:c=s1.heap.objs.size+1\/c=s1.heap.objs.size:=by simpa using hc
    rcases this with z | z<;>rw [z]<;>first | exact Nat.le_add_right _ _ | exact Nat.le_refl _
   exact I1.fpOk hc' (I1.hok.fresh hc')
 . exact q1.elim
end
section
variable {X:Cx} {tg:Expr} {a b:Expr} {ta:TA} {p pos:Pos}
theorem jr (hg:Gl X "range") (hm:X.mg "range"=none) (ha:PA X [a] ta) (hs:starEach [a] X.env=[(false,eval a X.env)]:=by rfl):PI X tg (.Call (.Name "range" p) [a] [] pos) (iR1 ta):=by
 intro pins s U H R I h;refine Call_ (J0 I hg hm boot_range (PyProof.Rows.callWith_type1 (thn (ha pos pins s U H _ I h) fun us s1 ⟨vs,H1,I1,r1,q1⟩=>?_) hs rfl));dsimp only at q1;split at q1
 . rename_i j;obtain ⟨⟨h1,h2⟩,q⟩:=q1;obtain ⟨u,rfl,t,rfl⟩:=t9 r1;refine call_range_1 (thn (Ut (tg:=tg) (R:=fun J H1=>∃J',(∀i H,J'.go i H->J.go i H)/\(∀i H x H',J'.go i H->J.yld i H x H'->J'.yld i H x H')/\(∀i H,J'.stop i H->J.stop i H)/\R J' H1) I1 (by omega) (by omega) h1 h2 ?_) fun itv s2 h2=>?_)
   . refine ⟨_,(U6 0 (j - 0).toNat).1,(U6 0 (j - 0).toNat).2.1,(U6 0 (j - 0).toNat).2.2,?_⟩;simpa using q
   . obtain ⟨it,fp,tn,J,H2,e,I2,T,st,hf,J',c1,c2,c3,r⟩:=h2;exact ⟨it,fp,tn,J',H2,e,I2,T.conv c1 c2 c3,st,hf,r⟩
 . exact q1.elim
theorem jq (hg:Gl X "range") (hm:X.mg "range"=none) (ha:PA X [a,b] ta) (hs:starEach [a,b] X.env=[(false,eval a X.env),(false,eval b X.env)]:=by rfl) (hs2:starEach [b] X.env=[(false,eval b X.env)]:=by rfl) :
  PI X tg (.Call (.Name "range" p) [a,b] [] pos) (iR2 ta):=by
 intro pins s U H R I h
 refine Call_ (J0 I hg hm boot_range (PyProof.Rows.callWith_type1 (thn (ha pos pins s U H _ I h) fun us s1 ⟨vs,H1,I1,r1,q1⟩=>?_) (by rw [hs,hs2]) (by rw [hs2];rfl)))
 dsimp only at q1
 split at q1
 . rename_i i j;obtain ⟨⟨h1,h2,h3,h4⟩,q⟩:=q1;obtain ⟨u,w',rfl,⟨t,rfl⟩,⟨t',rfl⟩⟩:=Bt r1;refine call_range_2 (thn (Ut (tg:=tg) (R:=fun J H1=>∃J',(∀i H,J'.go i H->J.go i H)/\(∀i H x H',J'.go i H->J.yld i H x H'->J'.yld i H x H')/\(∀i H,J'.stop i H->J.stop i H)/\R J' H1) I1 h1 h2 h3 h4 ?_) fun itv s2 h2=>?_)
   . exact ⟨_,(U6 i (j - i).toNat).1,(U6 i (j - i).toNat).2.1,(U6 i (j - i).toNat).2.2,q⟩
   . obtain ⟨it,fp,tn,J,H2,e,I2,T,st,hf,J',c1,c2,c3,r⟩:=h2;exact ⟨it,fp,tn,J',H2,e,I2,T.conv c1 c2 c3,st,hf,r⟩
 . exact q1.elim
end
def cB1:V->Hp->(List V->Hp->Prop)->Prop:=fun x H R=>R [x] H
def cBT (n:Nat):V->Hp->(List V->Hp->Prop)->Prop:=fun x H R=>match x with
 | .ref a=>(match H a with | some (.tup xs)=>xs.length=n/\R xs H | _=>False)
 | _=>False
section
variable {X:Cx} {sc:Scope} {caps:List Str} {ix:List Nat} {elt iter:Expr} {ifs:List Expr} {pos px py tpos:Pos} {tt:TT} {te:TE} {wi:TI} {x y:Str} {kt:Nat}
theorem Ze (x:V) (σt cs:St) (H:Hp) (Q:St->Hp->Prop) (hl:σt.length=1) (h:cB1 x H (fun vals H2=>Q (vals.map some++cs) H2)):w4 0 x (σt++cs) H fun σ2 H2=>(∃vals:List V,vals.length=1/\σ2=vals.map some++cs)/\Q σ2 H2:=by
 match σt,hl with
 | [t],_=>exact ⟨⟨[x],rfl,rfl⟩,h⟩
theorem Zd {K:Frag} (x:V) (σt cs:St) (H:Hp) (Q:St->Hp->Prop) (hl:σt.length=2) (h:cBT 2 x H (fun vals H2=>Q (vals.map some++cs) H2)) :
  Ei K 2 (X6 (w4 0) (X6 (w4 1) Ej)) x (σt++cs) H fun σ2 H2=>(∃vals:List V,vals.length=2/\σ2=vals.map some++cs)/\Q σ2 H2:=by
 cases x<;>first | exact h.elim | skip
 rename_i a
 unfold cBT at h
 dsimp only at h
 split at h
 . rename_i xs e;obtain ⟨hn,h⟩:=h
   match σt,hl,xs,hn with
   | [t,t'],_,[v,v'],_=>exact ⟨a,[v,v'],rfl,.of e,rfl,v,[v'],rfl,v',[],rfl,rfl,⟨[v,v'],rfl,rfl⟩,h⟩
 . exact h.elim
theorem Bi {tgs:List Str} {i:Nat} {x:Str} {px:Pos} (hN:(tgs++caps).Nodup) (hi:(tgs++caps)[i]?=some x) (hx:sc.names.lookup x=some .local) (fp:List Addr) (s:Shared) (H:Hp):PG (j7 X sc (tgs++caps) fp s H) (.Name x px) (w4 i):=
 Je (X:=j7 X sc (tgs++caps) fp s H) hN hi (.inl (lookup_relabel_local hx)) (.inr (lookup_relabel_local hx))
theorem xV (C:CompOk X sc caps ix) (hN:([x]++caps).Nodup) (hx:sc.names.lookup x=some .local) (hi:PI X (.Name x px) iter wi) (ht:∀fp s H,PTs (j7 X sc ([x]++caps) fp s H) ifs tt) (he:∀fp s H,PE (j7 X sc ([x]++caps) fp s H) elt te)
  (hs:∀x,foldedSetIterable iter X.env x=pure x:=by intro _;rfl):PE X (.ListComp elt [⟨.Name x px,iter,ifs,0⟩] sc pos) (L0 wi cB1 ix tt te):=
 Tk (tgs:=[x]) C hi (fun fp s H=>Bi hN rfl hx fp s H) Ze ht he hs
theorem xU {v:Str} {k:Nat} {spos pv:Pos} (hNX:X.N.Nodup) (hk:X.N[k]?=some v) (hv:X.env.scope.names.lookup v=some .local) (C:CompOk X sc caps ix) (hN:([x]++caps).Nodup) (hx:sc.names.lookup x=some .local) (hi:PI X (.Name x px) iter wi)
  (ht:∀fp s H,PTs (j7 X sc ([x]++caps) fp s H) ifs tt) (he:∀fp s H,PE (j7 X sc ([x]++caps) fp s H) elt te)
  (hsw:swapsWith (.ListComp elt [⟨.Name x px,iter,ifs,0⟩] sc pos) (some (.Name v pv)) spos.line X.env=pure true:=by rfl) (hs:∀x,foldedSetIterable iter X.env x=pure x:=by intro _;rfl) :
  PS X (.Assign [.Name v pv] (.ListComp elt [⟨.Name x px,iter,ifs,0⟩] sc pos) spos) (C9 (L0 wi cB1 ix tt te) (w4 k)):=
 Tj (tgs:=[x]) hNX hk hv C hi (fun fp s H=>Bi hN rfl hx fp s H) Ze ht he hsw hs
theorem Nq (hc:X.calm=true) (hN:([x,y]++caps).Nodup) (hx:sc.names.lookup x=some .local) (hy:sc.names.lookup y=some .local) (fp:List Addr) (s:Shared) (H:Hp) :
  PG (j7 X sc ([x,y]++caps) fp s H) (.Tuple [.Name x px,.Name y py] kt tpos) (Ei X.K 2 (X6 (w4 0) (X6 (w4 1) Ej))):=
 Qm (X:=j7 X sc ([x,y]++caps) fp s H) hc (Jw (Bi hN rfl hx fp s H) (Jw (Bi hN rfl hy fp s H) pgs_nil))
theorem xT (C:CompOk X sc caps ix) (hN:([x,y]++caps).Nodup) (hx:sc.names.lookup x=some .local) (hy:sc.names.lookup y=some .local) (hi:PI X (.Tuple [.Name x px,.Name y py] kt tpos) iter wi) (ht:∀fp s H,PTs (j7 X sc ([x,y]++caps) fp s H) ifs tt)
  (he:∀fp s H,PE (j7 X sc ([x,y]++caps) fp s H) elt te) (hs:∀x,foldedSetIterable iter X.env x=pure x:=by intro _;rfl):PE X (.ListComp elt [⟨.Tuple [.Name x px,.Name y py] kt tpos,iter,ifs,0⟩] sc pos) (L0 wi (cBT 2) ix tt te):=
 Tk (tgs:=[x,y]) C hi (fun fp s H=>Nq C.calm hN hx hy fp s H) Zd ht he hs
theorem xS {v:Str} {k:Nat} {spos pv:Pos} (hNX:X.N.Nodup) (hk:X.N[k]?=some v) (hv:X.env.scope.names.lookup v=some .local) (C:CompOk X sc caps ix) (hN:([x,y]++caps).Nodup) (hx:sc.names.lookup x=some .local) (hy:sc.names.lookup y=some .local)
  (hi:PI X (.Tuple [.Name x px,.Name y py] kt tpos) iter wi) (ht:∀fp s H,PTs (j7 X sc ([x,y]++caps) fp s H) ifs tt) (he:∀fp s H,PE (j7 X sc ([x,y]++caps) fp s H) elt te)
  (hsw:swapsWith (.ListComp elt [⟨.Tuple [.Name x px,.Name y py] kt tpos,iter,ifs,0⟩] sc pos) (some (.Name v pv)) spos.line X.env=pure true:=by rfl) (hs:∀x,foldedSetIterable iter X.env x=pure x:=by intro _;rfl) :
  PS X (.Assign [.Name v pv] (.ListComp elt [⟨.Tuple [.Name x px,.Name y py] kt tpos,iter,ifs,0⟩] sc pos) spos) (C9 (L0 wi (cBT 2) ix tt te) (w4 k)):=
 Tj (tgs:=[x,y]) hNX hk hv C hi (fun fp s H=>Nq C.calm hN hx hy fp s H) Zd ht he hsw hs
noncomputable def Fl (n:Nat) (t:TGs):TG:=fun v U H Q=>match v with
 | .ref a=>(match H a with | some (.tup xs)=>xs.length=n/\t xs U H Q | _=>False)
 | _=>False
noncomputable def Qf (t:TG) (u:TGs):TGs:=fun vs U H Q=>match vs with | v::r=>t v U H fun σ' H'=>u r σ' H' Q | []=>False
noncomputable def Np:TGs:=fun vs U H Q=>match vs with | []=>Q U H | _=>False
theorem PGs.imp {es:List Expr} {t t':TGs} (h:PGs X es t) (hi:∀vs U H Q,t' vs U H Q->t vs U H Q):PGs X es t':=fun pins s U H vs us Q I r q=>h pins s U H vs us Q I r (hi vs U H Q q)
theorem PG.imp {e:Expr} {t t':TG} (h:PG X e t) (hi:∀v U H Q,t' v U H Q->t v U H Q):PG X e t':=fun pins s U H v u Q I r q=>h pins s U H v u Q I r (hi v U H Q q)
theorem xR:PGs X [] Np:=pgs_nil.imp fun vs U H Q q=>by
 cases vs with
 | nil=>exact ⟨rfl,q⟩
 | cons _ _=>exact q.elim
theorem yJ {e:Expr} {es:List Expr} {t:TG} {u:TGs} (h1:PG X e t) (h2:PGs X es u) (hs:(assignEach (e::es) X.env).map (·.2)=assign e X.env::(assignEach es X.env).map (·.2):=by rfl):PGs X (e::es) (Qf t u):=(Jw h1 h2 hs).imp fun vs U H Q q=>by
 cases vs with
 | nil=>exact q.elim
 | cons v r=>exact ⟨v,r,rfl,q⟩
theorem ww {es:List Expr} {k:Nat} {t:TGs} {n:Nat} (hc:X.calm=true) (h:PGs X es t)
  (hn:(assignEach es X.env).length=n:=by rfl) (hst:(assignEach es X.env).findIdx? (·.1)=none:=by rfl):PG X (.Tuple es k pos) (Fl n t):=(Qm hc h hn hst).imp fun v U H Q q=>by
 cases v<;>first | exact q.elim | skip
 rename_i a
 unfold Fl at q
 dsimp only at q
 split at q
 . rename_i xs e;exact ⟨a,xs,rfl,.of e,q.1,q.2⟩
 . exact q.elim
end
theorem y3c {α:Type} (a:α) (r:List α):atI (a::r) 0=some a:=Jc (j:=0) rfl
theorem y3d {α:Type} (a b:α) (r:List α):atI (a::b::r) 1=some b:=Jc (j:=1) rfl
section
variable {prog:Program} {w:World} {A:Around} {E:Value->Shared->Prop} {s:Shared}
theorem Uo {it t:Addr} {items:Array Value} (hne:t≠it):∀(n i:Nat) (s:Shared) (Q:List Value->Shared->Prop),s.heap.IsListIter it t i->s.heap.IsList t items->i+n<=items.size ->
  (∀h',h'.IsListIter it t (i+n)->Heap.SameBut it s.heap h'->Q ((items.toList.drop i).take n) { s with heap:=h' })->wpAny (model prog w) A (draw (.ref it) n) Q E s
 | 0,i,s,Q,hit,_,_,k=>by show wpAny _ _ (pure []) Q E s;exact wpAny_pure (by simpa using k s.heap hit (Heap.SameBut.refl ..))
 | n+1,i,s,Q,hit,ht,hle,k=>by
  have hlt:i<items.size:=by omega
  show wpAny _ _ (pyNext (.ref it) >>= _) Q E s;refine wpAny_bind (wpAny_pyNext_list_item hit ht (x:=items[i]) (by simp [hlt]) fun g1 it1 sb1=>?_);refine wpAny_bind (wpAny_holding (Uo hne n (i+1) _ _ it1 (ht.extBut sb1.extBut hne) (by omega) fun g2 it2 sb2=>wpAny_pure ?_));have hd:items.toList.drop i=items[i]::items.toList.drop (i+1):=by simp [List.drop_eq_getElem_cons,hlt]
  have z:=k g2 (by rw [show i+(n+1)=i+1+n by omega];exact it2) (sb1.trans sb2);rw [hd,List.take_succ_cons] at z;exact z
theorem yI {t:Addr} {items:Array Value} {Q:List Value->Shared->Prop} (hh:A.handled=none) (ht:s.heap.IsList t items)
  (k:∀h',(∀b o,s.heap.get? b=some o->h'.get? b=some o)->Q items.toList { s with heap:=h' }):wpAny (model prog w) A (unpackItems (.ref t) items.size none) Q E s:=by
 have hlt:t≠s.heap.objs.size:=by obtain ⟨o,ho,_⟩:=ht;exact Nat.ne_of_lt (Heap.lt_size ho)
 have old:∀{b:Addr} {o:Obj},s.heap.get? b=some o->b≠s.heap.objs.size:=fun e=>Nat.ne_of_lt (Heap.lt_size e)
 unfold unpackItems
 refine wpAny_bind ?_
 . unfold notIterableAtAll;refine wpAny_bind (wpAny_specialOf ht.typeIs slot_list_iter.lookup ?_);refine wpAny_pure ?_;simp only [Bool.false_eq_true,if_false];refine wpAny_bind (wpAny_holding (wpAny_pyIter_list ht ?_));refine wpAny_bind (wpAny_holding (Uo hlt items.size 0 _ _ ⟨_,Heap.get?_push_size _ rfl,rfl,rfl⟩ (ht.push _) (by omega) fun g1 it1 sb1=>?_));have hall:List.take items.size (List.drop 0 items.toList)=items.toList:=by rw [List.drop_zero];exact List.take_of_length_le (by simp)
   rw [hall];rw [if_neg (by simp)];have ht1:g1.IsList t items:=(ht.push _).extBut sb1.extBut hlt;refine wpAny_bind (wpAny_holding (wpAny_pyNext_list_end hh it1 ht1 (by simp) fun g2 eb2=>?_));simp only [Option.isSome_none,Bool.false_eq_true,if_false];exact wpAny_pure (k g2 fun b o e=>eb2 b o (old e) (sb1.extBut b o (old e) (Heap.get?_push_of_some _ e)))
theorem zr {env:Env} {elts:List Expr} {x1} {pos:Pos} {t:Addr} {items:Array Value} {Q:Unit->Shared->Prop} (hh:A.handled=none) (ht:s.heap.IsList t items)
  (hn:(assignEach elts env).length=items.size) (hstar:(assignEach elts env).findIdx? (·.1)=none)
  (h:∀h',(∀b o,s.heap.get? b=some o->h'.get? b=some o)->wpAny (model prog w) A (assignInOrder ((assignEach elts env).map (·.2)) items.toList) Q E { s with heap:=h' }) :
  wpAny (model prog w) A (assign (.Tuple elts x1 pos) env (.ref t)) Q E s:=by
 rw [assign_Tuple]
 refine wpAny_bind (wpAny_standAt ?_)
 unfold unpack
 rw [hn,hstar]
 exact wpAny_bind (wpAny_holding (yI hh ht h))
end
section
variable {X:Cx} {pos:Pos}
noncomputable def X1 (n:Nat) (t:TGs):TG:=fun v U H Q=>match v with
 | .ref a=>(match H a with
  | some (.tup xs)=>xs.length=n/\t xs U H Q
  | some (.lst xs)=>xs.length=n/\t xs U H Q
  | _=>False)
 | _=>False
theorem wv {es:List Expr} {k:Nat} {t:TGs} {n:Nat} (hc:X.calm=true) (h:PGs X es t)
  (hn:(assignEach es X.env).length=n:=by rfl) (hst:(assignEach es X.env).findIdx? (·.1)=none:=by rfl):PG X (.Tuple es k pos) (X1 n t):=by
 intro pins s U H v u Q I r hw
 cases v<;>first | exact hw.elim | skip
 rename_i a
 unfold X1 at hw
 dsimp only at hw
 split at hw
 . rename_i xs e;exact ww hc h hn hst pins s U H (.ref a) u Q I r (by unfold Fl;dsimp only;rw [e];exact hw)
 . rename_i xs e;obtain ⟨hl,hw⟩:=hw;cases r;obtain ⟨its,rv,ht,hz⟩:=I.list (.of e);refine zr (I.ok.hd hc) ht.isList (by simp [hn,<-hl,rv.length]) hst fun h' hx=>?_
   exact h pins _ U H xs _ Q (I.kept (t':=s.toks) hx) (by simpa using rv) hw
 . exact hw.elim
theorem few {n:Nat} (h:n<=1000):n<=sizeLine:=Nat.le_of_lt (yQ h)
def Bh:List V->Hp->VK->Prop:=fun xs H Q=>match xs with
 | [x,.ty c]=>D5 c=true/\(match G4 H x with | some t=>Q (.bl (C7 t c)) H | none=>False)
 | _=>False
def Fk:List V->Hp->VK->Prop:=fun xs H Q=>match xs with
 | [.ref p]=>∃ns:List Int,y3 H p=some (ns.map V.int)/\Q (.int ns.sum) H
 | _=>False
def Fj:List V->Hp->VK->Prop:=fun xs H Q=>match xs with
 | [.ref p]=>∃bs:List Bool,Rd H p (.lst (bs.map V.bl))/\Q (.bl (bs.all id)) H
 | _=>False
def No:List V->Hp->VK->Prop:=fun xs H Q=>match xs with | [.int i]=>Q (.int i) H | [.bl k]=>Q (.int (if k then 1 else 0)) H | _=>False
section
variable {H:Hp} {Q:VK} {p:Addr} {x:V} {cs:String}
theorem qE:Bh [x,.ty cs] H Q=(D5 cs=true/\(match G4 H x with | some t=>Q (.bl (C7 t cs)) H | none=>False)):=rfl
theorem Th:Fk [.ref p] H Q=∃ns:List Int,y3 H p=some (ns.map V.int)/\Q (.int ns.sum) H:=rfl
theorem wu:Fj [.ref p] H Q=∃bs:List Bool,Rd H p (.lst (bs.map V.bl))/\Q (.bl (bs.all id)) H:=rfl
end
theorem jp:CallR X (.builtin "isinstance") Bh:=xY
theorem jo (hc:X.calm=true):CallR X (.builtin "sum") Fk:=yN hc
theorem jm (hc:X.calm=true):CallR X (.builtin "all") Fj:=yM hc
theorem Fi:CallR X (.type "int") No:=yL
end
inductive NK where
 | i (n:Int)
 | t (ks:List NK)
noncomputable instance:DecidableEq NK:=fun a b=>Classical.propDecidable (a=b)
mutual
noncomputable def NK.dep:NK->Nat
 | .i _=>0
 | .t ks=>u0 ks+1
noncomputable def u0:List NK->Nat
 | []=>0
 | k::ks=>max k.dep (u0 ks)
end
mutual
noncomputable def NK.hs:NK->Int
 | .i n=>hashInt n
 | .t ks=>reduceHash (Builtin.Tuple.tupleHashOf (V7 ks))
noncomputable def V7:List NK->List Int
 | []=>[]
 | k::ks=>k.hs::V7 ks
end
mutual
noncomputable def NK.dr:NK->Nat
 | .i _=>1
 | .t ks=>Bg ks+1
noncomputable def Bg:List NK->Nat
 | []=>0
 | k::ks=>k.dr+Bg ks
end
mutual
def NKv (h:Heap):NK->Value->Prop
 | .i n,v=>∃t,v=.int n t
 | .t ks,v=>∃a its,v=.ref a/\h.IsTuple a its/\NKvs h ks its.toList
def NKvs (h:Heap):List NK->List Value->Prop
 | [],vs=>vs=[]
 | k::ks,vs=>∃v r,vs=v::r/\NKv h k v/\NKvs h ks r
end
theorem NKvs.len {h:Heap}:∀{ks:List NK} {vs:List Value},NKvs h ks vs->ks.length=vs.length
 | [],_,q=>by simp only [NKvs] at q;rw [q];rfl
 | k::ks,_,q=>by simp only [NKvs] at q;obtain ⟨v,r,rfl,_,q⟩:=q;simp only [List.length_cons,NKvs.len q]
theorem yH {h:Heap} {a:Addr} {x y:Array Value} (p:h.IsTuple a x) (q:h.IsTuple a y):x=y:=by obtain ⟨o,e,c,n,d⟩:=p;obtain ⟨o',e',c',n',d'⟩:=q;rw [e] at e';cases e';rw [d] at d';cases d';rfl
mutual
theorem NKv.inj {h:Heap}:∀{k j:NK} {v:Value},NKv h k v->NKv h j v->k=j
 | .i n,.i m,v,p,q=>by simp only [NKv] at p q;obtain ⟨t,rfl⟩:=p;obtain ⟨t',e⟩:=q;cases e;rfl
 | .i n,.t ks,v,p,q=>by simp only [NKv] at p q;obtain ⟨t,rfl⟩:=p;obtain ⟨_,_,e,_⟩:=q;cases e
 | .t ks,.i m,v,p,q=>by simp only [NKv] at p q;obtain ⟨t,rfl⟩:=q;obtain ⟨_,_,e,_⟩:=p;cases e
 | .t ks,.t js,v,p,q=>by simp only [NKv] at p q;obtain ⟨a,its,rfl,p1,p2⟩:=p;obtain ⟨b,its',e,q1,q2⟩:=q;cases e;cases yH p1 q1;rw [NKvs.inj p2 q2]
theorem NKvs.inj {h:Heap}:∀{ks js:List NK} {vs:List Value},NKvs h ks vs->NKvs h js vs->ks=js
 | [],[],_,_,_=>rfl
 | [],j::js,_,p,q=>by simp only [NKvs] at p q;subst p;obtain ⟨_,_,e,_⟩:=q;cases e
 | k::ks,[],_,p,q=>by simp only [NKvs] at p q;subst q;obtain ⟨_,_,e,_⟩:=p;cases e
 | k::ks,j::js,_,p,q=>by simp only [NKvs] at p q;obtain ⟨v,r,rfl,p1,p2⟩:=p;obtain ⟨_,_,e,q1,q2⟩:=q;cases e;rw [NKv.inj p1 q1,NKvs.inj p2 q2]
end
mutual
theorem NKv.stay {h h':Heap} (st:∀a its,h.IsTuple a its->h'.IsTuple a its):∀{k:NK} {v:Value},NKv h k v->NKv h' k v
 | .i n,v,p=>by simp only [NKv] at p ⊢;exact p
 | .t ks,v,p=>by simp only [NKv] at p ⊢;obtain ⟨a,its,e,p1,p2⟩:=p;exact ⟨a,its,e,st _ _ p1,NKvs.stay st p2⟩
theorem NKvs.stay {h h':Heap} (st:∀a its,h.IsTuple a its->h'.IsTuple a its):∀{ks:List NK} {vs:List Value},NKvs h ks vs->NKvs h' ks vs
 | [],_,p=>by simp only [NKvs] at p ⊢;exact p
 | k::ks,_,p=>by simp only [NKvs] at p ⊢;obtain ⟨v,r,e,p1,p2⟩:=p;exact ⟨v,r,e,NKv.stay st p1,NKvs.stay st p2⟩
end
section
variable {prog:Program} {w:World}
theorem Hz:∀(m:Nat) {k:NK} {v:Value} {A:Around} {E:Value->Shared->Prop} {s:Shared} {Q:Int->Shared->Prop},k.dep<=m->A.units+m<cLine->NKv s.heap k v->Q k.hs { s with toks:=s.toks+k.dr }->wpAny (model prog w) A (pyHash v) Q E s
 | m,.i n,v,A,E,s,Q,hd,hu,p,q=>by simp only [NKv] at p;obtain ⟨t,rfl⟩:=p;exact wpAny_pyHash_int q
 | 0,.t ks,v,A,E,s,Q,hd,hu,p,q=>by simp only [NK.dep] at hd;omega
 | m+1,.t ks,v,A,E,s,Q,hd,hu,p,q=>by
  simp only [NKv] at p;obtain ⟨a,its,rfl,⟨o,e,c,n,d⟩,p2⟩:=p;simp only [NK.dep] at hd;show wpAny (model prog w) A (pyHashByItsType (.ref a)) Q E s;refine W.pyHash_slot (T:="tuple") ⟨o,e,c⟩ F.slot_tuple_hash F.entry_tuple_hash (F.args_tuple_hash_1 _) rfl (.inr (by omega)) ?_;refine wpAny_bind (wpAny_of_eq (show slotArgs "__hash__" 0 ⟨[.ref a],[]⟩=pure (.ref a,[]) from rfl) ?_);show wpAny (model prog w) A.in1 (Builtin.Tuple.tupleItemsOf (.ref a) >>= _) _ _ s;refine wpAny_bind (wpAny_tupleItemsOf e d ?_);refine wpAny_bind ?_;have go:∀(ks:List NK) (vs:List Value) (b:Array Int) (s':Shared) (Q':Array Int->Shared->Prop),u0 ks<=m->NKvs s'.heap ks vs->(∀b':Array Int,b'.toList=b.toList++V7 ks->Q' b' { s' with toks:=s'.toks+Bg ks }) ->
    wpAny (model prog w) A.in1 (forIn vs b fun x r=>do
     let h <-pyHash x
     pure (ForInStep.yield (r.push h))) Q' E s':=by
   intro ks
   induction ks with
   | nil=>
    intro vs b s' Q' _ p hq
    simp only [NKvs] at p;subst p
    exact wpAny_pure (hq b (by simp [V7]))
   | cons k ks ih=>
    intro vs b s' Q' hd p hq
    simp only [NKvs] at p
    obtain ⟨v,r,rfl,p1,p2⟩:=p
    simp only [u0] at hd
    rw [List.forIn_cons]
    refine wpAny_bind (wpAny_bind (Hz m (by omega) (by show A.units+1+m<cLine;omega) p1 ?_))
    refine wpAny_pure ?_
    refine ih r (b.push k.hs) _ Q' (by omega) p2 fun b' hb'=>?_
    have:=hq b' (by rw [hb'];simp [V7])
    simpa only [Bg,Nat.add_assoc] using this
  rw [<-Array.forIn_toList];refine go ks its.toList #[] s _ (by omega) p2 fun b' hb'=>?_
  show wpAny (model prog w) A.in1 (retInt (Builtin.Tuple.tupleHashOf b'.toList)) _ _ _;refine wpAny_mono (wpAny_ret_mkInt (Q:=fun v s'=>∃n t,v=Value.int n t/\Q (reduceHash n) s') ⟨_,_,rfl,?_⟩) (fun fin s' h=>?_) fun _ _ h=>h
  . rw [hb'];simpa only [NK.hs,NK.dr,Nat.add_assoc,List.nil_append] using q
  . obtain ⟨v,rfl,n,t,rfl,hq⟩:=h;exact ⟨n,t,rfl,hq⟩
theorem Fh {s:Shared}:∀(m:Nat) {k j:NK} {u v:Value} {A:Around},k.dep<=m->A.units+m<cLine->NKv s.heap k u->NKv s.heap j v->SeqAt.EqAt A s u v (decide (k=j))
 | m,.i n,.i n',u,v,A,hd,hu,p,q=>by
  simp only [NKv] at p q;obtain ⟨t,rfl⟩:=p;obtain ⟨t',rfl⟩:=q;have:decide (NK.i n=NK.i n')=(n==n'):=by
   by_cases h:n=n'
   . rw [h];simp
   . rw [decide_eq_false (fun e=>h (NK.i.inj e))];simp [h]
  rw [this];exact .int_int _ _ _ _
 | m,.i n,.t js,u,v,A,hd,hu,p,q=>by simp only [NKv] at p q;obtain ⟨t,rfl⟩:=p;obtain ⟨a,its,rfl,q1,_⟩:=q;rw [decide_eq_false (fun e=>by cases e)];exact .int_tuple _ _ q1 (by omega)
 | m,.t ks,.i n',u,v,A,hd,hu,p,q=>by simp only [NKv] at p q;obtain ⟨t,rfl⟩:=q;obtain ⟨a,its,rfl,q1,_⟩:=p;rw [decide_eq_false (fun e=>by cases e)];exact .tuple_int _ _ q1 (by omega)
 | 0,.t ks,.t js,u,v,A,hd,hu,p,q=>by simp only [NK.dep] at hd;omega
 | m+1,.t ks,.t js,u,v,A,hd,hu,p,q=>by
  have p0:=p;have q0:=q;simp only [NKv] at p q;obtain ⟨a,its,rfl,p1,p2⟩:=p;obtain ⟨b,its2,rfl,q1,q2⟩:=q;simp only [NK.dep] at hd;by_cases hab:a=b
  . subst hab;rw [decide_eq_true (NKv.inj p0 q0)];exact .same _
  . have l1:=p2.len;have l2:=q2.len;simp only [Array.length_toList] at l1 l2;have at':∀(ks:List NK) (vs:List Value),NKvs s.heap ks vs->∀j v,vs[j]?=some v->NKv s.heap (ks.getD j (.i 0)) v/\(ks.getD j (.i 0)).dep<=u0 ks:=by
     intro ks;induction ks with
     | nil=>intro vs p j v e;simp only [NKvs] at p;subst p;simp at e
     | cons k ks ih=>
      intro vs p j v e
      simp only [NKvs] at p
      obtain ⟨v0,r,rfl,r1,r2⟩:=p
      cases j with
      | zero=>simp at e;subst e;exact ⟨r1,by simp only [List.getD_cons_zero,u0];omega⟩
      | succ j=>
       simp only [List.getElem?_cons_succ] at e
       obtain ⟨x1,x2⟩:=ih r r2 j v e
       exact ⟨x1,by simp only [List.getD_cons_succ,u0];omega⟩
    have q:=SeqAt.RcAt.tuples (A:=A) p1 q1 (by omega) (e:=fun j=>decide (ks.getD j (.i 0)=js.getD j (.i 0))) fun j h1 h2=>by obtain ⟨x1,x2⟩:=at' ks _ p2 j its[j] (by simp [h1]);obtain ⟨y1,y2⟩:=at' js _ q2 j its2[j] (by simp [h2]);exact Fh m (by omega) (by show A.units+1+m<cLine;omega) x1 y1
    have eb:((List.range (min its.size its2.size)).all (fun j=>decide (ks.getD j (.i 0)=js.getD j (.i 0)))&&its.size==its2.size)=decide (NK.t ks=NK.t js):=by
     rw [Bool.eq_iff_iff,Bool.and_eq_true,List.all_eq_true,decide_eq_true_eq,beq_iff_eq];constructor
     . rintro ⟨h1,h2⟩;congr 1;refine List.ext_getElem (by omega) fun j hj hj'=>?_
       have:=h1 j (List.mem_range.mpr (by omega));rw [decide_eq_true_eq,List.getD_eq_getElem?_getD,List.getD_eq_getElem?_getD,List.getElem?_eq_getElem hj,List.getElem?_eq_getElem hj'] at this;exact this
     . intro e;cases e;exact ⟨fun j _=>decide_eq_true rfl,by omega⟩
    rw [eb] at q;exact .of_refs hab q
end
section
variable {prog:Program} {w:World}
theorem Dk {A:Around} {E:Value->Shared->Prop} {s:Shared}:∀(m:Nat) {k:NK} {v:Value} {Q:Bool->Shared->Prop},k.dep<=m->NKv s.heap k v->Q true s->wpAny (model prog w) A (eqIsQuiet m v) Q E s
 | m,.i n,v,Q,hd,p,q=>by simp only [NKv] at p;obtain ⟨t,rfl⟩:=p;rw [eqIsQuiet.eq_3 _ _ (fun a e=>by cases e)];exact wpAny_pure q
 | 0,.t ks,v,Q,hd,p,q=>by simp only [NK.dep] at hd;omega
 | m+1,.t ks,v,Q,hd,p,q=>by
  simp only [NKv] at p;obtain ⟨a,its,rfl,⟨o,e,c,n,d⟩,p2⟩:=p;simp only [NK.dep] at hd;rw [eqIsQuiet.eq_2];refine wpAny_bind (wpAny_specialOf (T:="tuple") ⟨o,e,c⟩ F.slot_tuple_eq.lookup ?_);show wpAny (model prog w) A (isInstance (.ref a) (.type "tuple") >>= _) _ _ s;refine wpAny_bind (wpAny_isInstance (T:="tuple") (b:=true) ⟨o,e,c⟩ (by rfl) ?_);show wpAny (model prog w) A (seqItems? (.ref a) >>= _) _ _ s;refine wpAny_bind (wpAny_seqItems e d ?_);refine wpAny_bind ?_;have go:∀(ks:List NK) (vs:List Value) (Q':Option Bool×Unit->Shared->Prop),u0 ks<=m->NKvs s.heap ks vs->Q' (none,()) s ->
    wpAny (model prog w) A (forIn vs ((none,()):Option Bool×Unit) fun y __s=>do
     let __do_lift <-eqIsQuiet m y
     if (!__do_lift)=true then pure (ForInStep.done (some false,()))
      else pure (ForInStep.yield (none,()))) Q' E s:=by
   intro ks
   induction ks with
   | nil=>
    intro vs Q' _ p hq
    simp only [NKvs] at p;subst p
    exact wpAny_pure hq
   | cons k ks ih=>
    intro vs Q' hd p hq
    simp only [NKvs] at p
    obtain ⟨v,r,rfl,p1,p2⟩:=p
    simp only [u0] at hd
    rw [List.forIn_cons]
    refine wpAny_bind (wpAny_bind (Dk m (by omega) p1 ?_))
    refine wpAny_pure ?_
    exact ih r Q' (by omega) p2 hq
  show wpAny (model prog w) A (forIn its ((none,()):Option Bool×Unit) _) _ _ s;rw [<-Array.forIn_toList];refine go ks its.toList _ (by omega) p2 ?_;exact wpAny_pure q
noncomputable def deepKind (prog:Program) (w:World):HeapKind prog w NK where
 is:=fun h k a=>NKv h k (.ref a)/\k.dep<=8
 hash:=NK.hs
 draws:=NK.dr
 room:=fun A=>A.units+8<cLine
 inj:=fun p q=>NKv.inj p.1 q.1
 keeps:=fun {h h' k a d o es ep} p e eo sb=>⟨NKv.stay (fun b its t=>by
  obtain ⟨ob,eb,cb,n,db⟩:=t;have hne:b≠d:=fun z=>by subst z;rw [e] at eb;cases eb;rw [eo] at db;cases db
  exact ⟨ob,(sb.2 b hne).trans eb,cb,n,db⟩) p.1,p.2⟩
 pyHash:=fun {A E s k a Q} hr p q=>Hz 8 p.2 hr p.1 q
 eqBool:=fun {A E s x y a b Q} hr p p' q=>Fh 8 p.2 hr p.1 p'.1 prog w E Q q
 quiet:=fun {A E s k a Q} p q=>Dk 8 p.2 p.1 q
end
noncomputable def dnE (x:NK×Addr×Value):DictEntry:={ hash:=x.1.hs,key:=.ref x.2.1,val:=x.2.2 }
def dnP (a:Addr) (ks:List (NK×Addr)) (xs:List V) (o:Obj) (h:Heap):Prop:=
 h.get? a=some o/\∃(vs:List Value) (es:Array DictEntry) (ep:Nat),Vals xs vs/\ks.length=vs.length/\o.ExactDict/\o.data=.dict es ep/\es.toList=((ks.zip vs).map fun q=>(q.1.1,q.1.2,q.2)).map dnE
theorem dnP.stay {a:Addr} {ks:List (NK×Addr)} {xs:List V} {o:Obj}:∀h1 h2:Heap,dnP a ks xs o h1->(∀o,h1.get? a=some o->h2.get? a=some o)->dnP a ks xs o h2:=fun _ _ p k=>⟨k _ p.1,p.2⟩
mutual
def NKr (H:Hp):NK->V->Prop
 | .i n,v=>v=.int n
 | .t ks,v=>∃a ys,v=.ref a/\H a=some (.tup ys)/\NKrs H ks ys
def NKrs (H:Hp):List NK->List V->Prop
 | [],vs=>vs=[]
 | k::ks,vs=>∃v r,vs=v::r/\NKr H k v/\NKrs H ks r
end
mutual
theorem NKr.mono {H H':Hp} (st:∀a ys,H a=some (.tup ys)->H' a=some (.tup ys)):∀{k:NK} {v:V},NKr H k v->NKr H' k v
 | .i n,v,p=>by simp only [NKr] at p ⊢;exact p
 | .t ks,v,p=>by simp only [NKr] at p ⊢;obtain ⟨a,ys,e,p1,p2⟩:=p;exact ⟨a,ys,e,st _ _ p1,NKrs.mono st p2⟩
theorem NKrs.mono {H H':Hp} (st:∀a ys,H a=some (.tup ys)->H' a=some (.tup ys)):∀{ks:List NK} {vs:List V},NKrs H ks vs->NKrs H' ks vs
 | [],_,p=>by simp only [NKrs] at p ⊢;exact p
 | k::ks,_,p=>by simp only [NKrs] at p ⊢;obtain ⟨v,r,e,p1,p2⟩:=p;exact ⟨v,r,e,NKr.mono st p1,NKrs.mono st p2⟩
end
section
variable {X:Cx} {pins:List (Addr×Obj)} {U:St} {H:Hp} {s:Shared}
mutual
theorem X0 (I:Inv X pins U H s):∀{k:NK} {x:V} {u:Value},NKr H k x->RelV x u->NKv s.heap k u
 | .i n,x,u,p,r=>by simp only [NKr] at p;subst p;obtain ⟨t,rfl⟩:=r;simp only [NKv];exact ⟨t,rfl⟩
 | .t ks,x,u,p,r=>by simp only [NKr] at p;obtain ⟨a,ys,rfl,p1,p2⟩:=p;cases r;obtain ⟨its,r1,t1,_⟩:=I.tuple (.of p1);simp only [NKv];exact ⟨a,its.toArray,rfl,t1,Qe I p2 r1⟩
theorem Qe (I:Inv X pins U H s):∀{ks:List NK} {xs:List V} {us:List Value},NKrs H ks xs->Vals xs us->NKvs s.heap ks us
 | [],_,_,p,r=>by simp only [NKrs] at p;subst p;cases r;simp only [NKvs]
 | k::ks,_,_,p,r=>by
  simp only [NKrs] at p;obtain ⟨v,q,rfl,p1,p2⟩:=p;cases r with
  | cons a1 a2=>
   simp only [NKvs]
   exact ⟨_,_,rfl,X0 I p1 a1,Qe I p2 a2⟩
end
end
def KL (K:Frag) (a:Addr) (xs:List V):Prop:=∃(o:Obj) (its:Array Value) (n:Nat),K.lookup a=some o/\o.cls=.type "list"/\o.dict=none/\o.data=.seq its n/\its.size<=sizeLine/\Vals xs its.toList
def XO (K:Frag) (c:String) (a:Addr) (od:Option Addr) (o:HO):Prop:=∃C:Addr,PySem.W.nsIn K mainGlobals (c:Str)=some (some (.ref C))/\o=.ext fun h=>∃ob,h.get? a=some ob/\ob.cls=.ref C/\(∃vs,ob.data=.fields vs)/\ob.dict=od
noncomputable def Zc (c:String):List Str:=if c="Fallen" then ["corner"] else if c="Crossed" then ["one","other"] else if c="NotFull" then ["line"] else []
inductive D where
 | non | bl (b:Bool) | int (i:Int) | str (x:Str) | tup (ds:List D) | lst (ds:List D)
 | dk (ks:List Key) (ds:List D) | dt (ks:List (List Key)) (ds:List D) | dn (ks:List NK) (ds:List D) | scr (ns:List Int) | exc (c:String) (fs:List D)
def DN (H:Hp) (a:Addr) (qs:List (NK×Addr)):Prop:=(qs.map (·.1)).Nodup/\(∀q∈qs,NKr H q.1 (.ref q.2)/\q.1.dep<=8)/\(a==sysModules)=false/\qs.length<=sizeLine
theorem DN.tk {H H':Hp} {a:Addr} {qs:List (NK×Addr)} (h:DN H a qs) (st:∀a ys,H a=some (.tup ys)->H' a=some (.tup ys)):DN H' a qs:=
 ⟨h.1,fun q hq=>⟨NKr.mono st (h.2.1 q hq).1,(h.2.1 q hq).2⟩,h.2.2⟩
mutual
def RD (K:Frag) (H:Hp):D->V->Prop
 | .non,v=>v=.non
 | .bl b,v=>v=.bl b
 | .int i,v=>v=.int i
 | .str x,v=>v=.str x
 | .tup ds,v=>∃a xs,v=.ref a/\H a=some (.tup xs)/\RDs K H ds xs
 | .lst ds,v=>∃a xs,v=.ref a/\H a=some (.lst xs)/\RDs K H ds xs
 | .dk ks ds,v=>∃a xs,v=.ref a/\H a=some (.dK (ks.zip xs))/\ks.length=xs.length/\RDs K H ds xs
 | .dt ks ds,v=>∃a xs,v=.ref a/\H a=some (.dT (ks.zip xs))/\ks.length=xs.length/\RDs K H ds xs
 | .dn ks ds,v=>∃a qs xs o,v=.ref a/\H a=some (.ext (dnP a qs xs o))/\qs.map (·.1)=ks/\DN H a qs/\RDs K H ds xs
 | .scr ns,v=>∃a,v=.ref a/\((∃o,H a=some (.frz o (.lst (ns.map V.int))))\/KL K a (ns.map V.int))
 | .exc c fs,v=>∃a od o,v=.ref a/\XO K c a od o/\H a=some o/\(fs=[]\/∃(dx:Addr) (ns:List Int) (ob:Obj),od=some dx/\H dx=some (.frz ob (.xd ((Zc c).zip (ns.map V.int))))/\fs=ns.map D.int)
def RDs (K:Frag) (H:Hp):List D->List V->Prop
 | [],xs=>xs=[]
 | d::ds,xs=>∃x r,xs=x::r/\RD K H d x/\RDs K H ds r
end
mutual
noncomputable def D.noL:D->Bool
 | .lst _=>false
 | .dk _ _=>false
 | .dt _ _=>false
 | .dn _ _=>false
 | .tup ds=>j4 ds
 | _=>true
noncomputable def j4:List D->Bool
 | []=>true
 | d::ds=>d.noL&&j4 ds
end
mutual
noncomputable def D.pl:D->Bool
 | .dk _ _=>false
 | .dt _ _=>false
 | .dn _ _=>false
 | .scr _=>false
 | .exc _ _=>false
 | .tup ds=>pls ds
 | .lst ds=>pls ds
 | _=>true
noncomputable def pls:List D->Bool
 | []=>true
 | d::ds=>d.pl&&pls ds
end
noncomputable def D.shal:D->Bool
 | .lst ds=>j4 ds
 | .dk _ ds=>j4 ds
 | .dt _ ds=>j4 ds
 | .dn _ ds=>j4 ds
 | d=>d.noL
def Imm:HO->Prop
 | .tup _=>True
 | .frz _ _=>True
 | .ext φ=>∀a qs xs o,φ≠dnP a qs xs o
 | _=>False
theorem XO.imm {K:Frag} {c:String} {a:Addr} {od:Option Addr} {o:HO} (h:XO K c a od o):Imm o:=by
 obtain ⟨C,_,rfl⟩:=h;intro b qs xs o0 e;obtain ⟨ob,hob⟩:∃ob:Obj,ob={ cls:=.ref C,dict:=od,data:=.fields #[] }:=⟨_,rfl⟩;have hg:∀(i:Nat) (o:Obj),({ objs:=Array.replicate (a+1) ob }:Heap).get? i=some o->o=ob:=fun i o q=>by
  by_cases hi:i<a+1
  . have z:({ objs:=Array.replicate (a+1) ob }:Heap).get? i=some ob:=by
     unfold Heap.get?
     rw [Array.getElem?_replicate,if_pos hi,hob]
    rw [z] at q;cases q;rfl
  . unfold Heap.get? at q;rw [Array.getElem?_replicate,if_neg hi] at q;cases q
 have h1:(fun h:Heap=>∃ob,h.get? a=some ob/\ob.cls=.ref C/\(∃vs,ob.data=.fields vs)/\ob.dict=od) { objs:=Array.replicate (a+1) ob }:=by refine ⟨ob,?_,by rw [hob],⟨#[],by rw [hob]⟩,by rw [hob]⟩;unfold Heap.get?;rw [Array.getElem?_replicate,if_pos (Nat.lt_succ_self a),hob]
 rw [e] at h1;obtain ⟨g,vs,es,ep,_,_,_,d,_⟩:=h1;rw [hg _ _ g,hob] at d;cases d
def TK (H H':Hp):Prop:=∀a o,Imm o->H a=some o->H' a=some o
section
variable {K:Frag} {H H':Hp}
mutual
theorem RD.tk (hs:TK H H'):∀{d:D} {v:V},d.noL=true->RD K H d v->RD K H' d v
 | .non,_,_,h=>by simp only [RD] at h ⊢;exact h
 | .bl _,_,_,h=>by simp only [RD] at h ⊢;exact h
 | .int _,_,_,h=>by simp only [RD] at h ⊢;exact h
 | .str _,_,_,h=>by simp only [RD] at h ⊢;exact h
 | .tup ds,_,n,h=>by simp only [RD] at h ⊢;obtain ⟨a,xs,e,h1,h2⟩:=h;exact ⟨a,xs,e,hs _ _ trivial h1,RDs.tk hs (by simpa only [D.noL] using n) h2⟩
 | .lst ds,_,n,h=>by simp [D.noL] at n
 | .dk _ ds,_,n,h=>by simp [D.noL] at n
 | .dt _ ds,_,n,h=>by simp [D.noL] at n
 | .dn _ ds,_,n,h=>by simp [D.noL] at n
 | .exc c fs,_,n,h=>by
  simp only [RD] at h ⊢;obtain ⟨a,od,o,e,h1,h2,h3⟩:=h;refine ⟨a,od,o,e,h1,hs _ _ h1.imm h2,?_⟩;rcases h3 with h3 | ⟨dx,xs,ob,q1,q2,q3⟩
  . exact .inl h3
  . exact .inr ⟨dx,xs,ob,q1,hs _ _ trivial q2,q3⟩
 | .scr ns,_,n,h=>by
  simp only [RD] at h ⊢;obtain ⟨a,e,h1⟩:=h;refine ⟨a,e,?_⟩;rcases h1 with ⟨o,h1⟩ | h1
  . exact .inl ⟨o,hs _ _ trivial h1⟩
  . exact .inr h1
theorem RDs.tk (hs:TK H H'):∀{ds:List D} {xs:List V},j4 ds=true->RDs K H ds xs->RDs K H' ds xs
 | [],_,_,h=>by simp only [RDs] at h ⊢;exact h
 | d::ds,_,n,h=>by simp only [RDs] at h ⊢;simp only [j4,Bool.and_eq_true] at n;obtain ⟨x,r,e,h1,h2⟩:=h;exact ⟨x,r,e,RD.tk hs n.1 h1,RDs.tk hs n.2 h2⟩
end
mutual
theorem RD.mono (hs:Same H H'):∀{d:D} {v:V},RD K H d v->RD K H' d v
 | .non,_,h=>by simp only [RD] at h ⊢;exact h
 | .bl _,_,h=>by simp only [RD] at h ⊢;exact h
 | .int _,_,h=>by simp only [RD] at h ⊢;exact h
 | .str _,_,h=>by simp only [RD] at h ⊢;exact h
 | .tup ds,_,h=>by simp only [RD] at h ⊢;obtain ⟨a,xs,e,h1,h2⟩:=h;exact ⟨a,xs,e,hs _ _ h1,RDs.mono hs h2⟩
 | .lst ds,_,h=>by simp only [RD] at h ⊢;obtain ⟨a,xs,e,h1,h2⟩:=h;exact ⟨a,xs,e,hs _ _ h1,RDs.mono hs h2⟩
 | .dk _ ds,_,h=>by simp only [RD] at h ⊢;obtain ⟨a,xs,e,h1,hl,h2⟩:=h;exact ⟨a,xs,e,hs _ _ h1,hl,RDs.mono hs h2⟩
 | .dn _ ds,_,h=>by simp only [RD] at h ⊢;obtain ⟨a,qs,xs,o,e,h1,hk,hd,h2⟩:=h;exact ⟨a,qs,xs,o,e,hs _ _ h1,hk,hd.tk fun b ys q=>hs _ _ q,RDs.mono hs h2⟩
 | .dt _ ds,_,h=>by simp only [RD] at h ⊢;obtain ⟨a,xs,e,h1,hl,h2⟩:=h;exact ⟨a,xs,e,hs _ _ h1,hl,RDs.mono hs h2⟩
 | .exc c fs,_,h=>by
  simp only [RD] at h ⊢;obtain ⟨a,od,o,e,h1,h2,h3⟩:=h;refine ⟨a,od,o,e,h1,hs _ _ h2,?_⟩;rcases h3 with h3 | ⟨dx,xs,ob,q1,q2,q3⟩
  . exact .inl h3
  . exact .inr ⟨dx,xs,ob,q1,hs _ _ q2,q3⟩
 | .scr ns,_,h=>by
  simp only [RD] at h ⊢;obtain ⟨a,e,h1⟩:=h;refine ⟨a,e,?_⟩;rcases h1 with ⟨o,h1⟩ | h1
  . exact .inl ⟨o,hs _ _ h1⟩
  . exact .inr h1
theorem RDs.mono (hs:Same H H'):∀{ds:List D} {xs:List V},RDs K H ds xs->RDs K H' ds xs
 | [],_,h=>by simp only [RDs] at h ⊢;exact h
 | d::ds,_,h=>by simp only [RDs] at h ⊢;obtain ⟨x,r,e,h1,h2⟩:=h;exact ⟨x,r,e,RD.mono hs h1,RDs.mono hs h2⟩
end
theorem RDs.length:∀{ds:List D} {xs:List V},RDs K H ds xs->ds.length=xs.length
 | [],_,h=>by simp only [RDs] at h;subst h;rfl
 | d::ds,_,h=>by simp only [RDs] at h;obtain ⟨x,r,rfl,_,h2⟩:=h;simp [RDs.length h2]
theorem RDs.get:∀{ds:List D} {xs:List V} {i:Nat} {x:V},RDs K H ds xs->xs[i]?=some x->∃d,ds[i]?=some d/\RD K H d x
 | [],_,i,x,h,e=>by simp only [RDs] at h;subst h;simp at e
 | d::ds,_,i,x,h,e=>by
  simp only [RDs] at h;obtain ⟨y,r,rfl,h1,h2⟩:=h;cases i with
  | zero=>simp at e;subst e;exact ⟨d,rfl,h1⟩
  | succ i=>simp at e;obtain ⟨d',e1,e2⟩:=RDs.get h2 e;exact ⟨d',by simpa using e1,e2⟩
theorem RDs.get':∀{ds:List D} {xs:List V} {i:Nat} {d:D},RDs K H ds xs->ds[i]?=some d->∃x,xs[i]?=some x/\RD K H d x
 | [],_,i,d,h,e=>by simp at e
 | d'::ds,_,i,d,h,e=>by
  simp only [RDs] at h;obtain ⟨y,r,rfl,h1,h2⟩:=h;cases i with
  | zero=>simp at e;subst e;exact ⟨y,rfl,h1⟩
  | succ i=>simp at e;obtain ⟨x',e1,e2⟩:=RDs.get' h2 e;exact ⟨x',by simpa using e1,e2⟩
theorem RDs.append:∀{ds es:List D} {xs ys:List V},RDs K H ds xs->RDs K H es ys->RDs K H (ds++es) (xs++ys)
 | [],_,_,_,h,h'=>by simp only [RDs] at h;subst h;exact h'
 | d::ds,es,_,ys,h,h'=>by simp only [RDs] at h;obtain ⟨x,r,rfl,h1,h2⟩:=h;simp only [List.cons_append,RDs];exact ⟨x,r++ys,rfl,h1,RDs.append h2 h'⟩
theorem RDs.nil:RDs K H [] []:=by simp only [RDs]
theorem RDs.cons {d:D} {x:V} {ds:List D} {xs:List V} (h:RD K H d x) (h':RDs K H ds xs):RDs K H (d::ds) (x::xs):=by simp only [RDs];exact ⟨x,xs,rfl,h,h'⟩
theorem RDs.one {d:D} {x:V} (h:RD K H d x):RDs K H [d] [x]:=.cons h .nil
theorem RDs.take:∀{ds:List D} {xs:List V} (n:Nat),RDs K H ds xs->RDs K H (ds.take n) (xs.take n)
 | _,_,0,_=>by simp [RDs]
 | [],_,n+1,h=>by simp only [RDs] at h;subst h;simp [RDs]
 | d::ds,_,n+1,h=>by simp only [RDs] at h;obtain ⟨x,r,rfl,h1,h2⟩:=h;simp only [List.take_succ_cons];exact .cons h1 (RDs.take n h2)
theorem RDs.drop:∀{ds:List D} {xs:List V} (n:Nat),RDs K H ds xs->RDs K H (ds.drop n) (xs.drop n)
 | _,_,0,h=>h
 | [],_,n+1,h=>by simp only [RDs] at h;subst h;simp [RDs]
 | d::ds,_,n+1,h=>by simp only [RDs] at h;obtain ⟨x,r,rfl,h1,h2⟩:=h;exact RDs.drop n h2
theorem RDs.set:∀{ds:List D} {xs:List V} (n:Nat) {d:D} {x:V},RDs K H ds xs->RD K H d x->RDs K H (ds.set n d) (xs.set n x)
 | [],_,n,_,_,h,_=>by simp only [RDs] at h;subst h;simp [RDs]
 | d::ds,_,0,_,_,h,h'=>by simp only [RDs] at h;obtain ⟨x,r,rfl,h1,h2⟩:=h;exact .cons h' h2
 | d::ds,_,n+1,_,_,h,h'=>by simp only [RDs] at h;obtain ⟨x,r,rfl,h1,h2⟩:=h;exact .cons h1 (RDs.set n h2 h')
theorem RDs.ofInts:∀(ns:List Int),RDs K H (ns.map D.int) (ns.map V.int)
 | []=>by simp only [List.map,RDs]
 | n::ns=>by simp only [List.map];exact RDs.cons (by simp only [RD]) (RDs.ofInts ns)
end
mutual
noncomputable def eqD:D->D->Bool
 | .non,.non=>true
 | .bl a,.bl b=>a==b
 | .bl a,.int j=>(if a then 1 else 0)==j
 | .int i,.bl b=>i==(if b then 1 else 0)
 | .int i,.int j=>i==j
 | .str a,.str b=>a==b
 | .tup ds,.tup es=>l0 ds es
 | .lst ds,.lst es=>l0 ds es
 | _,_=>false
noncomputable def l0:List D->List D->Bool
 | [],[]=>true
 | d::ds,e::es=>eqD d e&&l0 ds es
 | _,_=>false
end
mutual
noncomputable def D.dep:D->Nat
 | .tup ds=>j2 ds+1
 | .lst ds=>j2 ds+1
 | _=>0
noncomputable def j2:List D->Nat
 | []=>0
 | d::ds=>max d.dep (j2 ds)
end
mutual
theorem Js:∀d:D,d.pl=true->eqD d d=true
 | .non,_=>rfl
 | .bl b,_=>by simp [eqD]
 | .int b,_=>by simp [eqD]
 | .str b,_=>by simp [eqD]
 | .tup ds,h=>by simp only [eqD];exact Ke ds (by simpa only [D.pl] using h)
 | .lst ds,h=>by simp only [eqD];exact Ke ds (by simpa only [D.pl] using h)
 | .dk _ _,h=>by simp [D.pl] at h
 | .dt _ _,h=>by simp [D.pl] at h
 | .dn _ _,h=>by simp [D.pl] at h
 | .scr _,h=>by simp [D.pl] at h
 | .exc _ _,h=>by simp [D.pl] at h
theorem Ke:∀ds:List D,pls ds=true->l0 ds ds=true
 | [],_=>rfl
 | d::ds,h=>by simp only [pls,Bool.and_eq_true] at h;simp only [l0,Js d h.1,Ke ds h.2,Bool.and_self]
end
mutual
theorem RD.inj {K:Frag} {H:Hp}:∀{d e:D} {v:V},d.pl=true->e.pl=true->RD K H d v->RD K H e v->d=e
 | .non,e,v,_,p,h,h'=>by simp only [RD] at h;subst h;cases e<;>simp only [RD] at h'<;>first | (exfalso;simp [D.pl] at p;done) | rfl | (cases h';done) | (obtain ⟨a,xs,z,_⟩:=h';cases z)
 | .bl b,e,v,_,p,h,h'=>by simp only [RD] at h;subst h;cases e<;>simp only [RD] at h'<;>first | (exfalso;simp [D.pl] at p;done) | (cases h';rfl) | (cases h';done) | (obtain ⟨a,xs,z,_⟩:=h';cases z)
 | .int b,e,v,_,p,h,h'=>by simp only [RD] at h;subst h;cases e<;>simp only [RD] at h'<;>first | (exfalso;simp [D.pl] at p;done) | (cases h';rfl) | (cases h';done) | (obtain ⟨a,xs,z,_⟩:=h';cases z)
 | .str b,e,v,_,p,h,h'=>by simp only [RD] at h;subst h;cases e<;>simp only [RD] at h'<;>first | (exfalso;simp [D.pl] at p;done) | (cases h';rfl) | (cases h';done) | (obtain ⟨a,xs,z,_⟩:=h';cases z)
 | .dk _ _,e,v,p,_,h,h'=>by simp [D.pl] at p
 | .dt _ _,e,v,p,_,h,h'=>by simp [D.pl] at p
 | .dn _ _,e,v,p,_,h,h'=>by simp [D.pl] at p
 | .scr _,e,v,p,_,h,h'=>by simp [D.pl] at p
 | .exc _ _,e,v,p,_,h,h'=>by simp [D.pl] at p
 | .tup ds,e,v,p,p',h,h'=>by
  simp only [RD] at h;obtain ⟨a,xs,rfl,h1,h2⟩:=h;cases e<;>simp only [RD] at h'
  case tup es=>
   obtain ⟨b,ys,z,h3,h4⟩:=h'
   cases z
   rw [h1] at h3;cases h3
   rw [RDs.inj (by simpa only [D.pl] using p) (by simpa only [D.pl] using p') h2 h4]
  case lst es=>
   obtain ⟨b,ys,z,h3,h4⟩:=h'
   cases z
   rw [h1] at h3;cases h3
  all_goals first | (exfalso;simp [D.pl] at p';done) | cases h'
 | .lst ds,e,v,p,p',h,h'=>by
  simp only [RD] at h;obtain ⟨a,xs,rfl,h1,h2⟩:=h;cases e<;>simp only [RD] at h'
  case tup es=>
   obtain ⟨b,ys,z,h3,h4⟩:=h'
   cases z
   rw [h1] at h3;cases h3
  case lst es=>
   obtain ⟨b,ys,z,h3,h4⟩:=h'
   cases z
   rw [h1] at h3;cases h3
   rw [RDs.inj (by simpa only [D.pl] using p) (by simpa only [D.pl] using p') h2 h4]
  all_goals first | (exfalso;simp [D.pl] at p';done) | cases h'
theorem RDs.inj {K:Frag} {H:Hp}:∀{ds es:List D} {xs:List V},pls ds=true->pls es=true->RDs K H ds xs->RDs K H es xs->ds=es
 | [],es,xs,_,_,h,h'=>by
  simp only [RDs] at h;subst h;cases es<;>simp only [RDs] at h'
  . rfl
  . obtain ⟨x,r,z,_⟩:=h';cases z
 | d::ds,es,xs,p,p',h,h'=>by
  simp only [RDs] at h;obtain ⟨x,r,rfl,h1,h2⟩:=h;simp only [pls,Bool.and_eq_true] at p;cases es with
  | nil=>simp only [RDs] at h';cases h'
  | cons e es=>
   simp only [RDs] at h'
   obtain ⟨y,r',z,h3,h4⟩:=h'
   cases z
   simp only [pls,Bool.and_eq_true] at p'
   rw [RD.inj p.1 p'.1 h1 h3,RDs.inj p.2 p'.2 h2 h4]
end
theorem Df:∀{ds:List D} {d:D},pls ds=true->d∈ds->d.pl=true
 | e::ds,d,h,m=>by
  simp only [pls,Bool.and_eq_true] at h;rcases List.mem_cons.mp m with rfl | m
  . exact h.1
  . exact Df h.2 m
theorem Jr:∀{ds:List D} {d:D},d∈ds->d.dep<=j2 ds
 | d'::ds,d,h=>by
  simp only [j2];rcases List.mem_cons.mp h with rfl | h
  . omega
  . have:=Jr h;omega
theorem Jq:∀{ds es:List D},ds.length=es.length->l0 ds es=(List.range ds.length).all fun j=>eqD (ds.getD j .non) (es.getD j .non)
 | [],[],_=>rfl
 | [],_::_,h=>by simp at h
 | _::_,[],h=>by simp at h
 | d::ds,e::es,h=>by simp only [l0,List.length_cons];rw [Jq (by simpa using h),List.range_succ_eq_map,List.all_cons,List.all_map];rfl
theorem Jp:∀{ds es:List D},ds.length≠es.length->l0 ds es=false
 | [],[],h=>absurd rfl h
 | [],_::_,_=>rfl
 | _::_,[],_=>rfl
 | d::ds,e::es,h=>by simp only [l0];rw [Jp (by intro z;exact h (by simp [z])),Bool.and_false]
section
variable {X:Cx} {pins:List (Addr×Obj)} {U:St} {H:Hp} {s:Shared}
theorem Inv.tupA (I:Inv X pins U H s) {a:Addr} {xs:List V} (h:H a=some (.tup xs)):∃its:List Value,Vals xs its/\s.heap.IsTuple a its.toArray:=by obtain ⟨its,r,t,_⟩:=I.tuple (.of h);exact ⟨its,r,t⟩
theorem Inv.lstA (I:Inv X pins U H s) {a:Addr} {xs:List V} (h:H a=some (.lst xs)):∃its:List Value,Vals xs its/\s.heap.IsList a its.toArray:=by obtain ⟨its,r,t,_⟩:=I.list (.of h);exact ⟨its,r,t.isList⟩
inductive Shp (X:Cx) (H:Hp) (s:Shared):D->V->Value->Prop
 | non:Shp X H s .non .non .none
 | bl (b:Bool):Shp X H s (.bl b) (.bl b) (.bool b)
 | int (i:Int) (t:Tok):Shp X H s (.int i) (.int i) (.int i t)
 | str (c:Str) (t:Tok):Shp X H s (.str c) (.str c) (.str c t)
 | tup {ds:List D} {a:Addr} {xs:List V} {its:List Value} (p:pls ds=true) (h:H a=some (.tup xs)) (q:RDs X.K H ds xs) (r:Vals xs its) (t:s.heap.IsTuple a its.toArray):Shp X H s (.tup ds) (.ref a) (.ref a)
 | lst {ds:List D} {a:Addr} {xs:List V} {its:List Value} (p:pls ds=true) (h:H a=some (.lst xs)) (q:RDs X.K H ds xs) (r:Vals xs its) (t:s.heap.IsList a its.toArray):Shp X H s (.lst ds) (.ref a) (.ref a)
theorem shp (I:Inv X pins U H s) {d:D} {x:V} {u:Value} (p:d.pl=true) (h:RD X.K H d x) (r:RelV x u):Shp X H s d x u:=by
 cases d<;>simp only [RD] at h<;>first | (exfalso;simp [D.pl] at p;done) | skip
 . subst h;cases r;exact .non
 . subst h;cases r;exact .bl _
 . subst h;obtain ⟨t,rfl⟩:=r;exact .int _ _
 . subst h;obtain ⟨t,rfl⟩:=r;exact .str _ _
 . obtain ⟨a,xs,rfl,h1,h2⟩:=h;cases r;obtain ⟨its,v,t⟩:=I.tupA h1;exact .tup (by simpa only [D.pl] using p) h1 h2 v t
 . obtain ⟨a,xs,rfl,h1,h2⟩:=h;cases r;obtain ⟨its,v,t⟩:=I.lstA h1;exact .lst (by simpa only [D.pl] using p) h1 h2 v t
def Ec (X:Cx) (H:Hp) (s:Shared) (A:Around) (n:Nat):Prop:=∀{d e:D} {x y:V} {u v:Value},d.pl=true->e.pl=true->d.dep<=n->RD X.K H d x->RD X.K H e y->RelV x u->RelV y v->SeqAt.EqAt A s u v (eqD d e)
theorem Tf {A:Around} {n:Nat} (ih:Ec X H s A n) {ds es:List D} {xs ys:List V} {its its2:List Value} (pd:pls ds=true) (pe:pls es=true) (hdn:j2 ds<=n) (hxs:RDs X.K H ds xs) (hys:RDs X.K H es ys) (r:Vals xs its) (r2:Vals ys its2) (j:Nat)
  (h1:j<its.toArray.size) (h2:j<its2.toArray.size):SeqAt.EqAt A s its.toArray[j] its2.toArray[j] (eqD (ds.getD j .non) (es.getD j .non)):=by
 have h1':j<its.length:=by simpa using h1
 have h2':j<its2.length:=by simpa using h2
 have l1:=r.length
 have l2:=r2.length
 obtain ⟨u1,e1,q1⟩:=r.get (i:=j) (x:=xs[j]'(by omega)) (by simp)
 obtain ⟨u2,e2,q2⟩:=r2.get (i:=j) (x:=ys[j]'(by omega)) (by simp)
 obtain ⟨d1,g1,w1⟩:=hxs.get (i:=j) (x:=xs[j]'(by omega)) (by simp)
 obtain ⟨d2,g2,w2⟩:=hys.get (i:=j) (x:=ys[j]'(by omega)) (by simp)
 have ea:its.toArray[j]=u1:=by rw [List.getElem?_eq_getElem h1'] at e1;simpa using e1
 have eb:its2.toArray[j]=u2:=by rw [List.getElem?_eq_getElem h2'] at e2;simpa using e2
 have ga:ds.getD j .non=d1:=by rw [List.getD_eq_getElem?_getD,g1];rfl
 have gb:es.getD j .non=d2:=by rw [List.getD_eq_getElem?_getD,g2];rfl
 rw [ea,eb,ga,gb]
 exact ih (Df pd (List.mem_of_getElem? g1)) (Df pe (List.mem_of_getElem? g2)) (Nat.le_trans (Jr (List.mem_of_getElem? g1)) hdn) w1 w2 q1 q2
theorem wt {ds es:List D} {xs ys:List V} {its its2:List Value} (hxs:RDs X.K H ds xs) (hys:RDs X.K H es ys) (r:Vals xs its) (r2:Vals ys its2) :
  ((List.range (min its.toArray.size its2.toArray.size)).all (fun j=>eqD (ds.getD j .non) (es.getD j .non))&&its.toArray.size==its2.toArray.size)=l0 ds es:=by
 have lx:=hxs.length;have ly:=hys.length;have l1:=r.length;have l2:=r2.length
 simp only [List.size_toArray]
 by_cases hl:ds.length=es.length
 . rw [Jq hl];have:its.length=its2.length:=by omega
   rw [this,Nat.min_self,show its2.length=ds.length by omega];simp
 . rw [Jp hl];have:(its.length==its2.length)=false:=by simp;omega
   rw [this,Bool.and_false]
theorem wq {ds es:List D} {xs ys:List V} {its its2:List Value} (hxs:RDs X.K H ds xs) (hys:RDs X.K H es ys) (r:Vals xs its) (r2:Vals ys its2) (hl:ds.length=es.length) :
  ((List.range its.toArray.size).all fun j=>eqD (ds.getD j .non) (es.getD j .non))=l0 ds es:=by
 have lx:=hxs.length;have ly:=hys.length;have l1:=r.length;have l2:=r2.length
 rw [Jq hl,List.size_toArray,show its.length=ds.length by omega]
theorem Zb {A:Around} {n:Nat} (hu:A.units<cLine) (ih:Ec X H s A.in1 n) {d e:D} {x y:V} {u v:Value} (hn:d.dep<=n+1) (sx:Shp X H s d x u) (sy:Shp X H s e y v):SeqAt.RcAt A s u v (eqD d e)/\SeqAt.RcNeAt A s u v (!eqD d e):=by
 cases sx with
 | non=>cases sy with
  | non=>exact ⟨.none_none,.none_none⟩
  | bl _=>exact ⟨.none_bool _,.none_bool _⟩
  | int _ _=>exact ⟨.none_int _ _,.none_int _ _⟩
  | str _ _=>exact ⟨.none_str _ _,.none_str _ _⟩
  | tup p2 h2 q2 r2 t2=>exact ⟨.none_tuple t2 hu,.none_tuple t2 hu⟩
  | lst p2 h2 q2 r2 t2=>exact ⟨.none_list t2 hu,.none_list t2 hu⟩
 | bl _=>cases sy with
  | non=>exact ⟨.bool_none _,.bool_none _⟩
  | bl _=>exact ⟨.bool_bool _ _,.bool_bool _ _⟩
  | int _ _=>exact ⟨.bool_int _ _ _,.bool_int _ _ _⟩
  | str _ _=>exact ⟨.bool_str _ _ _,.bool_str _ _ _⟩
  | tup p2 h2 q2 r2 t2=>exact ⟨.bool_tuple _ t2 hu,.bool_tuple _ t2 hu⟩
  | lst p2 h2 q2 r2 t2=>exact ⟨.bool_list _ t2 hu,.bool_list _ t2 hu⟩
 | int _ _=>cases sy with
  | non=>exact ⟨.int_none _ _,.int_none _ _⟩
  | bl _=>exact ⟨.int_bool _ _ _,.int_bool _ _ _⟩
  | int _ _=>exact ⟨.int_int _ _ _ _,.int_int _ _ _ _⟩
  | str _ _=>exact ⟨.int_str _ _ _ _,.int_str _ _ _ _⟩
  | tup p2 h2 q2 r2 t2=>exact ⟨.int_tuple _ _ t2 hu,.int_tuple _ _ t2 hu⟩
  | lst p2 h2 q2 r2 t2=>exact ⟨.int_list _ _ t2 hu,.int_list _ _ t2 hu⟩
 | str _ _=>cases sy with
  | non=>exact ⟨.str_none _ _,.str_none _ _⟩
  | bl _=>exact ⟨.str_bool _ _ _,.str_bool _ _ _⟩
  | int _ _=>exact ⟨.str_int _ _ _ _,.str_int _ _ _ _⟩
  | str _ _=>exact ⟨.str_str _ _ _ _,.str_str _ _ _ _⟩
  | tup p2 h2 q2 r2 t2=>exact ⟨.str_tuple _ _ t2 hu,.str_tuple _ _ t2 hu⟩
  | lst p2 h2 q2 r2 t2=>exact ⟨.str_list _ _ t2 hu,.str_list _ _ t2 hu⟩
 | tup p h q r t=>cases sy with
  | non=>exact ⟨.tuple_none t hu,.tuple_none t hu⟩
  | bl _=>exact ⟨.tuple_bool _ t hu,.tuple_bool _ t hu⟩
  | int _ _=>exact ⟨.tuple_int _ _ t hu,.tuple_int _ _ t hu⟩
  | str _ _=>exact ⟨.tuple_str _ _ t hu,.tuple_str _ _ t hu⟩
  | tup p2 h2 q2 r2 t2 => 
   simp only [D.dep] at hn
   have z:=Tf ih p p2 (Nat.le_of_succ_le_succ hn) q q2 r r2
   simp only [eqD]
   rw [<-wt q q2 r r2]
   exact ⟨.tuples t t2 hu z,.tuples t t2 hu z⟩
  | lst p2 h2 q2 r2 t2=>exact ⟨.tuple_list t t2 hu,.tuple_list t t2 hu⟩
 | lst p h q r t=>cases sy with
  | non=>exact ⟨.list_none t hu,.list_none t hu⟩
  | bl _=>exact ⟨.list_bool _ t hu,.list_bool _ t hu⟩
  | int _ _=>exact ⟨.list_int _ _ t hu,.list_int _ _ t hu⟩
  | str _ _=>exact ⟨.list_str _ _ t hu,.list_str _ _ t hu⟩
  | tup p2 h2 q2 r2 t2=>exact ⟨.list_tuple t t2 hu,.list_tuple t t2 hu⟩
  | lst p2 h2 q2 r2 t2 => 
   rename_i ds _ xs its es _ ys its2
   simp only [D.dep] at hn
   have z:=Tf ih p p2 (Nat.le_of_succ_le_succ hn) q q2 r r2
   have lx:=q.length;have ly:=q2.length;have l1:=r.length;have l2:=r2.length
   simp only [eqD]
   by_cases hl:ds.length=es.length
   . have hsz:its.toArray.size=its2.toArray.size:=by simp;omega
     rw [<-wq q q2 r r2 hl];exact ⟨.lists t t2 hsz hu z,.lists t t2 hsz hu z⟩
   . have hsz:(its.toArray.size != its2.toArray.size)=true:=by simp;omega
     rw [Jp hl];exact ⟨.lists_lengths t t2 hsz hu,.lists_lengths t t2 hsz hu⟩
theorem Cj (I:Inv X pins U H s):∀(n:Nat) {A:Around} {d e:D} {x y:V} {u v:Value},d.pl=true->e.pl=true->d.dep<=n->A.units+n<cLine->RD X.K H d x->RD X.K H e y->RelV x u->RelV y v->SeqAt.EqAt A s u v (eqD d e):=by
 have key:∀(n:Nat) {A:Around} {d e:D} {x y:V} {u v:Value},A.units<cLine->(∀m,m+1=n->Ec X H s A.in1 m)->d.pl=true->e.pl=true->d.dep<=n->RD X.K H d x->RD X.K H e y->RelV x u->RelV y v->SeqAt.EqAt A s u v (eqD d e):=by
  intro n A d e x y u v hu ih hpd hpe hn hx hy ru rv;have sx:=shp I hpd hx ru;have sy:=shp I hpe hy rv;have back:∀{a b:Addr},u=.ref a->v=.ref b->x=.ref a->y=.ref b->1<=d.dep->SeqAt.EqAt A s u v (eqD d e):=fun {a b} eu ev ex ey h1=>by
   subst eu ev ex ey;by_cases hab:a=b
   . subst hab;rw [RD.inj hpd hpe hx hy,Js _ hpe];exact .same _
   . exact .of_refs hab (Zb (n:=n - 1) hu (ih (n - 1) (by omega)) (by omega) sx sy).1
  cases sx with
  | non=>cases sy with
   | non=>exact .same _
   | bl _=>exact .none_bool _
   | int _ _=>exact .none_int _ _
   | str _ _=>exact .none_str _ _
   | tup p2 h2 q2 r2 t2=>exact .none_tuple t2 hu
   | lst p2 h2 q2 r2 t2=>exact .none_list t2 hu
  | bl _=>cases sy with
   | non=>exact .bool_none _
   | bl _=>exact .bool_bool _ _
   | int _ _=>exact .bool_int _ _ _
   | str _ _=>exact .bool_str _ _ _
   | tup p2 h2 q2 r2 t2=>exact .bool_tuple _ t2 hu
   | lst p2 h2 q2 r2 t2=>exact .bool_list _ t2 hu
  | int _ _=>cases sy with
   | non=>exact .int_none _ _
   | bl _=>exact .int_bool _ _ _
   | int _ _=>exact .int_int _ _ _ _
   | str _ _=>exact .int_str _ _ _ _
   | tup p2 h2 q2 r2 t2=>exact .int_tuple _ _ t2 hu
   | lst p2 h2 q2 r2 t2=>exact .int_list _ _ t2 hu
  | str _ _=>cases sy with
   | non=>exact .str_none _ _
   | bl _=>exact .str_bool _ _ _
   | int _ _=>exact .str_int _ _ _ _
   | str _ _=>exact .str_str _ _ _ _
   | tup p2 h2 q2 r2 t2=>exact .str_tuple _ _ t2 hu
   | lst p2 h2 q2 r2 t2=>exact .str_list _ _ t2 hu
  | tup p h q r t=>cases sy with
   | non=>exact .tuple_none t hu
   | bl _=>exact .tuple_bool _ t hu
   | int _ _=>exact .tuple_int _ _ t hu
   | str _ _=>exact .tuple_str _ _ t hu
   | tup p2 h2 q2 r2 t2=>exact back rfl rfl rfl rfl (by simp only [D.dep];exact Nat.succ_pos _)
   | lst p2 h2 q2 r2 t2=>exact .tuple_list t t2 hu
  | lst p h q r t=>cases sy with
   | non=>exact .list_none t hu
   | bl _=>exact .list_bool _ t hu
   | int _ _=>exact .list_int _ _ t hu
   | str _ _=>exact .list_str _ _ t hu
   | tup p2 h2 q2 r2 t2=>exact .list_tuple t t2 hu
   | lst p2 h2 q2 r2 t2=>exact back rfl rfl rfl rfl (by simp only [D.dep];exact Nat.succ_pos _)
 intro n;induction n with
 | zero=>exact fun p q hn hu=>key 0 (by omega) (fun m z=>nomatch z) p q hn
 | succ n ih=>exact fun {A d e x y u v} p q hn hu=>key (n+1) (by omega) (fun m z=>by cases z;exact fun p q hn=>ih p q hn (by show A.units+1+n<cLine;omega)) p q hn
theorem Qd (I:Inv X pins U H s) {n:Nat} {A:Around} {d e:D} {x y:V} {u v:Value} (hpd:d.pl=true) (hpe:e.pl=true) (hn:d.dep<=n) (hu:A.units+1+n<cLine) (hx:RD X.K H d x) (hy:RD X.K H e y) (ru:RelV x u) (rv:RelV y v):SeqAt.RcAt A s u v (eqD d e)/\SeqAt.RcNeAt A s u v (!eqD d e):=
 Zb (n:=n) (by omega) (fun p q h=>Cj I n p q h (by show A.units+1+n<cLine;omega)) (by omega) (shp I hpd hx ru) (shp I hpe hy rv)
end
section
variable {X:Cx}
open Classical in
noncomputable def hitD (K:Frag) (H:Hp) (d:D) (u:Value):Bool:=match Zs u with
 | some v=>decide (∃e,e.pl=true/\RD K H e v/\eqD e d=true)
 | none=>false
open Classical in
theorem Dd {K:Frag} {H:Hp} {d e:D} {y:V} {u:Value} (pe:e.pl=true) (r:RelV y u) (h:RD K H e y):hitD K H d u=eqD e d:=by unfold hitD;rw [r.abs];dsimp only;rw [Bool.eq_iff_iff];rw [decide_eq_true_iff];exact ⟨fun ⟨e',p',h',q⟩=>by rw [RD.inj pe p' h h'];exact q,fun q=>⟨e,pe,h,q⟩⟩
theorem Ae {K:Frag} {H:Hp} {d:D}:∀{es:List D} {xs:List V} {us:List Value},pls es=true->RDs K H es xs->Vals xs us->us.any (hitD K H d)=es.any fun e=>eqD e d
 | [],_,_,_,h,r=>by simp only [RDs] at h;subst h;cases r;rfl
 | e::es,_,_,p,h,r=>by
  simp only [RDs] at h;simp only [pls,Bool.and_eq_true] at p;obtain ⟨x,xs,rfl,h1,h2⟩:=h;cases r with
  | cons r1 r2=>rw [List.any_cons,List.any_cons,Dd p.1 r1 h1,Ae p.2 h2 r2]
theorem L6 {A:Around} {pins:List (Addr×Obj)} {U:St} {H:Hp} {s:Shared} (I:Inv X pins U H s) (hu:A.units+1+20<cLine) {d:D} {x:V} {v:Value} (pd:d.pl=true) (hx:RD X.K H d x) (rx:RelV x v):∀{es:List D} {xs:List V} {us:List Value},
  pls es=true->RDs X.K H es xs->Vals xs us->j2 es<=20->∀u∈us,SeqAt.EqAt A.in1 s u v (hitD X.K H d u)
 | [],_,_,_,h,r,_=>by simp only [RDs] at h;subst h;cases r;intro u hu;cases hu
 | e::es,_,_,p,h,r,hd=>by
  simp only [RDs] at h;simp only [pls,Bool.and_eq_true] at p;obtain ⟨y,xs,rfl,h1,h2⟩:=h;simp only [j2] at hd;cases r with
  | cons r1 r2=>
   intro u hm
   rcases List.mem_cons.mp hm with z | hm
   . subst z;rw [Dd p.1 r1 h1];exact Cj I 20 p.1 pd (by omega) (by show A.units+1+20<cLine;omega) h1 hx r1 rx
   . exact L6 I hu pd hx rx p.2 h2 r2 (by omega) u hm
end
structure Ex where
 cls:String
 fs:List D
inductive R (α:Type) where
 | ok (a:α) | er (x:Ex) | st
noncomputable def R.bind {α β:Type} (r:R α) (f:α->R β):R β:=match r with
 | .ok a=>f a
 | .er x=>.er x
 | .st=>.st
def Rk {α:Type} (EX:Ex->Prop) (r:R α) (k:α->Prop):Prop:=match r with
 | .ok a=>k a
 | .er x=>EX x
 | .st=>False
section
variable {α β:Type} {EX:Ex->Prop}
noncomputable def R.of (o:Option α):R α:=match o with
 | some a=>.ok a
 | none=>.st
theorem R.of_some (a:α):R.of (some a)=R.ok a:=rfl
theorem Rk.of {o:Option α} {k:α->Prop} (h:Rk EX (R.of o) k):∃a,o=some a/\k a:=by
 cases o with
 | none=>exact h.elim
 | some a=>exact ⟨a,rfl,h⟩
theorem R.bind_ok (a:α) (f:α->R β):(R.ok a).bind f=f a:=rfl
theorem Rk.bind {r:R α} {f:α->R β} {k:β->Prop}:Rk EX (r.bind f) k=Rk EX r fun a=>Rk EX (f a) k:=by cases r<;>rfl
theorem Rk.mono {r:R α} {k k':α->Prop} (h:Rk EX r k) (hk:∀a,k a->k' a):Rk EX r k':=by
 cases r with
 | ok a=>exact hk a h
 | er x=>exact h
 | st=>exact h
end
def Ext (H0 H H0' H':Hp):Prop:=Same H0 H0'/\Same H0' H'/\∀a,H a≠none->H0 a=none->H0' a=none
theorem Ext.refl {H0 H:Hp} (h:Same H0 H):Ext H0 H H0 H:=⟨Same.refl _,h,fun _ _ e=>e⟩
theorem Z8 {α:Type} {o:Option α} {x:α} (h:o=some x):o≠none:=by rw [h];exact fun z=>nomatch z
theorem Same.ne {H H':Hp} (h:Same H H') {a:Addr} (n:H a≠none):H' a≠none:=by
 cases e:H a with
 | none=>exact absurd e n
 | some o=>exact Z8 (h a o e)
theorem Ext.trans {H0 H H0' H' H0'' H'':Hp} (s:Same H H') (a:Ext H0 H H0' H') (b:Ext H0' H' H0'' H''):Ext H0 H H0'' H'':=
 ⟨a.1.trans b.1,b.2.1,fun c h1 h2=>b.2.2 c (s.ne h1) (a.2.2 c h1 h2)⟩
theorem Ext.grow {H0 H H0' H' H'':Hp} (a:Ext H0 H H0' H') (s:Same H' H''):Ext H0 H H0' H'':=⟨a.1,a.2.1.trans s,a.2.2⟩
theorem Ext.new {H0 H:Hp} {p:Addr} {o:HO} (h:Same H0 H) (hp:H p=none):Ext H0 H (upd H0 p o) (upd H p o):=by
 have h0:H0 p=none:=by
  cases e:H0 p with
  | none=>rfl
  | some u=>rw [h p u e] at hp;cases hp
 refine ⟨Same.upd_new h0,fun b u e=>?_,fun a h1 h2=>?_⟩
 . by_cases hb:b=p
   . subst hb;rw [m7] at e ⊢;exact e
   . rw [h8 hb] at e ⊢;exact h b u e
 . have ha:a≠p:=fun z=>h1 (by rw [z];exact hp)
   rw [h8 ha];exact h2
def OB (K:Frag) (H0 H:Hp) (a:Addr):D->Prop
 | .lst ds=>∃xs,H a=some (.lst xs)/\RDs K H0 ds xs
 | .dk ks ds=>∃xs,H a=some (.dK (ks.zip xs))/\ks.length=xs.length/\RDs K H0 ds xs
 | .dt ks ds=>∃xs,H a=some (.dT (ks.zip xs))/\ks.length=xs.length/\RDs K H0 ds xs
 | .dn ks ds=>∃qs xs o,H a=some (.ext (dnP a qs xs o))/\qs.map (·.1)=ks/\DN H0 a qs/\RDs K H0 ds xs
 | _=>False
section
variable {K:Frag} {H0 H H0' H':Hp} {a:Addr} {d:D}
theorem OB.some (h:OB K H0 H a d):∃o,H a=some o/\¬Imm o:=by
 cases d<;>simp only [OB] at h
 . obtain ⟨xs,h,_⟩:=h;exact ⟨_,h,fun z=>z⟩
 . obtain ⟨xs,h,_⟩:=h;exact ⟨_,h,fun z=>z⟩
 . obtain ⟨xs,h,_⟩:=h;exact ⟨_,h,fun z=>z⟩
 . obtain ⟨qs,xs,o,h,_⟩:=h;exact ⟨_,h,fun z=>z _ _ _ _ rfl⟩
theorem OB.mono (h:OB K H0 H a d) (s0:Same H0 H0') (s:Same H H'):OB K H0' H' a d:=by
 cases d<;>simp only [OB] at h ⊢
 . obtain ⟨xs,h,r⟩:=h;exact ⟨_,s _ _ h,r.mono s0⟩
 . obtain ⟨xs,h,l,r⟩:=h;exact ⟨_,s _ _ h,l,r.mono s0⟩
 . obtain ⟨xs,h,l,r⟩:=h;exact ⟨_,s _ _ h,l,r.mono s0⟩
 . obtain ⟨qs,xs,o,h,k,n,r⟩:=h;exact ⟨qs,xs,o,s _ _ h,k,n.tk fun b ys q=>s0 _ _ q,r.mono s0⟩
theorem OB.at (h:OB K H0 H a d) (e:H' a=H a):OB K H0 H' a d:=by
 cases d<;>simp only [OB] at h ⊢
 . obtain ⟨xs,h,r⟩:=h;exact ⟨_,e.trans h,r⟩
 . obtain ⟨xs,h,l,r⟩:=h;exact ⟨_,e.trans h,l,r⟩
 . obtain ⟨xs,h,l,r⟩:=h;exact ⟨_,e.trans h,l,r⟩
 . obtain ⟨qs,xs,o,h,k,n,r⟩:=h;exact ⟨qs,xs,o,e.trans h,k,n,r⟩
theorem OB.tk (h:OB K H0 H a d) (n:d.shal=true) (t:TK H0 H0'):OB K H0' H a d:=by
 cases d<;>simp only [OB,D.shal] at h n ⊢
 . obtain ⟨xs,h,r⟩:=h;exact ⟨_,h,r.tk t n⟩
 . obtain ⟨xs,h,l,r⟩:=h;exact ⟨_,h,l,r.tk t n⟩
 . obtain ⟨xs,h,l,r⟩:=h;exact ⟨_,h,l,r.tk t n⟩
 . obtain ⟨qs,xs,o,h,k,m,r⟩:=h;exact ⟨qs,xs,o,h,k,m.tk fun b ys q=>t _ _ trivial q,r.tk t n⟩
theorem OB.rd (h:OB K H0 H a d) (s0:Same H0 H0') (e:H0' a=H a):RD K H0' d (.ref a):=by
 cases d<;>simp only [OB,RD] at h ⊢
 . obtain ⟨xs,h,r⟩:=h;exact ⟨_,_,rfl,e.trans h,r.mono s0⟩
 . obtain ⟨xs,h,l,r⟩:=h;exact ⟨_,_,rfl,e.trans h,l,r.mono s0⟩
 . obtain ⟨xs,h,l,r⟩:=h;exact ⟨_,_,rfl,e.trans h,l,r.mono s0⟩
 . obtain ⟨qs,xs,o,h,k,n,r⟩:=h;exact ⟨_,qs,xs,o,rfl,e.trans h,k,n.tk fun b ys q=>s0 _ _ q,r.mono s0⟩
end
def Out (K:Frag) (fr:Bool) (H0 H:Hp) (d:D) (v:V) (H':Hp):Prop:=
 Same H H'/\∃H0',Ext H0 H H0' H'/\(if fr=true then ∃p,v=.ref p/\H p=none/\H0' p=none/\OB K H0' H' p d else RD K H0' d v)
section
variable {K:Frag} {fr:Bool} {H0 H H0' H':Hp} {d:D} {v:V}
theorem Out.val (s:Same H H') (e:Ext H0 H H0' H') (r:RD K H0' d v):Out K false H0 H d v H':=⟨s,H0',e,by rw [if_neg Bool.false_ne_true];exact r⟩
theorem Out.pure (s:Same H0 H) (r:RD K H0 d v):Out K false H0 H d v H:=.val (Same.refl _) (.refl s) r
theorem Out.fresh {p:Addr} (s:Same H H') (e:Ext H0 H H0' H') (hp:H p=none) (hp0:H0' p=none) (o:OB K H0' H' p d):Out K true H0 H d (.ref p) H':=⟨s,H0',e,by rw [if_pos rfl];exact ⟨p,rfl,hp,hp0,o⟩⟩
theorem Out.rd (o:Out K false H0 H d v H'):Same H H'/\∃H0',Ext H0 H H0' H'/\RD K H0' d v:=by obtain ⟨s,H0',e,r⟩:=o;rw [if_neg Bool.false_ne_true] at r;exact ⟨s,H0',e,r⟩
theorem Out.weak (o:Out K fr H0 H d v H'):Out K false H0 H d v H':=by
 cases fr with
 | false=>exact o
 | true=>
  obtain ⟨s,H0',e,r⟩:=o
  rw [if_pos rfl] at r
  obtain ⟨p,rfl,hp,hp0,ob⟩:=r
  obtain ⟨u,hu,_⟩:=ob.some
  have e2:Ext H0 H (upd H0' p u) H':=by
   refine ⟨e.1.trans (Same.upd_new hp0),fun b w q=>?_,fun a h1 h2=>?_⟩
   . by_cases hb:b=p
     . subst hb;rw [m7] at q;cases q;exact hu
     . rw [h8 hb] at q;exact e.2.1 b w q
   . rw [h8 (fun z=>h1 (by rw [z];exact hp))];exact e.2.2 a h1 h2
  exact .val s e2 (ob.rd (Same.upd_new hp0) (by rw [m7,hu]))
theorem Out.after {H1 H1':Hp} (s:Same H H1) (e:Ext H0 H H1' H1) (o:Out K fr H1' H1 d v H'):Out K fr H0 H d v H':=by
 obtain ⟨s',H0',e',r⟩:=o;refine ⟨s.trans s',H0',e.trans s e',?_⟩;cases fr with
 | false=>exact r
 | true=>
  rw [if_pos rfl] at r ⊢
  obtain ⟨p,rfl,hp,r⟩:=r
  refine ⟨p,rfl,?_,r⟩
  cases q:H p with
  | none=>rfl
  | some u=>rw [s p u q] at hp;cases hp
end
abbrev DE:=List (Option D)
def RE (K:Frag) (H:Hp) (ρ:DE) (U:St):Prop:=ρ.length=U.length/\∀(i:Nat) d,ρ[i]?=some (some d)->∃v,U[i]?=some (some v)/\RD K H d v
theorem RE.mono {K:Frag} {H H':Hp} {ρ:DE} {U:St} (h:RE K H ρ U) (s:Same H H'):RE K H' ρ U:=⟨h.1,fun i d e=>by obtain ⟨v,h1,h2⟩:=h.2 i d e;exact ⟨v,h1,h2.mono s⟩⟩
structure XW where
 hb:Hp
 p:Ex->Hp->Prop
abbrev F0:XW:=⟨fun _=>none,fun _ _=>False⟩
theorem F0.same (H:Hp):Same F0.hb H:=fun _ _ z=>nomatch z
def XW.at (W:XW) (x:Ex):Prop:=∀H',Same W.hb H'->W.p x H'
noncomputable def TEd (K:Frag) (EX:XW) (fr:Bool) (f:DE->R D):TE:=fun U H Q=>Same EX.hb H/\∃ρ H0,Same H0 H/\RE K H0 ρ U/\Rk EX.at (f ρ) fun d=>∀v H',Out K fr H0 H d v H'->Q v H'
noncomputable def TAd (K:Frag) (EX:XW) (f:DE->R (List D)):TA:=fun U H Q=>Same EX.hb H/\∃ρ H0,Same H0 H/\RE K H0 ρ U/\Rk EX.at (f ρ) fun ds=>∀vs H' H0',Same H H'->Ext H0 H H0' H'->RDs K H0' ds vs->Q vs H'
noncomputable def TTd (K:Frag) (EX:XW) (f:DE->R Bool):TT:=fun U H Q=>Same EX.hb H/\∃ρ H0,Same H0 H/\RE K H0 ρ U/\Rk EX.at (f ρ) fun b=>∀H',Same H H'->Q b H'
noncomputable def a9 (i:Nat):DE->R D:=fun ρ=>match ρ[i]? with | some (some d)=>.ok d | _=>.st
noncomputable def eC (d:D):DE->R D:=fun _=>.ok d
noncomputable def eOp (o:D->D->Option D) (fa fb:DE->R D):DE->R D:=fun ρ=>(fa ρ).bind fun x=>(fb ρ).bind fun y=>R.of (o x y)
noncomputable def eUn (o:D->Option D) (fa:DE->R D):DE->R D:=fun ρ=>(fa ρ).bind fun x=>R.of (o x)
noncomputable def b8:DE->R (List D):=fun _=>.ok []
noncomputable def b6 (f:DE->R D) (fs:DE->R (List D)):DE->R (List D):=fun ρ=>(f ρ).bind fun d=>(fs ρ).bind fun ds=>.ok (d::ds)
noncomputable def g9 (m:List D->R D) (fs:DE->R (List D)):DE->R D:=fun ρ=>(fs ρ).bind m
noncomputable def eCB (m:List D->Option D) (fs:DE->R (List D)):DE->R D:=fun ρ=>(fs ρ).bind fun ds=>R.of (m ds)
noncomputable def k0 (fs:DE->R (List D)):DE->R D:=fun ρ=>(fs ρ).bind fun ds=>if ds.length<=1000 then .ok (.tup ds) else .st
noncomputable def x4 (fs:DE->R (List D)):DE->R D:=fun ρ=>(fs ρ).bind fun ds=>if ds.length<=1000 then .ok (.lst ds) else .st
noncomputable def eIf (t:DE->R Bool) (fa fb:DE->R D):DE->R D:=fun ρ=>(t ρ).bind fun b=>if b=true then fa ρ else fb ρ
noncomputable def N7 (t u:DE->R Bool):DE->R Bool:=fun ρ=>(t ρ).bind fun b=>if b=true then u ρ else .ok false
noncomputable def bOr (t u:DE->R Bool):DE->R Bool:=fun ρ=>(t ρ).bind fun b=>if b=true then .ok true else u ρ
noncomputable def D1 (t:DE->R Bool):DE->R Bool:=fun ρ=>(t ρ).bind fun b=>.ok (!b)
noncomputable def asB:D->Option Bool
 | .bl b=>some b
 | _=>none
noncomputable def i6 (tr:D->Option Bool) (f:DE->R D):DE->R Bool:=fun ρ=>(f ρ).bind fun d=>R.of (tr d)
noncomputable def N6 (fa fb:DE->R D):DE->R D:=fun ρ=>(fa ρ).bind fun x=>(R.of (asB x)).bind fun b=>if b=true then fb ρ else .ok (.bl false)
noncomputable def eOr (fa fb:DE->R D):DE->R D:=fun ρ=>(fa ρ).bind fun x=>(R.of (asB x)).bind fun b=>if b=true then .ok (.bl true) else fb ρ
def OpD (K:Frag) (fr:Bool) (o:D->D->Option D) (r:R2):Prop:=∀(H0 H:Hp) (x y:V) (d e z:D) (Q:VK),Same H0 H->RD K H0 d x->RD K H0 e y->o d e=some z->(∀v H',Out K fr H0 H z v H'->Q v H')->r x y H Q
def UnD (K:Frag) (fr:Bool) (o:D->Option D) (r:V->Hp->VK->Prop):Prop:=∀(H0 H:Hp) (x:V) (d z:D) (Q:VK),Same H0 H->RD K H0 d x->o d=some z->(∀v H',Out K fr H0 H z v H'->Q v H')->r x H Q
def y0 (K:Frag) (fr:Bool) (m:List D->Option D) (r:List V->Hp->VK->Prop):Prop:=∀(H0 H:Hp) (xs:List V) (ds:List D) (z:D) (Q:VK),Same H0 H->RDs K H0 ds xs->m ds=some z->(∀v H',Out K fr H0 H z v H'->Q v H')->r xs H Q
def Eb (K:Frag) (tr:D->Option Bool) (r:V->Hp->(Bool->Hp->Prop)->Prop):Prop:=∀(H0 H:Hp) (x:V) (d:D) (b:Bool) (Q:Bool->Hp->Prop),Same H0 H->RD K H0 d x->tr d=some b->Q b H->r x H Q
section
variable {K:Frag} {EX:XW} {fr:Bool} {U:St} {H:Hp} {Q:VK}
theorem TEd.go {f:DE->R D} {ρ:DE} {H0:Hp} {k:D->Prop} (sx:Same EX.hb H) (s:Same H0 H) (e:RE K H0 ρ U) (h:Rk EX.at (f ρ) k) (hk:∀d,k d->∀v H' H0',Same H H'->Ext H0 H H0' H'->RD K H0' d v->Q v H'):TEd K EX false f U H Q:=
 ⟨sx,ρ,H0,s,e,h.mono fun d z v H' o=>by obtain ⟨s',H0',e',r⟩:=o.rd;exact hk d z v H' H0' s' e' r⟩
theorem TAd.go {f:DE->R (List D)} {ρ:DE} {H0:Hp} {k:List D->Prop} {Q:List V->Hp->Prop} (sx:Same EX.hb H) (s:Same H0 H) (e:RE K H0 ρ U) (h:Rk EX.at (f ρ) k) (hk:∀d,k d->∀v H' H0',Same H H'->Ext H0 H H0' H'->RDs K H0' d v->Q v H'):TAd K EX f U H Q:=
 ⟨sx,ρ,H0,s,e,h.mono fun d z v H' H0' s' e' r=>hk d z v H' H0' s' e' r⟩
theorem TTd.go {f:DE->R Bool} {ρ:DE} {H0:Hp} {k:Bool->Prop} {Q:Bool->Hp->Prop} (sx:Same EX.hb H) (s:Same H0 H) (e:RE K H0 ρ U) (h:Rk EX.at (f ρ) k) (hk:∀b,k b->∀H',Same H H'->Q b H'):TTd K EX f U H Q:=
 ⟨sx,ρ,H0,s,e,h.mono fun b z H' s'=>hk b z H' s'⟩
theorem TEd.weak {f:DE->R D} (h:TEd K EX false f U H Q):TEd K EX fr f U H Q:=by obtain ⟨sx,ρ,H0,s,e,h⟩:=h;exact ⟨sx,ρ,H0,s,e,h.mono fun d z v H' o=>z v H' o.weak⟩
theorem jk {i:Nat} (h:TEd K EX false (a9 i) U H Q):∃v,U[i]?=some (some v)/\Q v H:=by
 obtain ⟨sx,ρ,H0,s,e,h⟩:=h;unfold a9 at h;split at h
 . rename_i d q;obtain ⟨v,h1,h2⟩:=e.2 i d q;exact ⟨v,h1,h v H (.pure s h2)⟩
 . exact h.elim
theorem Te {d:D} {v:V} (hd:∀H0,RD K H0 d v) (h:TEd K EX false (eC d) U H Q):tC v U H Q:=by obtain ⟨sx,ρ,H0,s,e,h⟩:=h;exact h v H (.pure s (hd _))
theorem Bf {o:D->D->Option D} {r:R2} {fa fb:DE->R D} (ho:OpD K fr o r) (h:TEd K EX fr (eOp o fa fb) U H Q):tOp r (TEd K EX false fa) (TEd K EX false fb) U H Q:=by
 obtain ⟨sx,ρ,H0,s,e,h⟩:=h;unfold eOp at h;rw [Rk.bind] at h;refine TEd.go sx s e h fun d h v H1 H1' s1 e1 r1=>?_
 rw [Rk.bind] at h;refine TEd.go (sx.trans s1) e1.2.1 (e.mono e1.1) h fun d2 h v2 H2 H2' s2 e2 r2=>?_
 obtain ⟨z,hz,h⟩:=h.of;exact ho H2' H2 v v2 d d2 z Q e2.2.1 (r1.mono e2.1) r2 hz fun w H3 o=>h w H3 (o.after (s1.trans s2) (e1.trans s1 e2))
theorem y3e {o:D->Option D} {r:V->Hp->VK->Prop} {fa:DE->R D} (ho:UnD K fr o r) (h:TEd K EX fr (eUn o fa) U H Q):tUn r (TEd K EX false fa) U H Q:=by
 obtain ⟨sx,ρ,H0,s,e,h⟩:=h;unfold eUn at h;rw [Rk.bind] at h;refine TEd.go sx s e h fun d h v H1 H1' s1 e1 r1=>?_
 obtain ⟨z,hz,h⟩:=h.of;exact ho H1' H1 v d z Q e1.2.1 r1 hz fun w H3 o=>h w H3 (o.after s1 e1)
theorem Nn {Q:List V->Hp->Prop} (h:TAd K EX b8 U H Q):N1 U H Q:=by obtain ⟨sx,ρ,H0,s,e,h⟩:=h;exact h [] H H0 (Same.refl _) (.refl s) .nil
theorem Gp {Q:List V->Hp->Prop} {f:DE->R D} {fs:DE->R (List D)} (h:TAd K EX (b6 f fs) U H Q):G5 (TEd K EX false f) (TAd K EX fs) U H Q:=by
 obtain ⟨sx,ρ,H0,s,e,h⟩:=h;unfold b6 at h;rw [Rk.bind] at h;refine TEd.go sx s e h fun d h v H1 H1' s1 e1 r1=>?_
 rw [Rk.bind] at h;refine TAd.go (sx.trans s1) e1.2.1 (e.mono e1.1) h fun ds h vs H2 H2' s2 e2 r2=>?_
 exact h (v::vs) H2 H2' (s1.trans s2) (e1.trans s1 e2) (.cons (r1.mono e2.1) r2)
theorem Be {m:List D->Option D} {r:List V->Hp->VK->Prop} {fs:DE->R (List D)} (hm:y0 K fr m r) (h:TEd K EX fr (eCB m fs) U H Q):tCB r (TAd K EX fs) U H Q:=by
 obtain ⟨sx,ρ,H0,s,e,h⟩:=h;unfold eCB at h;rw [Rk.bind] at h;refine TAd.go sx s e h fun ds h vs H1 H1' s1 e1 r1=>?_
 obtain ⟨z,hz,h⟩:=h.of;exact hm H1' H1 vs ds z Q e1.2.1 r1 hz fun w H3 o=>h w H3 (o.after s1 e1)
theorem Td {n:Nat} (h:n<=1000):n<=sizeLine:=Nat.le_trans h (by decide)
theorem jj {fs:DE->R (List D)} (h:TEd K EX false (k0 fs) U H Q):Zm (TAd K EX fs) U H Q:=by
 obtain ⟨sx,ρ,H0,s,e,h⟩:=h;unfold k0 at h;rw [Rk.bind] at h;refine TAd.go sx s e h fun ds h vs H1 H1' s1 e1 r1=>?_
 split at h
 . rename_i hl;refine ⟨Td (by rw [<-r1.length];exact hl),fun p hp=>h _ _ (.val (s1.trans (Same.upd_new hp)) (e1.trans s1 (.new e1.2.1 hp)) ?_)⟩;have h1p:H1' p=none:=by
    cases q:H1' p with
    | none=>rfl
    | some u=>rw [e1.2.1 p u q] at hp;cases hp
   simp only [RD];exact ⟨p,vs,rfl,m7,r1.mono (Same.upd_new h1p)⟩
 . exact h.elim
theorem Same.none {H H':Hp} (s:Same H H') {p:Addr} (h:H' p=none):H p=none:=by
 cases q:H p with
 | none=>rfl
 | some u=>rw [s p u q] at h;cases h
theorem Out.new {H0 H:Hp} {d:D} {p:Addr} {o:HO} (s:Same H0 H) (hp:H p=none) (hob:∀H',H' p=some o->OB K H0 H' p d):Out K true H0 H d (.ref p) (upd H p o):=
 .fresh (Same.upd_new hp) ((Ext.refl s).grow (Same.upd_new hp)) hp (s.none hp) (hob _ m7)
theorem ji {fs:DE->R (List D)} (h:TEd K EX true (x4 fs) U H Q):Zl (TAd K EX fs) U H Q:=by
 obtain ⟨sx,ρ,H0,s,e,h⟩:=h;unfold x4 at h;rw [Rk.bind] at h;refine TAd.go sx s e h fun ds h vs H1 H1' s1 e1 r1=>?_
 split at h
 . rename_i hl;refine ⟨Td (by rw [<-r1.length];exact hl),fun p hp=>h _ _ (Out.after s1 e1 (.new e1.2.1 hp fun H' hH=>?_))⟩;simp only [OB];exact ⟨vs,hH,r1⟩
 . exact h.elim
theorem y3f {t:DE->R Bool} {fa fb:DE->R D} (h:TEd K EX fr (eIf t fa fb) U H Q):tIf (TTd K EX t) (TEd K EX fr fa) (TEd K EX fr fb) U H Q:=by
 obtain ⟨sx,ρ,H0,s,e,h⟩:=h;unfold eIf at h;rw [Rk.bind] at h;refine TTd.go sx s e h fun b h H1 s1=>?_
 have fin:∀{f:DE->R D},Rk EX.at (f ρ) (fun d=>∀v H',Out K fr H0 H d v H'->Q v H')->TEd K EX fr f U H1 Q:=fun {f} h=>
  ⟨sx.trans s1,ρ,H0,s.trans s1,e,h.mono fun d z v H' o=>z v H' (o.after s1 ((Ext.refl s).grow s1))⟩
 cases b with
 | true=>exact fin h
 | false=>exact fin h
theorem qD {t u:DE->R Bool} {Q:Bool->Hp->Prop} (h:TTd K EX (N7 t u) U H Q):Zu (TTd K EX t) (TTd K EX u) U H Q:=by
 obtain ⟨sx,ρ,H0,s,e,h⟩:=h;unfold N7 at h;rw [Rk.bind] at h;refine TTd.go sx s e h fun b h H1 s1=>?_
 cases b with
 | true=>exact TTd.go (sx.trans s1) (s.trans s1) e h fun b h H' s'=>h H' (s1.trans s')
 | false=>exact h H1 s1
theorem jh {t u:DE->R Bool} {Q:Bool->Hp->Prop} (h:TTd K EX (bOr t u) U H Q):tOr (TTd K EX t) (TTd K EX u) U H Q:=by
 obtain ⟨sx,ρ,H0,s,e,h⟩:=h;unfold bOr at h;rw [Rk.bind] at h;refine TTd.go sx s e h fun b h H1 s1=>?_
 cases b with
 | true=>exact h H1 s1
 | false=>exact TTd.go (sx.trans s1) (s.trans s1) e h fun b h H' s'=>h H' (s1.trans s')
theorem qC {t:DE->R Bool} {Q:Bool->Hp->Prop} (h:TTd K EX (D1 t) U H Q):Zt (TTd K EX t) U H Q:=by obtain ⟨sx,ρ,H0,s,e,h⟩:=h;unfold D1 at h;rw [Rk.bind] at h;exact TTd.go sx s e h fun b h H1 s1=>h H1 s1
end
noncomputable def y3g (r:V->Hp->(Bool->Hp->Prop)->Prop) (t:TE):TT:=fun U H Q=>t U H fun x H'=>r x H' Q
noncomputable def W9 (K:Frag) (EX:XW) (g:D->DE->R Bool):V->TT:=fun x U H Q=>Same EX.hb H/\∃d ρ H0,Same H0 H/\RE K H0 ρ U/\RD K H0 d x/\Rk EX.at (g d ρ) fun b=>∀H',Same H H'->Q b H'
noncomputable def zzj (o:D->D->Option D) (fb:DE->R D):D->DE->R D:=fun d ρ=>(fb ρ).bind fun y=>R.of (o d y)
noncomputable def zzk (o:D->D->Option D) (fb:DE->R D) (g:D->DE->R D):D->DE->R D:=fun d ρ=>(fb ρ).bind fun y=>(R.of (o d y)).bind fun z=>(R.of (asB z)).bind fun b=>if b=true then g y ρ else .ok (.bl false)
noncomputable def Z1 (o:D->D->Option D) (fb:DE->R D):D->DE->R Bool:=fun d ρ=>(fb ρ).bind fun y=>(R.of (o d y)).bind fun z=>R.of (asB z)
noncomputable def T4 (o:D->D->Option D) (fb:DE->R D) (g:D->DE->R Bool):D->DE->R Bool:=fun d ρ=>(fb ρ).bind fun y=>(R.of (o d y)).bind fun z=>(R.of (asB z)).bind fun b=>if b=true then g y ρ else .ok false
noncomputable def y3h (fa:DE->R D) (g:D->DE->R D):DE->R D:=fun ρ=>(fa ρ).bind fun x=>g x ρ
noncomputable def V9 (fa:DE->R D) (g:D->DE->R Bool):DE->R Bool:=fun ρ=>(fa ρ).bind fun x=>g x ρ
theorem Dj {d:D} {b:Bool} (h:asB d=some b):d=.bl b:=by cases d<;>simp [asB] at h;subst h;rfl
theorem RD.bl {K:Frag} {H:Hp} {b:Bool} {v:V} (h:RD K H (.bl b) v):v=.bl b:=by simpa only [RD] using h
section
variable {K:Frag} {EX:XW} {U:St} {H:Hp} {Q:VK} {QB:Bool->Hp->Prop}
theorem jg {fa fb:DE->R D} (h:TEd K EX false (N6 fa fb) U H Q):Nt (TEd K EX false fa) (TEd K EX false fb) U H Q:=by
 obtain ⟨sx,ρ,H0,s,e,h⟩:=h;unfold N6 at h;rw [Rk.bind] at h;refine TEd.go sx s e h fun d h v H1 H1' s1 e1 r1=>?_
 rw [Rk.bind] at h;obtain ⟨b,hb,h⟩:=h.of;cases Dj hb;cases r1.bl;cases b with
 | true=>exact TEd.go (sx.trans s1) e1.2.1 (e.mono e1.1) h fun d h v H2 H2' s2 e2 r2=>h v H2 (.val (s1.trans s2) (e1.trans s1 e2) r2)
 | false=>exact h _ H1 (.val s1 e1 (by simp only [RD]))
theorem jf {tr:D->Option Bool} {r:V->Hp->(Bool->Hp->Prop)->Prop} {fa:DE->R D} (ht:Eb K tr r) (h:TTd K EX (i6 tr fa) U H QB):y3g r (TEd K EX false fa) U H QB:=by
 obtain ⟨sx,ρ,H0,s,e,h⟩:=h;unfold i6 at h;rw [Rk.bind] at h;refine TEd.go sx s e h fun d h v H1 H1' s1 e1 r1=>?_
 obtain ⟨b,hb,h⟩:=h.of;exact ht H1' H1 v d b QB e1.2.1 r1 hb (h H1 s1)
theorem qB {tr:D->Option Bool} {r:V->Hp->(Bool->Hp->Prop)->Prop} {fa:DE->R D} (ht:Eb K tr r) (h:TEd K EX false (eUn (fun d=>(tr d).map fun b=>.bl (!b)) fa) U H Q) :
  (fun U H Q=>(TEd K EX false fa) U H fun x H1=>r x H1 fun k H2=>Q (.bl (!k)) H2) U H Q:=by
 obtain ⟨sx,ρ,H0,s,e,h⟩:=h
 unfold eUn at h
 rw [Rk.bind] at h
 refine TEd.go sx s e h fun d h v H1 H1' s1 e1 r1=>?_
 obtain ⟨z,hz,h⟩:=h.of
 have hz:(tr d).map (fun b=>D.bl (!b))=some z:=hz
 cases hb:tr d with
 | none=>rw [hb] at hz;cases hz
 | some b=>
  rw [hb] at hz;cases hz
  exact ht H1' H1 v d b _ e1.2.1 r1 hb (h _ H1 (.val s1 e1 (by simp only [RD])))
theorem je {o:D->D->Option D} {r:R2} {fa fb:DE->R D} (ho:OpD K false o r) (h:TTd K EX (i6 asB (eOp o fa fb)) U H QB):Fm (tOp r (TEd K EX false fa) (TEd K EX false fb)) U H QB:=by obtain ⟨sx,ρ,H0,s,e,h⟩:=h;unfold i6 at h;rw [Rk.bind] at h;unfold Fm;refine Bf (EX:=EX) ho ⟨sx,ρ,H0,s,e,h.mono fun d h v H' o=>?_⟩;obtain ⟨b,hb,h⟩:=h.of;obtain ⟨s',H0',e',r'⟩:=o.rd;cases Dj hb;cases r'.bl;exact h H' s'
theorem wo {o:D->D->Option D} {r:R2} {fb:DE->R D} (ho:OpD K false o r) {x:V} (h:W9 K EX (Z1 o fb) x U H QB):Qh r (TEd K EX false fb) x U H QB:=by
 obtain ⟨sx,d,ρ,H0,s,e,rx,h⟩:=h;unfold Z1 at h;rw [Rk.bind] at h;refine TEd.go sx s e h fun d2 h v2 H2 H2' s2 e2 r2=>?_
 rw [Rk.bind] at h;obtain ⟨z,hz,h⟩:=h.of;obtain ⟨b,hb,h⟩:=h.of;cases Dj hb;refine ho H2' H2 x v2 d d2 _ _ e2.2.1 (rx.mono e2.1) r2 hz fun w H3 o=>?_
 obtain ⟨s3,H3',e3,r3⟩:=o.rd;cases r3.bl;exact h H3 (s2.trans s3)
theorem wn {o:D->D->Option D} {r:R2} {fb:DE->R D} {g:D->DE->R Bool} (ho:OpD K false o r) {x:V} (h:W9 K EX (T4 o fb g) x U H QB):Qg r (TEd K EX false fb) (W9 K EX g) x U H QB:=by
 obtain ⟨sx,d,ρ,H0,s,e,rx,h⟩:=h;unfold T4 at h;rw [Rk.bind] at h;refine TEd.go sx s e h fun d2 h v2 H2 H2' s2 e2 r2=>?_
 rw [Rk.bind] at h;obtain ⟨z,hz,h⟩:=h.of;rw [Rk.bind] at h;obtain ⟨b,hb,h9⟩:=h.of;cases Dj hb;refine ho H2' H2 x v2 d d2 _ _ e2.2.1 (rx.mono e2.1) r2 hz fun w H3 o=>?_
 obtain ⟨s3,H3',e3,r3⟩:=o.rd;cases r3.bl;clear h;have h:=h9;cases b with
 | true=>exact ⟨(sx.trans s2).trans s3,d2,ρ,H3',e3.2.1,e.mono (e2.1.trans e3.1),r2.mono e3.1,h.mono fun z h H' s'=>h H' (s2.trans (s3.trans s'))⟩
 | false=>exact h H3 (s2.trans s3)
theorem qA {fa:DE->R D} {g:D->DE->R Bool} (h:TTd K EX (V9 fa g) U H QB):Nu (TEd K EX false fa) (W9 K EX g) U H QB:=by obtain ⟨sx,ρ,H0,s,e,h⟩:=h;unfold V9 at h;rw [Rk.bind] at h;exact TEd.go sx s e h fun d h v H1 H1' s1 e1 r1=>⟨sx.trans s1,d,ρ,H1',e1.2.1,e.mono e1.1,r1,h.mono fun z h H' s'=>h H' (s1.trans s')⟩
end
inductive Sl where
 | em | im (d:D) | ow (d:D)
abbrev DS:=List Sl
noncomputable def Sl.see (b:Bool):Sl->Option D
 | .em=>none
 | .im d=>some d
 | .ow d=>if b=true then some d else none
noncomputable def Sl.frz (b:Bool):Sl->Sl
 | .ow d=>if b=true then .im d else .ow d
 | s=>s
noncomputable def vis:List Bool->DS->DE
 | _,[]=>[]
 | [],s::r=>s.see false::vis [] r
 | b::m,s::r=>s.see b::vis m r
noncomputable def frz:List Bool->DS->DS
 | _,[]=>[]
 | [],s::r=>s::r
 | b::m,s::r=>s.frz b::frz m r
theorem Hy:∀(m:List Bool) (ρ:DS) (i:Nat),(vis m ρ)[i]?=(ρ[i]?).map (Sl.see (m.getD i false))
 | [],[],i=>by simp [vis]
 | _::_,[],i=>by simp [vis]
 | [],s::r,0=>by simp [vis]
 | b::m,s::r,0=>by simp [vis]
 | [],s::r,i+1=>by simpa [vis] using Hy [] r i
 | b::m,s::r,i+1=>by simpa [vis] using Hy m r i
theorem Kq:∀(m:List Bool) (ρ:DS),(vis m ρ).length=ρ.length
 | [],[]=>rfl
 | _::_,[]=>rfl
 | [],s::r=>by simp [vis,Kq [] r]
 | b::m,s::r=>by simp [vis,Kq m r]
theorem Sl.frz_false (s:Sl):s.frz false=s:=by cases s<;>simp [Sl.frz]
theorem Hx:∀(m:List Bool) (ρ:DS) (i:Nat),(L2.frz m ρ)[i]?=(ρ[i]?).map (Sl.frz (m.getD i false))
 | [],[],i=>by simp [frz]
 | _::_,[],i=>by simp [frz]
 | [],s::r,i=>by
  simp only [frz,List.getD_nil];cases h:(s::r)[i]? with
  | none=>rfl
  | some x=>simp [Sl.frz_false]
 | b::m,s::r,0=>by simp [frz]
 | b::m,s::r,i+1=>by simpa [frz] using Hx m r i
theorem Wp:∀(m:List Bool) (ρ:DS),(L2.frz m ρ).length=ρ.length
 | [],[]=>rfl
 | _::_,[]=>rfl
 | [],s::r=>rfl
 | b::m,s::r=>by simp [frz,Wp m r]
structure RS (K:Frag) (Hc Hb H0:Hp) (ρ:DS) (U:St) (H:Hp):Prop where
 sb:Same Hb H
 ext:Ext Hc Hb H0 H
 len:ρ.length=U.length
 im:∀(i:Nat) d,ρ[i]?=some (.im d)->∃v,U[i]?=some (some v)/\RD K H0 d v
 ow:∀(i:Nat) d,ρ[i]?=some (.ow d)->∃a,U[i]?=some (some (.ref a))/\H0 a=none/\Hb a=none/\OB K H0 H a d
 ap:∀(i j:Nat) d e a,ρ[i]?=some (.ow d)->ρ[j]?=some (.ow e)->U[i]?=some (some (.ref a))->U[j]?=some (some (.ref a))->i=j
theorem RS.grow {K:Frag} {Hc Hb H0 H H':Hp} {ρ:DS} {U:St} (R:RS K Hc Hb H0 ρ U H) (s:Same H H'):RS K Hc Hb H0 ρ U H':=
 ⟨R.sb.trans s,R.ext.grow s,R.len,R.im,fun i d e=>by obtain ⟨a,h1,h2,h3,h4⟩:=R.ow i d e;exact ⟨a,h1,h2,h3,h4.mono (Same.refl _) s⟩,R.ap⟩
def Msk (m:List Bool) (ρ:DS) (U:St) (a:Addr):Prop:=∃i d,m.getD i false=true/\ρ[i]?=some (.ow d)/\U[i]?=some (some (.ref a))
open Classical in
noncomputable def HeOf (m:List Bool) (ρ:DS) (U:St) (H0 H:Hp):Hp:=fun a=>if Msk m ρ U a then H a else H0 a
open Classical in
noncomputable def HdOf (m:List Bool) (ρ:DS) (U:St) (H0:Hp):Hp:=fun a=>if Msk m ρ U a then none else H0 a
section
variable {K:Frag} {Hc Hb H0 H H':Hp} {ρ:DS} {U:St} {m:List Bool}
theorem RS.msk (R:RS K Hc Hb H0 ρ U H) {a:Addr} (h:Msk m ρ U a):H0 a=none/\Hb a=none/\∃o,H a=some o/\¬Imm o:=by obtain ⟨i,d,_,h1,h2⟩:=h;obtain ⟨a',q1,q2,q3,q4⟩:=R.ow i d h1;rw [h2] at q1;cases q1;exact ⟨q2,q3,q4.some⟩
theorem Dc {a:Addr} (h:Msk m ρ U a):HeOf m ρ U H0 H a=H a:=by unfold HeOf;exact if_pos h
theorem T9 {a:Addr} (h:¬Msk m ρ U a):HeOf m ρ U H0 H a=H0 a:=by unfold HeOf;exact if_neg h
theorem Db {a:Addr} (h:Msk m ρ U a):HdOf m ρ U H0 a=none:=by unfold HdOf;exact if_pos h
theorem T8 {a:Addr} (h:¬Msk m ρ U a):HdOf m ρ U H0 a=H0 a:=by unfold HdOf;exact if_neg h
theorem RS.he0 (R:RS K Hc Hb H0 ρ U H) (m:List Bool):Same H0 (HeOf m ρ U H0 H):=fun b o e=>by
 by_cases h:Msk m ρ U b
 . rw [(R.msk h).1] at e;cases e
 . rw [T9 h];exact e
theorem RS.heH (R:RS K Hc Hb H0 ρ U H) (m:List Bool):Same (HeOf m ρ U H0 H) H:=fun b o e=>by
 by_cases h:Msk m ρ U b
 . rw [Dc h] at e;exact e
 . rw [T9 h] at e;exact R.ext.2.1 b o e
theorem RS.re (R:RS K Hc Hb H0 ρ U H) (m:List Bool):RE K (HeOf m ρ U H0 H) (vis m ρ) U:=by
 refine ⟨by rw [Kq];exact R.len,fun i d e=>?_⟩;rw [Hy] at e;cases q:ρ[i]? with
 | none=>rw [q] at e;cases e
 | some s=>
  rw [q] at e
  simp only [Option.map_some,Option.some.injEq] at e
  cases s with
  | em=>cases e
  | im d'=>
   cases e
   obtain ⟨v,h1,h2⟩:=R.im i d q
   exact ⟨v,h1,h2.mono (R.he0 m)⟩
  | ow d'=>
   simp only [Sl.see] at e
   split at e
   . rename_i hm;cases e;obtain ⟨a,h1,h2,h3,h4⟩:=R.ow i d q;exact ⟨_,h1,h4.rd (R.he0 m) (Dc ⟨i,d,hm,q,h1⟩)⟩
   . cases e
noncomputable def k9 (keep:Bool) (m:List Bool) (ρ:DS):DS:=if keep=true then ρ else frz m ρ
noncomputable def keeps (fr:Bool) (d:D):Bool:=if fr=true then d.shal else d.noL
def Apt (K:Frag) (fr:Bool) (Hb H0:Hp) (ρ:DS) (U:St) (H:Hp) (d:D) (v:V):Prop:=
 if fr=true then ∃p,v=.ref p/\H0 p=none/\Hb p=none/\OB K H0 H p d/\∀(i:Nat) e,ρ[i]?=some (.ow e)->U[i]?≠some (some (.ref p)) else RD K H0 d v
theorem Da {keep:Bool} {i:Nat} {d:D} (h:(k9 keep m ρ)[i]?=some (.ow d)):ρ[i]?=some (.ow d)/\(keep=false->m.getD i false=false):=by
 unfold k9 at h;cases keep with
 | true=>exact ⟨h,fun z=>nomatch z⟩
 | false=>
  rw [if_neg Bool.false_ne_true,Hx] at h
  cases q:ρ[i]? with
  | none=>rw [q] at h;cases h
  | some s=>
   rw [q] at h
   simp only [Option.map_some,Option.some.injEq] at h
   cases s with
   | em=>cases h
   | im d'=>cases h
   | ow d'=>
    simp only [Sl.frz] at h
    split at h
    . cases h
    . rename_i hm;cases h;exact ⟨rfl,fun _=>by simpa using hm⟩
theorem RS.frame (R:RS K Hc Hb H0 ρ U H) {H0':Hp} (s:Same H H') (e:Ext (HeOf m ρ U H0 H) H H0' H') (keep:Bool) :
  ∃H0n,RS K Hc Hb H0n (k9 keep m ρ) U H'/\TK H0' H0n/\(keep=false->H0n=H0')/\(∀p,H0' p=none->H0n p=none)/\Same H0 H0n:=by
 have hunm:∀(i:Nat) d' a,ρ[i]?=some (.ow d')->U[i]?=some (some (.ref a))->¬Msk m ρ U a->H0' a=none:=fun i d' a h1 h2 h3=>by obtain ⟨a',q1,q2,q3,q4⟩:=R.ow i d' h1;rw [h2] at q1;cases q1;obtain ⟨u,hu,_⟩:=q4.some;exact e.2.2 a (Z8 hu) (by rw [T9 h3];exact q2)
 have nmsk:∀{i:Nat} {d':D} {a:Addr},ρ[i]?=some (.ow d')->U[i]?=some (some (.ref a))->m.getD i false=false->¬Msk m ρ U a:=fun {i d' a} h1 h2 h3 ⟨j,e',q1,q2,q3⟩=>by have:=R.ap i j d' e' a h1 q2 h2 q3;subst this;rw [h3] at q1;cases q1
 cases keep with
 | true=>
  have hth:k9 true m ρ=ρ:=rfl
  have s0:Same H0 (HdOf m ρ U H0'):=fun b u q=>by
   have hb:¬Msk m ρ U b:=fun z=>by rw [(R.msk z).1] at q;cases q
   rw [T8 hb];exact e.1 b u (R.he0 m b u q)
  have tk:TK H0' (HdOf m ρ U H0'):=fun b u hi q=>by
   have hb:¬Msk m ρ U b:=fun z=>by obtain ⟨_,_,w,hw,hn⟩:=R.msk z;have:=e.1 b w (by rw [Dc z];exact hw);rw [q] at this;cases this;exact hn hi
   rw [T8 hb];exact q
  refine ⟨HdOf m ρ U H0',⟨R.sb.trans s,⟨R.ext.1.trans s0,fun b u q=>?_,fun a h1 h2=>?_⟩,R.len,fun i d' q=>?_,fun i d' q=>?_,R.ap⟩,tk,(fun z=>nomatch z),fun p hp=>?_,s0⟩
  . by_cases hb:Msk m ρ U b
    . rw [Db hb] at q;cases q
    . rw [T8 hb] at q;exact e.2.1 b u q
  . by_cases hb:Msk m ρ U a
    . exact Db hb
    . rw [T8 hb];exact e.2.2 a (R.sb.ne h1) (by rw [T9 hb];exact R.ext.2.2 a h1 h2)
  . obtain ⟨w,h1,h2⟩:=R.im i d' q;exact ⟨w,h1,h2.mono s0⟩
  . obtain ⟨a,h1,h2,h3,h4⟩:=R.ow i d' q;refine ⟨a,h1,?_,h3,h4.mono s0 s⟩;by_cases hb:Msk m ρ U a
    . exact Db hb
    . rw [T8 hb];exact hunm i d' a q h1 hb
  . by_cases hb:Msk m ρ U p
    . exact Db hb
    . rw [T8 hb];exact hp
 | false=>
  refine ⟨H0',⟨R.sb.trans s,?_,?_,fun i d' q=>?_,fun i d' q=>?_,fun i j d1 d2 a q1 q2=>?_⟩,fun _ _ _ z=>z,fun _=>rfl,fun _ z=>z,(R.he0 m).trans e.1⟩
  . refine ⟨R.ext.1.trans ((R.he0 m).trans e.1),e.2.1,fun a h1 h2=>e.2.2 a (R.sb.ne h1) ?_⟩;have hb:¬Msk m ρ U a:=fun z=>h1 (R.msk z).2.1
    rw [T9 hb];exact R.ext.2.2 a h1 h2
  . show (L2.frz m ρ).length=_;rw [Wp];exact R.len
  . have q':(L2.frz m ρ)[i]?=some (.im d'):=q;rw [Hx] at q';cases hs:ρ[i]? with
    | none=>rw [hs] at q';cases q'
    | some sl=>
     rw [hs] at q'
     simp only [Option.map_some,Option.some.injEq] at q'
     cases sl with
     | em=>cases q'
     | im d2=>
      cases q'
      obtain ⟨w,h1,h2⟩:=R.im i d' hs
      exact ⟨w,h1,h2.mono ((R.he0 m).trans e.1)⟩
     | ow d2=>
      simp only [Sl.frz] at q'
      split at q'
      . rename_i hm;cases q';obtain ⟨a,h1,h2,h3,h4⟩:=R.ow i d' hs;obtain ⟨u,hu,_⟩:=h4.some;refine ⟨_,h1,h4.rd ((R.he0 m).trans e.1) ?_⟩;rw [hu];exact e.1 a u (by rw [Dc ⟨i,d',hm,hs,h1⟩];exact hu)
      . cases q'
  . obtain ⟨q1,q2⟩:=Da q;obtain ⟨a,h1,h2,h3,h4⟩:=R.ow i d' q1;exact ⟨a,h1,hunm i d' a q1 h1 (nmsk q1 h1 (q2 rfl)),h3,h4.mono ((R.he0 m).trans e.1) s⟩
  . exact R.ap i j d1 d2 a (Da q1).1 (Da q2).1
theorem RS.out (R:RS K Hc Hb H0 ρ U H) {fr:Bool} {d:D} {v:V} (o:Out K fr (HeOf m ρ U H0 H) H d v H') :
  ∃H0n,RS K Hc Hb H0n (k9 (keeps fr d) m ρ) U H'/\Apt K fr Hb H0n (k9 (keeps fr d) m ρ) U H' d v:=by
 obtain ⟨s,H0',e,r⟩:=o
 obtain ⟨H0n,R',tk,eq,hn,_⟩:=R.frame s e (keeps fr d)
 refine ⟨H0n,R',?_⟩
 unfold Apt
 cases fr with
 | false=>
  rw [if_neg Bool.false_ne_true] at r ⊢
  cases hk:keeps false d with
  | true=>exact r.tk tk (by simpa [keeps] using hk)
  | false=>rw [eq hk];exact r
 | true=>
  rw [if_pos rfl] at r ⊢
  obtain ⟨p,rfl,hp,hp0,ob⟩:=r
  refine ⟨p,rfl,hn p hp0,R.sb.none hp,?_,fun i e' q z=>?_⟩
  . cases hk:keeps true d with
    | true=>exact ob.tk (by simpa [keeps] using hk) tk
    | false=>rw [eq hk];exact ob
  . obtain ⟨a,h1,_,_,h4⟩:=R.ow i e' (Da q).1;rw [z] at h1;cases h1;obtain ⟨u,hu,_⟩:=h4.some;rw [hp] at hu;cases hu
theorem RS.outs (R:RS K Hc Hb H0 ρ U H) {ds:List D} {vs:List V} {H0':Hp} (s:Same H H') (e:Ext (HeOf m ρ U H0 H) H H0' H') (r:RDs K H0' ds vs) :
  ∃H0n,RS K Hc Hb H0n (k9 (j4 ds) m ρ) U H'/\RDs K H0n ds vs:=by
 obtain ⟨H0n,R',tk,eq,hn,_⟩:=R.frame s e (j4 ds)
 refine ⟨H0n,R',?_⟩
 cases hk:j4 ds with
 | true=>exact r.tk tk hk
 | false=>rw [eq hk];exact r
noncomputable def F4 (fr:Bool) (i:Nat) (d:D) (ρ:DS):DS:=ρ.set i (if fr=true then .ow d else .im d)
theorem RS.put (R:RS K Hc Hb H0 ρ U H) {fr:Bool} {d:D} {v:V} (a:Apt K fr Hb H0 ρ U H d v) (i:Nat):RS K Hc Hb H0 (F4 fr i d ρ) (U.set i (some v)) H:=by
 unfold F4;have other:∀{j:Nat} {s:Sl},j≠i->(ρ.set i s)[j]?=ρ[j]?:=fun {j s} h=>by rw [List.getElem?_set_ne (Ne.symm h)]
 have otherσ:∀{j:Nat},j≠i->(U.set i (some v))[j]?=U[j]?:=fun {j} h=>by rw [List.getElem?_set_ne (Ne.symm h)]
 have here:∀{s s':Sl},(ρ.set i s)[i]?=some s'->s'=s/\(U.set i (some v))[i]?=some (some v):=fun {s s'} h=>by
  have hi:i<ρ.length:=by have:=(List.getElem?_eq_some_iff.mp h).1;simpa using this
  rw [List.getElem?_set_self hi] at h;cases h;exact ⟨rfl,by rw [List.getElem?_set_self (by rw [<-R.len];exact hi)]⟩
 refine ⟨R.sb,R.ext,by rw [List.length_set,List.length_set];exact R.len,fun j d' q=>?_,fun j d' q=>?_,fun j k d1 d2 b q1 q2 z1 z2=>?_⟩
 . by_cases hj:j=i
   . subst hj;obtain ⟨h1,h2⟩:=here q;refine ⟨v,h2,?_⟩;cases fr with
     | false=>
      rw [if_neg Bool.false_ne_true] at h1;cases h1
      unfold Apt at a
      rw [if_neg Bool.false_ne_true] at a;exact a
     | true=>rw [if_pos rfl] at h1;cases h1
   . rw [other hj] at q;rw [otherσ hj];exact R.im j d' q
 . by_cases hj:j=i
   . subst hj;obtain ⟨h1,h2⟩:=here q;cases fr with
     | false=>rw [if_neg Bool.false_ne_true] at h1;cases h1
     | true=>
      rw [if_pos rfl] at h1;cases h1
      unfold Apt at a
      rw [if_pos rfl] at a
      obtain ⟨p,rfl,a1,a2,a3,_⟩:=a
      exact ⟨p,h2,a1,a2,a3⟩
   . rw [other hj] at q;rw [otherσ hj];exact R.ow j d' q
 . by_cases hj:j=i
   . by_cases hk:k=i
     . rw [hj,hk]
     . subst hj;obtain ⟨h1,h2⟩:=here q1;rw [other hk] at q2;rw [otherσ hk] at z2;rw [h2] at z1;cases fr with
       | false=>rw [if_neg Bool.false_ne_true] at h1;cases h1
       | true=>
        unfold Apt at a
        rw [if_pos rfl] at a
        obtain ⟨p,rfl,_,_,_,a4⟩:=a
        cases z1
        exact absurd z2 (a4 k d2 q2)
   . by_cases hk:k=i
     . subst hk;obtain ⟨h1,h2⟩:=here q2;rw [other hj] at q1;rw [otherσ hj] at z1;rw [h2] at z2;cases fr with
       | false=>rw [if_neg Bool.false_ne_true] at h1;cases h1
       | true=>
        unfold Apt at a
        rw [if_pos rfl] at a
        obtain ⟨p,rfl,_,_,_,a4⟩:=a
        cases z2
        exact absurd z1 (a4 j d1 q1)
     . rw [other hj] at q1;rw [other hk] at q2;rw [otherσ hj] at z1;rw [otherσ hk] at z2;exact R.ap j k d1 d2 b q1 q2 z1 z2
end
inductive SR where
 | nx (ρ:DS) | bk (ρ:DS) | ct (ρ:DS) | rt (d:D) | er (x:Ex) | st
def SK (K:Frag) (EX:XW) (fr:Bool) (Hc Hb:Hp) (De:Ends):SR->Prop
 | .nx ρ=>∀U H H0,RS K Hc Hb H0 ρ U H->De.nx U H
 | .bk ρ=>∀U H H0,RS K Hc Hb H0 ρ U H->De.bk U H
 | .ct ρ=>∀U H H0,RS K Hc Hb H0 ρ U H->De.ct U H
 | .rt d=>∀v H,Out K fr Hc Hb d v H->De.rt v H
 | .er x=>EX.at x
 | .st=>False
noncomputable def TSd (K:Frag) (EX:XW) (fr:Bool) (g:DS->SR):TS:=fun De U H=>∃Hc Hb H0 ρ,Same EX.hb Hb/\RS K Hc Hb H0 ρ U H/\SK K EX fr Hc Hb De (g ρ)
noncomputable def R.toS {α:Type} (r:R α) (k:α->SR):SR:=match r with
 | .ok a=>k a
 | .er x=>.er x
 | .st=>.st
noncomputable def sNx:DS->SR:=fun ρ=>.nx ρ
noncomputable def sNo:DS->SR:=fun _=>.st
noncomputable def c8 (g1 g2:DS->SR):DS->SR:=fun ρ=>match g1 ρ with
 | .nx ρ'=>g2 ρ'
 | r=>r
noncomputable def see (ρ:DS):DE:=ρ.map (Sl.see true)
noncomputable def sIf (t:DE->R Bool) (g1 g2:DS->SR):DS->SR:=fun ρ=>(t (see ρ)).toS fun b=>if b=true then g1 ρ else g2 ρ
noncomputable def e8 (fr:Bool) (i:Nat) (m:List Bool) (f:DE->R D):DS->SR:=fun ρ=>(f (vis m ρ)).toS fun d=>.nx (F4 fr i d (k9 (keeps fr d) m ρ))
noncomputable def j5 (m:List Bool) (f:DE->R D):DS->SR:=fun ρ=>(f (vis m ρ)).toS fun d=>.rt d
noncomputable def zzo:DS->SR:=fun _=>.rt .non
noncomputable def X7 (i:Nat):DS->SR:=fun ρ=>match ρ[i]? with
 | some (.ow d)=>.rt d
 | _=>.st
noncomputable def L1 (f:DE->R D):DS->SR:=fun ρ=>(f (see ρ)).toS fun _=>.nx ρ
section
variable {K:Frag} {EX:XW} {fr:Bool} {Hc Hb H0 H H':Hp} {ρ:DS} {U:St} {De:Ends} {m:List Bool}
theorem SK.toS {α:Type} {r:R α} {k:α->SR}:SK K EX fr Hc Hb De (r.toS k)=Rk EX.at r fun a=>SK K EX fr Hc Hb De (k a):=by cases r<;>rfl
theorem Hw:∀(ρ:DS),vis (List.replicate ρ.length true) ρ=see ρ
 | []=>rfl
 | s::r=>by show s.see true::vis (List.replicate r.length true) r=_;rw [Hw r];rfl
theorem RS.extE (R:RS K Hc Hb H0 ρ U H) (m:List Bool):Ext Hc Hb (HeOf m ρ U H0 H) H:=
 ⟨R.ext.1.trans (R.he0 m),R.heH m,fun a h1 h2=>by
  have hb:¬Msk m ρ U a:=fun z=>h1 (R.msk z).2.1
  rw [T9 hb];exact R.ext.2.2 a h1 h2⟩
theorem RS.te (I:RS K Hc Hb H0 ρ U H) (sb:Same EX.hb Hb) {f:DE->R D} {fr':Bool} {k:D->Prop} {Q:VK} (h:Rk EX.at (f (vis m ρ)) k)
  (hk:∀d,k d->∀v H' H0n,RS K Hc Hb H0n (k9 (keeps fr' d) m ρ) U H'->Apt K fr' Hb H0n (k9 (keeps fr' d) m ρ) U H' d v->Q v H'):TEd K EX fr' f U H Q:=
 ⟨sb.trans I.sb,vis m ρ,HeOf m ρ U H0 H,I.heH m,I.re m,h.mono fun d z v H' o=>by obtain ⟨H0n,R',a⟩:=I.out o;exact hk d z v H' H0n R' a⟩
theorem RS.tt (I:RS K Hc Hb H0 ρ U H) (sb:Same EX.hb Hb) {f:DE->R Bool} {k:Bool->Prop} {Q:Bool->Hp->Prop} (h:Rk EX.at (f (see ρ)) k) (hk:∀b,k b->∀H',RS K Hc Hb H0 ρ U H'->Q b H'):TTd K EX f U H Q:=by refine ⟨sb.trans I.sb,see ρ,HeOf (List.replicate ρ.length true) ρ U H0 H,I.heH _,?_,h.mono fun b z H' s=>hk b z H' (I.grow s)⟩;rw [<-Hw];exact I.re _
theorem y3i (h:TSd K EX fr sNx De U H):Nz De U H:=by obtain ⟨Hc,Hb,H0,ρ,sb,R,h⟩:=h;exact h U H H0 R
theorem y3j (h:TSd K EX fr sNo De U H):Qn De U H:=by obtain ⟨Hc,Hb,H0,ρ,sb,R,h⟩:=h;exact h
theorem jd {g1 g2:DS->SR} (h:TSd K EX fr (c8 g1 g2) De U H):Zr (TSd K EX fr g1) (TSd K EX fr g2) De U H:=by
 obtain ⟨Hc,Hb,H0,ρ,sb,R,h⟩:=h;refine ⟨Hc,Hb,H0,ρ,sb,R,?_⟩;unfold c8 at h;cases q:g1 ρ with
 | nx ρ'=>rw [q] at h;exact fun σ' H' H0' R'=>⟨Hc,Hb,H0',ρ',sb,R',h⟩
 | bk ρ'=>rw [q] at h;exact h
 | ct ρ'=>rw [q] at h;exact h
 | rt d=>rw [q] at h;exact h
 | er x=>rw [q] at h;exact h
 | st=>rw [q] at h;exact h
theorem jc {t:DE->R Bool} {g1 g2:DS->SR} (h:TSd K EX fr (sIf t g1 g2) De U H):Zq (TTd K EX t) (TSd K EX fr g1) (TSd K EX fr g2) De U H:=by
 obtain ⟨Hc,Hb,H0,ρ,sb,R,h⟩:=h;unfold sIf at h;rw [SK.toS] at h;refine R.tt sb h fun b h H' R'=>?_
 cases b with
 | true=>exact ⟨Hc,Hb,H0,ρ,sb,R',h⟩
 | false=>exact ⟨Hc,Hb,H0,ρ,sb,R',h⟩
theorem Fg {i:Nat} {f:DE->R D} {fr':Bool} (h:TSd K EX fr (e8 fr' i m f) De U H):C9 (TEd K EX fr' f) (w4 i) De U H:=by obtain ⟨Hc,Hb,H0,ρ,sb,R,h⟩:=h;unfold e8 at h;rw [SK.toS] at h;exact R.te sb h fun d h v H' H0n R' a=>h _ H' H0n (R'.put a i)
theorem jb {f:DE->R D} (h:TSd K EX fr (j5 m f) De U H):Ek (TEd K EX fr f) De U H:=by obtain ⟨Hc,Hb,H0,ρ,sb,R,h⟩:=h;unfold j5 at h;rw [SK.toS] at h;exact ⟨sb.trans R.sb,vis m ρ,HeOf m ρ U H0 H,R.heH m,R.re m,h.mono fun d z v H' o=>z v H' (o.after R.sb (R.extE m))⟩
theorem qz {i:Nat} (h:TSd K EX true (X7 i) De U H):Ek (B5 i) De U H:=by
 obtain ⟨Hc,Hb,H0,ρ,sb,R,h⟩:=h;unfold X7 at h;split at h
 . rename_i d q;obtain ⟨a,h1,h2,h3,h4⟩:=R.ow i d q;show B5 i U H De.rt;unfold B5;rw [h1];exact h _ H (.fresh R.sb R.ext h3 h2 h4)
 . exact h.elim
theorem qy {f:DE->R D} (h:TSd K EX fr (L1 f) De U H):Bu (TEd K EX false f) De U H:=by obtain ⟨Hc,Hb,H0,ρ,sb,R,h⟩:=h;unfold L1 at h;rw [SK.toS] at h;refine ⟨sb.trans R.sb,see ρ,HeOf (List.replicate ρ.length true) ρ U H0 H,R.heH _,by rw [<-Hw];exact R.re _,h.mono fun d z v H' o=>?_⟩;exact z U H' H0 (R.grow o.1)
theorem RS.mutate (R:RS K Hc Hb H0 ρ U H) {i:Nat} {d d':D} {a:Addr} {o:HO} (h:ρ[i]?=some (.ow d)) (ha:U[i]?=some (some (.ref a))) (ob:OB K H0 (upd H a o) a d'):RS K Hc Hb H0 (ρ.set i (.ow d')) U (upd H a o):=by
 obtain ⟨a',q1,q2,q3,q4⟩:=R.ow i d h;rw [ha] at q1;cases q1;have hi:i<ρ.length:=(List.getElem?_eq_some_iff.mp h).1;have other:∀{j:Nat} {s:Sl},j≠i->(ρ.set i s)[j]?=ρ[j]?:=fun {j s} h=>by rw [List.getElem?_set_ne (Ne.symm h)]
 have here:(ρ.set i (.ow d'))[i]?=some (.ow d'):=by rw [List.getElem?_set_self hi]
 have sm:∀{H1:Hp},Same H1 H->H1 a=none->Same H1 (upd H a o):=fun s n=>s.upd_at n
 refine ⟨sm R.sb q3,⟨R.ext.1,sm R.ext.2.1 q2,R.ext.2.2⟩,by rw [List.length_set];exact R.len,fun j d2 q=>?_,fun j d2 q=>?_,fun j k d1 d2 b z1 z2=>?_⟩
 . have hj:j≠i:=fun z=>by subst z;rw [here] at q;cases q
   rw [other hj] at q;exact R.im j d2 q
 . by_cases hj:j=i
   . subst hj;rw [here] at q;cases q;exact ⟨a,ha,q2,q3,ob⟩
   . rw [other hj] at q;obtain ⟨b,h1,h2,h3,h4⟩:=R.ow j d2 q;have hb:b≠a:=fun z=>hj (R.ap j i d2 d b q h h1 (by rw [z];exact ha))
     exact ⟨b,h1,h2,h3,h4.at (h8 hb)⟩
 . have back:∀{j:Nat} {d1:D},(ρ.set i (.ow d'))[j]?=some (.ow d1)->∃d0,ρ[j]?=some (.ow d0):=fun {j d1} z=>by
    by_cases hj:j=i
    . subst hj;exact ⟨d,h⟩
    . rw [other hj] at z;exact ⟨_,z⟩
   obtain ⟨e1,z1⟩:=back z1
   obtain ⟨e2,z2⟩:=back z2
   exact R.ap j k e1 e2 b z1 z2
def V6 (K:Frag) (mt:D->List D->Option D) (r:V->List V->Hp->VK->Prop):Prop:=∀(H0 H:Hp) (a:Addr) (d d':D) (ds:List D) (vs:List V) (Q:VK),Same H0 H->H0 a=none->OB K H0 H a d->RDs K H0 ds vs->mt d ds=some d' ->
 (∀v o,OB K H0 (upd H a o) a d'->Q v (upd H a o))->r (.ref a) vs H Q
noncomputable def isT (T:String):D->Bool
 | .lst _=>T=="list"
 | .dk _ _=>T=="dict"
 | .dt _ _=>T=="dict"
 | _=>false
def TyD (K:Frag) (T:String):Prop:=∀(H0 H:Hp) (a:Addr) (d:D),OB K H0 H a d->isT T d=true->tyV K T (.ref a) H
noncomputable def B6 (T:String) (mt:D->List D->Option D) (i:Nat) (m:List Bool) (fs:DE->R (List D)):DS->SR:=fun ρ=>match ρ[i]? with
 | some (.ow d0)=>if isT T d0=true then (fs (vis m ρ)).toS fun ds=>match (k9 (j4 ds) m ρ)[i]? with
  | some (.ow d)=>(R.of (mt d ds)).toS fun d'=>.nx ((k9 (j4 ds) m ρ).set i (.ow d'))
  | _=>.st
  else .st
 | _=>.st
theorem ja {T:String} {mt:D->List D->Option D} {r:V->List V->Hp->VK->Prop} {i:Nat} {fs:DE->R (List D)} (hm:V6 K mt r) (hT:TyD K T) (h:TSd K EX fr (B6 T mt i m fs) De U H) :
  Bu (tBM K T r (B5 i) (TAd K EX fs)) De U H:=by
 obtain ⟨Hc,Hb,H0,ρ,sb,R,h⟩:=h
 unfold B6 at h
 split at h
 . rename_i d0 q0;split at h
   . rename_i hty;rw [SK.toS] at h;obtain ⟨a,h1,h2,h3,h4⟩:=R.ow i d0 q0;unfold Bu tBM B5;rw [h1];refine ⟨hT H0 H a d0 h4 hty,sb.trans R.sb,vis m ρ,HeOf m ρ U H0 H,R.heH m,R.re m,h.mono fun ds h vs H' H0' s e rds=>?_⟩;obtain ⟨H0n,R',rd'⟩:=R.outs s e rds;split at h
     . rename_i d q;rw [SK.toS] at h;obtain ⟨d',hd',h⟩:=h.of;obtain ⟨a',z1,z2,z3,z4⟩:=R'.ow i d q;rw [h1] at z1;cases z1;exact hm H0n H' a d d' ds vs _ R'.ext.2.1 z2 z4 rd' hd' fun v o ob=>h U _ H0n (R'.mutate q h1 ob)
     . exact h.elim
   . exact h.elim
 . exact h.elim
noncomputable def zzt (T:String) (mt:D->List D->Option D) (i:Nat):DS->SR:=fun ρ=>match ρ[i]? with
 | some (.ow d)=>if isT T d=true then (R.of (mt d [])).toS fun d'=>.nx (ρ.set i (.ow d')) else .st
 | _=>.st
def Ea (K:Frag) (st:D->D->D->Option D) (r:N4):Prop:=∀(H0 H:Hp) (a:Addr) (d d' dk dv:D) (y v:V) (Q:Hp->Prop),Same H0 H->H0 a=none->OB K H0 H a d->RD K H0 dk y->RD K H0 dv v->st d dk dv=some d' ->
 (∀o,OB K H0 (upd H a o) a d'->Q (upd H a o))->r (.ref a) y v H Q
noncomputable def F6 (st:D->D->D->Option D) (i:Nat) (m:List Bool) (fk fv:DE->R D):DS->SR:=fun ρ=>(fv (vis m ρ)).toS fun dv=>match (k9 (keeps false dv) m ρ)[i]? with
 | some (.ow _)=>(fk (vis m (k9 (keeps false dv) m ρ))).toS fun dk=>(match (k9 (keeps false dk) m (k9 (keeps false dv) m ρ))[i]? with
  | some (.ow d)=>(R.of (st d dk dv)).toS fun d'=>.nx ((k9 (keeps false dk) m (k9 (keeps false dv) m ρ)).set i (.ow d'))
  | _=>.st)
 | _=>.st
theorem Apt.rd {ρ:DS} {d:D} {v:V} (a:Apt K false Hb H0 ρ U H d v):RD K H0 d v:=by unfold Apt at a;rw [if_neg Bool.false_ne_true] at a;exact a
end
section
variable {K:Frag} {EX:XW} {fr:Bool} {Hc Hb H0 H H':Hp} {ρ:DS} {U:St} {De:Ends} {m:List Bool}
theorem Nm {st:D->D->D->Option D} {r:N4} {i:Nat} {fk fv:DE->R D} (hs:Ea K st r) (h:TSd K EX fr (F6 st i m fk fv) De U H) :
  C9 (TEd K EX false fv) (Eh (B5 i) (TEd K EX false fk) r) De U H:=by
 obtain ⟨Hc,Hb,H0,ρ,sb,I,h⟩:=h
 unfold F6 at h
 rw [SK.toS] at h
 refine I.te sb h fun dv h v H1 H1n I1 a1=>?_
 split at h
 . rename_i d0 q0;rw [SK.toS] at h;obtain ⟨a,h1,h2,h3,h4⟩:=I1.ow i d0 q0;unfold Eh B5;rw [h1];refine ⟨sb.trans I1.sb,vis m _,HeOf m _ U H1n H1,I1.heH m,I1.re m,h.mono fun dk h y H2 o2=>?_⟩;obtain ⟨s2,H2',e2,r2⟩:=o2.rd;obtain ⟨H2n,I2,tk,eq,hn,sub⟩:=I1.frame s2 e2 (keeps false dk);have r2':RD K H2n dk y:=by
    cases hk:keeps false dk with
    | true=>exact r2.tk tk (by simpa [keeps] using hk)
    | false=>rw [eq hk];exact r2
   split at h
   . rename_i d q;rw [SK.toS] at h;obtain ⟨d',hd',h⟩:=h.of;obtain ⟨a',z1,z2,z3,z4⟩:=I2.ow i d q;rw [h1] at z1;cases z1;exact hs H2n H2 a d d' dk dv y v _ I2.ext.2.1 z2 z4 r2' (a1.rd.mono sub) hd' fun o ob=>h U _ H2n (I2.mutate q h1 ob)
   . exact h.elim
 . exact h.elim
inductive Tg where
 | n (i:Nat) | t (is:List Nat)
noncomputable def Gv:List Nat->List D->DS->DS
 | i::is,d::ds,ρ=>Gv is ds (F4 false i d ρ)
 | _,_,ρ=>ρ
noncomputable def items:D->Option (List D)
 | .tup ds=>some ds
 | .lst ds=>some ds
 | _=>none
noncomputable def N5:Tg->D->DS->Option DS
 | .n i,d,ρ=>some (F4 false i d ρ)
 | .t is,d,ρ=>(items d).bind fun ds=>if ds.length=is.length then some (Gv is ds ρ) else none
noncomputable def TGd (K:Frag) (tg:Tg):TG:=fun v U H Q=>∃Hc Hb H0 ρ d ρ',RS K Hc Hb H0 ρ U H/\RD K H0 d v/\N5 tg d ρ=some ρ'/\∀σ',RS K Hc Hb H0 ρ' σ' H->Q σ' H
theorem RS.putI (I:RS K Hc Hb H0 ρ U H) {d:D} {v:V} (r:RD K H0 d v) (i:Nat):RS K Hc Hb H0 (F4 false i d ρ) (U.set i (some v)) H:=
 I.put (fr:=false) (by unfold Apt;rw [if_neg Bool.false_ne_true];exact r) i
theorem y3k {i:Nat} {v:V} {Q:St->Hp->Prop} (h:TGd K (.n i) v U H Q):w4 i v U H Q:=by obtain ⟨Hc,Hb,H0,ρ,d,ρ',I,r,e,q⟩:=h;simp only [N5,Option.some.injEq] at e;subst e;exact q _ (I.putI r i)
noncomputable def Ci:List Nat->TGs
 | []=>Np
 | i::is=>Qf (w4 i) (Ci is)
theorem Kd:∀(is:List Nat) {ds:List D} {xs:List V} {ρ:DS} {U:St} {Q:St->Hp->Prop},RS K Hc Hb H0 ρ U H->RDs K H0 ds xs->ds.length=is.length->(∀σ',RS K Hc Hb H0 (Gv is ds ρ) σ' H->Q σ' H)->Ci is xs U H Q
 | [],[],_,ρ,U,Q,I,r,_,q=>by simp only [RDs] at r;subst r;exact q U I
 | [],_::_,_,_,_,_,_,_,hl,_=>by simp at hl
 | _::_,[],_,_,_,_,_,_,hl,_=>by simp at hl
 | i::is,d::ds,_,ρ,U,Q,I,r,hl,q=>by simp only [RDs] at r;obtain ⟨x,xs,rfl,r1,r2⟩:=r;exact Kd is (I.putI r1 i) r2 (by simpa using hl) q
theorem y3l {is:List Nat} {v:V} {Q:St->Hp->Prop} (h:TGd K (.t is) v U H Q):X1 is.length (Ci is) v U H Q:=by
 obtain ⟨Hc,Hb,H0,ρ,d,ρ',I,r,e,q⟩:=h;simp only [N5] at e;cases d<;>simp only [items,Option.bind_none,Option.bind_some] at e<;>first | cases e | skip
 . rename_i ds;split at e
   . rename_i hl;cases e;simp only [RD] at r;obtain ⟨a,xs,rfl,ha,rs⟩:=r;unfold X1;simp only [I.ext.2.1 a _ ha];exact ⟨by rw [<-rs.length];exact hl,Kd is I rs hl q⟩
   . cases e
 . rename_i ds;split at e
   . rename_i hl;cases e;simp only [RD] at r;obtain ⟨a,xs,rfl,ha,rs⟩:=r;unfold X1;simp only [I.ext.2.1 a _ ha];exact ⟨by rw [<-rs.length];exact hl,Kd is I rs hl q⟩
   . cases e
noncomputable def R4 (tg:Tg) (m:List Bool) (f:DE->R D):DS->SR:=fun ρ=>(f (vis m ρ)).toS fun d=>match N5 tg d (k9 (keeps false d) m ρ) with
 | some ρ'=>.nx ρ'
 | none=>.st
theorem Zz {tg:Tg} {f:DE->R D} (h:TSd K EX fr (R4 tg m f) De U H):C9 (TEd K EX false f) (TGd K tg) De U H:=by
 obtain ⟨Hc,Hb,H0,ρ,sb,I,h⟩:=h;unfold R4 at h;rw [SK.toS] at h;refine I.te sb h fun d h v H' H0n I' a=>?_
 split at h
 . rename_i ρ' q;exact ⟨Hc,Hb,H0n,_,d,ρ',I',a.rd,q,fun σ' I2=>h σ' H' H0n I2⟩
 . exact h.elim
noncomputable def Hno:Hp:=fun _=>none
def Q9 (K:Frag) (J:It) (H0:Hp) (ds:List D):Prop:=
 (∀(i:Nat) d,ds[i]?=some d->∀H H1,Same H0 H1->Same H1 H->J.go i H/\∀x H',J.yld i H x H'->Same H H'/\∃H1',Ext H1 H H1' H'/\RD K H1' d x)/\∀H,Same H0 H->J.stop ds.length H
noncomputable def TId (K:Frag) (EX:XW) (kp:Bool) (f:DE->R (List D)):TI:=fun U H Q=>Same EX.hb H/\∃ρ H0,Same H0 H/\RE K H0 ρ U/\Rk EX.at (f ρ) fun ds=>∀J H' H0',Same H H'->Ext H0 H H0' H'->Q9 K J (if kp=true then Hno else H0') ds->Q J H'
noncomputable def B4 (tg:Tg) (g:DS->SR):List D->DS->SR
 | [],ρ=>.nx ρ
 | d::ds,ρ=>match N5 tg d ρ with
  | none=>.st
  | some ρ1=>match g ρ1 with
   | .nx ρ2=>B4 tg g ds ρ2
   | .ct ρ2=>B4 tg g ds ρ2
   | .bk ρ2=>.nx ρ2
   | .rt d=>.rt d
   | .er x=>.er x
   | .st=>.st
noncomputable def t8 (kp:Bool) (m:List Bool) (f:DE->R (List D)) (tg:Tg) (g:DS->SR):DS->SR:=fun ρ=>(f (vis m ρ)).toS fun ds=>B4 tg g ds (k9 kp m ρ)
theorem Ext.base {Hc':Hp} (a:Ext Hc Hb Hc' H) (b:Ext Hc' Hb H0 H'):Ext Hc Hb H0 H':=⟨a.1.trans b.1,b.2.1,fun c h1 h2=>b.2.2 c h1 (a.2.2 c h1 h2)⟩
theorem RS.base {Hc' H1:Hp} (a:Ext Hc Hb Hc' H1) (I:RS K Hc' Hb H0 ρ U H):RS K Hc Hb H0 ρ U H:=⟨I.sb,a.base I.ext,I.len,I.im,I.ow,I.ap⟩
theorem RS.self (I:RS K Hc Hb H0 ρ U H):RS K H0 Hb H0 ρ U H:=⟨I.sb,⟨Same.refl _,I.ext.2.1,fun _ _ z=>z⟩,I.len,I.im,I.ow,I.ap⟩
theorem Out.base {Hc':Hp} {d:D} {v:V} (a:Ext Hc Hb Hc' H) (o:Out K fr Hc' Hb d v H'):Out K fr Hc Hb d v H':=by obtain ⟨s,H0',e,r⟩:=o;exact ⟨s,H0',a.base e,r⟩
theorem RS.sees {H1':Hp} (I:RS K Hc Hb H0 ρ U H) (s:Same H H') (e:Ext H0 H H1' H'):RS K Hc Hb H1' ρ U H':=
 ⟨I.sb.trans s,⟨I.ext.1.trans e.1,e.2.1,fun a h1 h2=>e.2.2 a (I.sb.ne h1) (I.ext.2.2 a h1 h2)⟩,I.len,fun i d q=>by
  obtain ⟨v,h1,h2⟩:=I.im i d q;exact ⟨v,h1,h2.mono e.1⟩,fun i d q=>by
  obtain ⟨a,h1,h2,h3,h4⟩:=I.ow i d q;obtain ⟨u,hu,_⟩:=h4.some;exact ⟨a,h1,e.2.2 a (Z8 hu) h2,h3,h4.mono e.1 s⟩,I.ap⟩
theorem y3m {J:It} {Hn H1:Hp} {ρ:DS} {ds:List D} {tg:Tg} {g:DS->SR} (sb:Same EX.hb Hb) (I1:RS K Hc Hb Hn ρ U H1) (it':Q9 K J Hn ds) (h:SK K EX fr Hc Hb De (B4 tg g ds ρ)):Zf J (TGd K tg) (TSd K EX fr g) De U H1:=by
 have ex1:Ext Hc Hb Hn H1:=I1.ext;refine ⟨fun i mm U H=>mm=ds.length - i/\i<=ds.length/\∃ρ H0,RS K Hn Hb H0 ρ U H/\SK K EX fr Hc Hb De (B4 tg g (ds.drop i) ρ),⟨ds.length,by simp,Nat.zero_le _,_,Hn,I1.self,h⟩,?_⟩;rintro i mm U H ⟨rfl,hi,ρ,H0,I2,h⟩;have sn:Same Hn H0:=I2.ext.1;by_cases hlt:i<ds.length
 . have hd:ds[i]?=some ds[i]:=by simp [hlt]
   obtain ⟨hgo,hy⟩:=it'.1 i _ hd H H0 sn I2.ext.2.1;have hdr:ds.drop i=ds[i]::ds.drop (i+1):=List.drop_eq_getElem_cons hlt;rw [hdr] at h;refine .inr ⟨hgo,fun σ' H'=>∃ρ' H0',RS K Hn Hb H0' ρ' σ' H'/\SK K EX fr Hc Hb De (B4 tg g (ds.drop (i+1)) ρ'),fun σ' H' ⟨ρ',H0',q⟩=>⟨ds.length - (i+1),by omega,rfl,hlt,ρ',H0',q⟩,fun x H' y=>?_⟩;obtain ⟨s3,H3,e3,r3⟩:=hy x H' y;have I3:=I2.sees s3 e3;unfold B4 at h;split at h
   . exact h.elim
   . rename_i ρ1 q1;refine ⟨Hn,Hb,H3,ρ,ds[i],ρ1,I3,r3,q1,fun σ' I4=>⟨Hn,Hb,H3,ρ1,sb,I4,?_⟩⟩;cases qg:g ρ1 with
     | nx ρ2=>rw [qg] at h;exact fun σ5 H5 H05 I5=>⟨ρ2,H05,I5,h⟩
     | ct ρ2=>rw [qg] at h;exact fun σ5 H5 H05 I5=>⟨ρ2,H05,I5,h⟩
     | bk ρ2=>rw [qg] at h;exact fun σ5 H5 H05 I5=>h σ5 H5 H05 (I5.base ex1)
     | rt d=>rw [qg] at h;exact fun v H5 o=>h v H5 (o.base ex1)
     | er x=>rw [qg] at h;exact h
     | st=>rw [qg] at h;exact h
 . have e:i=ds.length:=by omega
   subst e;rw [List.drop_length] at h;refine .inl ⟨it'.2 H (sn.trans I2.ext.2.1),?_⟩;exact h U H H0 (I2.base ex1)
theorem Zy {kp:Bool} {f:DE->R (List D)} {tg:Tg} {g:DS->SR} (h:TSd K EX fr (t8 kp m f tg g) De U H):Nr (TId K EX kp f) (TGd K tg) (TSd K EX fr g) De U H:=by
 obtain ⟨Hc,Hb,H0,ρ,sb,I,h⟩:=h;unfold t8 at h;rw [SK.toS] at h;refine ⟨sb.trans I.sb,vis m ρ,HeOf m ρ U H0 H,I.heH m,I.re m,h.mono fun ds h J H1 H1' s1 e1 it=>?_⟩;obtain ⟨Hn,I1,tk,eq,hn,sub⟩:=I.frame s1 e1 kp;have it':Q9 K J Hn ds:=by
  cases kp with
  | true=>
   rw [if_pos rfl] at it
   exact ⟨fun i d q H H1 a b=>it.1 i d q H H1 (fun _ _ z=>nomatch z) b,fun H a=>it.2 H fun _ _ z=>nomatch z⟩
  | false=>rw [if_neg Bool.false_ne_true,<-eq rfl] at it;exact it
 exact y3m sb I1 it' h
noncomputable def G9 (t:DE->R Bool) (g:DS->SR):Nat->DS->SR
 | 0,_=>.st
 | n+1,ρ=>(t (see ρ)).toS fun b=>if b=true then (match g ρ with
  | .nx ρ2=>G9 t g n ρ2
  | .ct ρ2=>G9 t g n ρ2
  | .bk ρ2=>.nx ρ2
  | .rt d=>.rt d
  | .er x=>.er x
  | .st=>.st) else .nx ρ
noncomputable def Y6 (n:Nat) (t:DE->R Bool) (g:DS->SR):DS->SR:=G9 t g n
theorem wm {n:Nat} {t:DE->R Bool} {g:DS->SR} (h:TSd K EX fr (Y6 n t g) De U H):Qk (TTd K EX t) (TSd K EX fr g) De U H:=by
 obtain ⟨Hc,Hb,H0,ρ,sb,I,h⟩:=h;refine ⟨fun mm U H=>∃ρ H0,RS K Hc Hb H0 ρ U H/\SK K EX fr Hc Hb De (G9 t g mm ρ),⟨n,ρ,H0,I,h⟩,?_⟩;rintro mm U H ⟨ρ,H0,I,h⟩;cases mm with
 | zero=>exact h.elim
 | succ mm=>
  unfold G9 at h
  rw [SK.toS] at h
  refine I.tt sb h fun b h H' I'=>?_
  cases b with
  | false=>exact h U H' H0 I'
  | true=>
   rw [if_pos rfl] at h ⊢
   refine ⟨fun σ' H'=>∃ρ' H0',RS K Hc Hb H0' ρ' σ' H'/\SK K EX fr Hc Hb De (G9 t g mm ρ'),fun σ' H' q=>⟨mm,Nat.lt_succ_self _,q⟩,Hc,Hb,H0,ρ,sb,I',?_⟩
   cases qg:g ρ with
   | nx ρ2=>rw [qg] at h;exact fun σ5 H5 H05 I5=>⟨ρ2,H05,I5,h⟩
   | ct ρ2=>rw [qg] at h;exact fun σ5 H5 H05 I5=>⟨ρ2,H05,I5,h⟩
   | bk ρ2=>rw [qg] at h;exact fun σ5 H5 H05 I5=>h σ5 H5 H05 I5
   | rt d=>rw [qg] at h;exact fun v H5 o=>h v H5 o
   | er x=>rw [qg] at h;exact h
   | st=>rw [qg] at h;exact h
noncomputable def R.noE {α:Type} (r:R α):R α:=match r with
 | .er _=>.st
 | r=>r
theorem Rk.noE {α:Type} {EX EX':Ex->Prop} {r:R α} {k:α->Prop} (h:Rk EX r.noE k):Rk EX' r k:=by
 cases r with
 | ok a=>exact h
 | er x=>exact h.elim
 | st=>exact h
def BD (K:Frag) (bn:D->Option (List D)) (B:V->Hp->(List V->Hp->Prop)->Prop):Prop:=∀(H0 H:Hp) (x:V) (d:D) (ds:List D) (Q:List V->Hp->Prop),Same H0 H->RD K H0 d x->bn d=some ds->(∀vs,RDs K H0 ds vs->Q vs H)->B x H Q
noncomputable def b1:D->Option (List D):=fun d=>some [d]
noncomputable def bT (n:Nat):D->Option (List D)
 | .tup ds=>if ds.length=n then some ds else none
 | _=>none
theorem Za:BD K b1 cB1:=fun H0 H x d ds Q s r e q=>by simp only [b1,Option.some.injEq] at e;subst e;exact q [x] (.one r)
theorem Yz {n:Nat}:BD K (bT n) (cBT n):=fun H0 H x d ds Q s r e q=>by
 cases d<;>simp only [bT] at e<;>first | cases e | skip
 rename_i es;split at e
 . rename_i hl;cases e;simp only [RD] at r;obtain ⟨a,xs,rfl,ha,rs⟩:=r;unfold cBT;simp only [s a _ ha];exact ⟨by rw [<-rs.length];exact hl,q xs rs⟩
 . cases e
noncomputable def sel (ix:List Nat) (ρ:DE):DE:=ix.map fun j=>(ρ[j]?).getD none
noncomputable def x9 (bn:D->Option (List D)) (t:DE->R Bool) (f:DE->R D) (cs:DE):List D->R (List D)
 | []=>.ok []
 | d::ds=>(R.of (bn d)).bind fun bs=>(t (bs.map some++cs)).noE.bind fun b=>if b=true then (f (bs.map some++cs)).noE.bind fun y=>(x9 bn t f cs ds).bind fun ys=>.ok (y::ys) else x9 bn t f cs ds
noncomputable def h7 (fi:DE->R (List D)) (bn:D->Option (List D)) (ix:List Nat) (t:DE->R Bool) (f:DE->R D):DE->R D:=fun ρ=>(fi ρ).bind fun ds=>if ds.length<=100000 then (x9 bn t f (sel ix ρ) ds).bind fun ys=>.ok (.lst ys) else .st
theorem RE.sel {ρ:DE} {vs:List V} {ds:List D} (h:RE K H0 ρ U) (r:RDs K H0 ds vs) (ix:List Nat):RE K H0 (ds.map some++sel ix ρ) (vs.map some++C8 ix U):=by
 have hl:=r.length;refine ⟨by simp [L2.sel,C8,hl],fun i d e=>?_⟩;by_cases hi:i<ds.length
 . rw [List.getElem?_append_left (by simpa using hi),List.getElem?_map] at e;rw [List.getElem?_append_left (by simpa [<-hl] using hi),List.getElem?_map];cases q:ds[i]? with
   | none=>rw [q] at e;cases e
   | some d'=>
    rw [q] at e;cases e
    obtain ⟨x,h1,h2⟩:=r.get' q
    exact ⟨x,by rw [h1];rfl,h2⟩
 . rw [List.getElem?_append_right (by simpa using hi)] at e;rw [List.getElem?_append_right (by simpa [<-hl] using hi)];simp only [List.length_map] at e ⊢;rw [<-hl];unfold L2.sel at e;unfold C8;rw [List.getElem?_map] at e ⊢;cases q:ix[i - ds.length]? with
   | none=>rw [q] at e;cases e
   | some j=>
    rw [q] at e
    simp only [Option.map_some,Option.some.injEq] at e ⊢
    cases qj:ρ[j]? with
    | none=>rw [qj] at e;cases e
    | some o=>
     rw [qj] at e
     simp only [Option.getD_some] at e
     subst e
     obtain ⟨v,h1,h2⟩:=h.2 j d qj
     exact ⟨v,by rw [h1];rfl,h2⟩
theorem P5 {n:Nat} (h:n<100000):n<sizeLine:=Nat.lt_of_lt_of_le h (by decide)
theorem wl {W:XW} {kp:Bool} {fi:DE->R (List D)} {bn:D->Option (List D)} {B:V->Hp->(List V->Hp->Prop)->Prop} {ix:List Nat} {t:DE->R Bool} {f:DE->R D} {Q:VK} {tt:TT} (hW:Same W.hb EX.hb) (hB:BD K bn B) (htt:∀U H Q,TTd K F0 t U H Q->tt U H Q)
  (h:TEd K EX true (h7 fi bn ix t f) U H Q):L0 (TId K EX kp fi) B ix tt (TEd K W false f) U H Q:=by
 obtain ⟨sx,ρ,H0,s,e,h⟩:=h
 unfold h7 at h
 rw [Rk.bind] at h
 refine ⟨sx,ρ,H0,s,e,h.mono fun ds h J H1 H1' s1 e1 it D hD=>?_⟩
 split at h
 . rename_i hsz;rw [Rk.bind] at h;have it':Q9 K J H1' ds:=by
    cases kp with
    | true=>rw [if_pos rfl] at it;exact ⟨fun i d q H H1 a b=>it.1 i d q H H1 (fun _ _ z=>nomatch z) b,fun H a=>it.2 H fun _ _ z=>nomatch z⟩
    | false=>rw [if_neg Bool.false_ne_true] at it;exact it
   have e':=e.mono e1.1;have hDn:H1' D=none:=e1.2.1.none hD;refine ⟨fun i mm ys H2=>mm=ds.length - i/\i<=ds.length/\ys.length<=i/\∃acc H2',Same H1 H2/\H2 D=some (.lst ys)/\Ext H1' H1 H2' H2/\H2' D=none/\RDs K H2' acc ys /\
    Rk EX.at (x9 bn t f (L2.sel ix ρ) (ds.drop i)) fun rest=>∀v H',Out K true H0 H (.lst (acc++rest)) v H'->Q v H',⟨ds.length,by simp,Nat.zero_le _,Nat.le_refl _,[],H1',Same.upd_new hD,m7,(Ext.refl e1.2.1).grow (Same.upd_new hD),hDn,.nil,h⟩,?_⟩
   rintro i mm ys H2 ⟨rfl,hi,hys,acc,H2',s2,hd2,e2,hdn2,r2,h⟩;refine ⟨hd2,?_⟩;by_cases hlt:i<ds.length
   . have hd:ds[i]?=some ds[i]:=by simp [hlt]
     obtain ⟨hgo,hy⟩:=it'.1 i _ hd H2 H2' e2.1 e2.2.1;have hdr:ds.drop i=ds[i]::ds.drop (i+1):=List.drop_eq_getElem_cons hlt;rw [hdr] at h;unfold x9 at h;rw [Rk.bind] at h;obtain ⟨bs,hbs,h⟩:=h.of;rw [Rk.bind] at h;refine .inr ⟨hgo,fun x H3 y=>?_⟩;obtain ⟨s3,H3',e3,r3⟩:=hy x H3 y;refine hB H3' H3 x _ bs _ e3.2.1 r3 hbs fun vs rvs=>?_
     have en:=(e'.mono (e2.1.trans e3.1)).sel rvs ix;have e23:=e2.trans s2 e3;refine htt _ _ _ ⟨F0.same _,_,H3',e3.2.1,en,(Rk.noE h).mono fun b h H4 s4=>?_⟩;have s14:=s2.trans (s3.trans s4);have hd4:H4 D=some (.lst ys):=s4 _ _ (s3 _ _ hd2);have hdn3:H3' D=none:=e3.2.2 D (Z8 hd2) hdn2;have e14:Ext H1' H1 H3' H4:=e23.grow s4;cases b with
     | false=>
      rw [if_neg Bool.false_ne_true] at h
      dsimp only
      rw [if_neg Bool.false_ne_true]
      exact ⟨ds.length - (i+1),by omega,rfl,hlt,by omega,acc,H3',s14,hd4,e14,hdn3,r2.mono e3.1,h⟩
     | true=>
      rw [if_pos rfl] at h
      dsimp only
      rw [if_pos rfl]
      rw [Rk.bind] at h
      refine ⟨hW.trans (sx.trans (s1.trans s14)),_,H3',e14.2.1,en,(Rk.noE h).mono fun y h w H5 o5=>?_⟩
      obtain ⟨s5,H5',e5,r5⟩:=o5.rd
      have hd5:H5 D=some (.lst ys):=s5 _ _ hd4
      have hdn5:H5' D=none:=e5.2.2 D (Z8 hd4) hdn3
      have e15:=e14.trans s14 e5
      rw [Rk.bind] at h
      refine ⟨hd5,P5 (by omega),ds.length - (i+1),by omega,rfl,hlt,by rw [List.length_append];show ys.length+1<=i+1;omega,acc++[y],H5',(s14.trans s5).upd_at hD,m7,⟨e15.1,e15.2.1.upd_at hdn5,e15.2.2⟩,hdn5,((r2.mono (e3.1.trans e5.1))).append (.one r5),?_⟩
      exact h.mono fun rest h v H' o=>h v H' (by simpa using o)
   . have ei:i=ds.length:=by omega
     subst ei;rw [List.drop_length] at h;refine .inl ⟨it'.2 H2 (e2.1.trans e2.2.1),h _ H2 ?_⟩;rw [List.append_nil];refine Out.after s1 e1 (.fresh s2 e2 hD hdn2 ?_);simp only [OB];exact ⟨ys,hd2,r2⟩
 . exact h.elim
theorem Ch {kp:Bool} {fi:DE->R (List D)} {bn:D->Option (List D)} {B:V->Hp->(List V->Hp->Prop)->Prop} {ix:List Nat} {t:DE->R Bool} {f:DE->R D} {Q:VK} {tt:TT} (hB:BD K bn B) (htt:∀U H Q,TTd K F0 t U H Q->tt U H Q)
 (h:TEd K EX true (h7 fi bn ix t f) U H Q):L0 (TId K EX kp fi) B ix tt (TEd K F0 false f) U H Q:=wl (F0.same _) hB htt h
noncomputable def mOf (fr:Bool) (n k:Nat) (g:DS->SR):List D->R D:=fun ds=>if ds.length=n then (match g (ds.map .im++List.replicate k .em) with
 | .rt d=>.ok d
 | .nx _=>if fr=true then .st else .ok .non
 | .er x=>.er x
 | _=>.st) else .st
def XFs (K:Frag) (x:Ex) (od:Option Addr) (H:Hp):Prop:=x.fs=[]\/∃(dx:Addr) (ns:List Int) (ob:Obj),od=some dx/\H dx=some (.frz ob (.xd ((Zc x.cls).zip (ns.map V.int))))/\x.fs=ns.map D.int
def xNm (K:Frag) (mg:Str->Option Value) (E:XK) (x:Ex) (H:Hp):Prop:=∃C,mg (x.cls:Str)=some (.ref C)/\∀od,XFs K x od H->E (.ref C) od H
noncomputable def spD (K:Frag) (mg:Str->Option Value) (fr:Bool) (m:List D->R D) (n:Nat):Sp:=fun vs H Q E=>∃ds H0,Same H0 H/\RDs K H0 ds vs/\ds.length=n/\Rk (XW.at ⟨H,xNm K mg E⟩) (m ds) fun d=>∀v H',Out K fr H0 H d v H'->Q v H'
noncomputable def Go (sp:Sp) (E:XK) (t:TA):TE:=fun U H Q=>t U H fun vs H1=>sp vs H1 Q E
theorem qx {mg:Str->Option Value} {E:XK} {m:List D->R D} {n:Nat} {fs:DE->R (List D)} {Q:VK} (hl:∀ds,ds.length≠n->m ds=.st) (hE:∀x H,EX.p x H->xNm K mg E x H) (h:TEd K EX fr (g9 m fs) U H Q):Go (spD K mg fr m n) E (TAd K EX fs) U H Q:=by
 obtain ⟨sx,ρ,H0,s,e,h⟩:=h;unfold g9 at h;rw [Rk.bind] at h;refine TAd.go sx s e h fun ds h vs H1 H1' s1 e1 r1=>?_
 refine ⟨ds,H1',e1.2.1,r1,?_,?_⟩
 . apply Classical.byContradiction;intro hn;rw [hl ds hn] at h;exact h
 . cases q:m ds with
   | ok d=>rw [q] at h;exact fun v H' o=>h v H' (o.after s1 e1)
   | er x=>rw [q] at h;exact fun H' s'=>hE x H' (h H' ((sx.trans s1).trans s'))
   | st=>rw [q] at h;exact h
theorem wj {n k:Nat} {g:DS->SR} (ds:List D) (h:ds.length≠n):mOf fr n k g ds=.st:=by unfold mOf;rw [if_neg h]
theorem xQ {vs:List V} {ds:List D} (s:Same H0 H) (r:RDs K H0 ds vs) (k:Nat):RS K H0 H H0 (ds.map .im++List.replicate k .em) (vs.map some++List.replicate k none) H:=by
 have hl:=r.length;have noow:∀(i:Nat) d,(ds.map Sl.im++List.replicate k Sl.em)[i]?≠some (.ow d):=fun i d q=>by
  rcases List.mem_append.mp (List.mem_of_getElem? q) with z | z
  . obtain ⟨_,_,z⟩:=List.mem_map.mp z;cases z
  . have:=(List.mem_replicate.mp z).2;cases this
 refine ⟨Same.refl _,.refl s,by simp [hl],fun i d q=>?_,fun i d q=>absurd q (noow i d),fun i j d e a q=>absurd q (noow i d)⟩;by_cases hi:i<ds.length
 . rw [List.getElem?_append_left (by simpa using hi),List.getElem?_map] at q;rw [List.getElem?_append_left (by simpa [<-hl] using hi),List.getElem?_map];cases qd:ds[i]? with
   | none=>rw [qd] at q;cases q
   | some d'=>
    rw [qd] at q
    simp only [Option.map_some,Option.some.injEq,Sl.im.injEq] at q
    subst q
    obtain ⟨x,h1,h2⟩:=r.get' qd
    exact ⟨x,by rw [h1];rfl,h2⟩
 . rw [List.getElem?_append_right (by simpa using hi)] at q;have:=(List.mem_replicate.mp (List.mem_of_getElem? q)).2;cases this
theorem qw {n k:Nat} {g:DS->SR} {vs:List V} {Q:VK} {E:XK} {mg:Str->Option Value} (h:spD K mg fr (mOf fr n k g) n vs H Q E) :
  TSd K ⟨H,xNm K mg E⟩ fr g { nx:=fun _ H'=>Q .non H',rt:=Q } (vs.map some++List.replicate k none) H:=by
 obtain ⟨ds,H0,s,r,hn,h⟩:=h
 refine ⟨H0,H,H0,_,Same.refl _,xQ s r k,?_⟩
 unfold mOf at h
 rw [if_pos hn] at h
 cases q:g (ds.map .im++List.replicate k .em) with
 | nx ρ=>
  rw [q] at h
  cases fr with
  | true=>exact h.elim
  | false=>exact fun U H' H0' I=>h _ H' (.val I.sb I.ext (by simp only [RD]))
 | rt d=>rw [q] at h;exact h
 | er x=>rw [q] at h;exact h
 | bk ρ=>rw [q] at h;exact h.elim
 | ct ρ=>rw [q] at h;exact h.elim
 | st=>rw [q] at h;exact h.elim
end
structure Flt {α:Type} (t:Sem α):Prop where
 go:∀{M:Model} {Γ:PySem.Ctx} {Q Q':α->Pos->Shared->Prop} {E E':Value->Pos->Shared->Prop} {p:Pos} {s:Shared},
 t.wp M Γ Q E p s->t.wp M Γ Q' E' p s->t.wp M Γ (fun a p s=>Q a p s/\Q' a p s) (fun a p s=>E a p s/\E' a p s) p s
theorem Flt.bind {α β:Type} {t:Sem α} {f:α->Sem β} (h:Flt t) (k:∀a,Flt (f a)):Flt (t >>= f):=by refine ⟨fun x y=>?_⟩;rw [Sem.wp_bind'] at x y ⊢;exact Sem.wp_mono _ _ _ (fun a _ _ z=>(k a).go z.1 z.2) (fun _ _ _ z=>z) _ _ (h.go x y)
theorem Flt.pure {α:Type} (a:α):Flt (Pure.pure a:Sem α):=⟨fun x y=>⟨x,y⟩⟩
theorem Flt.uns {α:Type} (w:String):Flt (unsupported w:Sem α):=⟨fun x _=>x.elim⟩
theorem Flt.stack:Flt PySem.stack:=⟨fun x y=>⟨x,y⟩⟩
theorem Flt.alloc (o:Obj):Flt (PySem.alloc o):=⟨fun x y=>⟨x,y⟩⟩
theorem Flt.update (a:Addr) (f:Obj->Obj):Flt (PySem.update a f):=⟨fun x y=>⟨x.1,x.2,y.2⟩⟩
theorem Flt.load (a:Addr):Flt (PySem.load a):=⟨fun ⟨o,e,x⟩ ⟨o',e',y⟩=>by rw [e] at e';cases e';exact ⟨o,e,x,y⟩⟩
theorem Flt.cells (v:Value):Flt (fieldsOf v):=by cases v<;>first | exact .uns _ | exact .bind (.load _) fun o=>by split<;>first | exact .pure _ | exact .uns _
theorem Flt.field (v:Value) (i:Nat):Flt (PySem.field v i):=.bind (.cells v) fun vs=>by split<;>first | exact .pure _ | exact .uns _
theorem Flt.put (v:Value) (i:Nat) (x:Value):Flt (setField v i x):=by cases v<;>first | exact .uns _ | exact .bind (.load _) fun o=>by split<;>first | exact .uns _ | (split<;>first | exact .update _ _ | exact .uns _)
theorem Flt.flight (e:Value) (f:Option Addr):Flt (setFlight e f):=.bind (.field e 1) fun tb=>by split<;>first | exact .put _ _ _ | exact .pure _
theorem Flt.ready:∀l:List Env,Flt (readyFrames l)
 | []=>.pure _
 | env::outer=>by
  unfold readyFrames;split<;>first | exact .uns _ | skip
  refine .bind (.load _) fun o=>?_
  split<;>first | exact .pure _ | skip
  refine .bind ?_ fun b=>.bind ?_ fun v=>.bind (.update _ _) fun _=>Flt.ready outer
  . unfold behindIsImport;split<;>first | exact .pure _ | skip
    split<;>first | exact .pure _ | exact .bind (.field _ _) fun _=>.pure _
  . unfold keptBack;split<;>first | exact .pure _ | skip
    split<;>first | exact .pure _ | exact .bind (.bind .stack fun _=>.pure _) fun _=>.pure _
theorem Flt.frame (env:Env):Flt (frameOf env):=.bind (.bind .stack fun _=>.pure _) fun es=>.bind (by
 unfold frameObject;split
 . exact .pure _
 . exact .bind (.ready _) fun _=>.pure _) fun f=>by split<;>first | exact .pure _ | exact .uns _
theorem Flt.fields (vs:List Value):Flt (newFields "traceback" vs):=by
 have h:Flt (newObjAsIs (.type "traceback") (.fields vs.toArray)):=.bind (.alloc _) fun a=>.pure _
 unfold newFields newObj;dsimp only;split
 . exact .bind (.uns _) fun _=>h
 . exact h
theorem Flt.entry (env:Env) (e head:Value) (L:Addr) (b:Bool):Flt (do let a <-frameOf env;let pl <-entryPlaceOf L b;let b <-EntryCells.newEntry head a .none (rawInt L) .none pl;setField e 1 b):=
 .bind (.frame env) fun _=>.bind (.bind .stack fun acts=>by split<;>exact .pure _) fun _=>.bind (.fields _) fun _=>.put _ _ _
theorem Flt.note (e:Value) (env:Env):Flt (noteFrame e env):=by
 unfold noteFrame;split<;>first | exact .uns _ | skip
 refine .bind (.field _ _) fun head=>?_
 split
 . refine .bind (.field _ _) fun x=>?_
   split
   . exact .pure _
   . exact .bind (.put _ _ _) fun _=>.entry _ _ _ _ _
 . exact .entry _ _ _ _ _
theorem Kp {M:Model} {A:Around} {α:Type} {t:Sem α} {Q Q':α->Shared->Prop} {E E':Value->Shared->Prop} {s:Shared} (f:Flt t) (h:wpAny M A t Q E s) (k:wpAny M A t Q' E' s):wpAny M A t (fun a s=>Q a s/\Q' a s) (fun a s=>E a s/\E' a s) s:=
 fun Γ p hΓ=>f.go (h Γ p hΓ) (k Γ p hΓ)
section
variable {M:Model} {A:Around} {E:Value->Shared->Prop} {s:Shared} {base:Heap} {env:Env} {outer:List Env} {L e:Addr} {cls a0 fl:Value} {od:Option Addr}
def r9 (e:Addr) (od:Option Addr) (h:Heap):Prop:=∀o,h.get? e=some o->o.dict=od
theorem xP (o:Obj) (f:Array Value->Array Value):(Obj.mapFields f o).dict=o.dict:=by unfold Obj.mapFields;split<;>rfl
theorem Jo {h:Heap} {b:Addr} {f:Array Value->Array Value} (d:r9 e od h) (hb:∃o,h.get? b=some o/\∃vs,o.data=.fields vs):r9 e od (h.update b (Obj.mapFields f)):=by
 intro o ho;by_cases q:b=e
 . subst q;obtain ⟨ob,h1,vs,h2⟩:=hb;rw [Heap.get?_update_self _ h1 (Obj.isFreed_of_fields (Obj.data_mapFields h2 f))] at ho;cases ho;rw [xP];exact d _ h1
 . rw [Heap.get?_update_other _ _ q] at ho;exact d o ho
theorem Tc (T:Addr):(Value.ref T != Value.none)=true:=by simp
theorem qu (L:Addr):(Value.none==rawInt L)=false:=by simp [rawInt]
theorem zL (ht:s.heap.TracedAtW base e cls a0 fl) (d:r9 e od s.heap):wpAny M A (setFlight (.ref e) none) (fun _ s'=>r9 e od s'.heap) E s:=by obtain ⟨oe,vs,T,oT,ts,he,-,hd,h1,-,-,hT,hdT,h3⟩:=ht;have in3:=(Array.getElem?_eq_some_iff.mp h3).1;unfold setFlight;exact wpAny_bind (wpAny_field he hd h1 (by rw [if_pos (Tc T)];exact wpAny_setField hT hdT in3 (Jo d ⟨_,hT,_,hdT⟩)))
theorem Wo {oe:Obj} {vs:Array Value} {head:Value} {hadNext:Bool} (hfr:A.frames=some (env::outer)) (hl:s.heap.FunFrames base (env::outer)) (hf:env.frame=some L) (he:s.heap.get? e=some oe) (hd:oe.data=.fields vs) (hsz:1<vs.size) (d:r9 e od s.heap) :
  wpAny M A (do let a <-frameOf env;let pl <-entryPlaceOf L hadNext;let b <-EntryCells.newEntry head a .none (rawInt L) .none pl;setField (.ref e) 1 b) (fun _ s'=>r9 e od s'.heap) E s:=by
 have nf:e∉(env::outer).filterMap (·.frame):=fun hm=>by obtain ⟨_,o,ho,hnf⟩:=hl.mem hm;rw [he] at ho;cases ho;exact hnf vs hd
 refine wpAny_bind (wpAny_frameOf_fun hfr hl hf fun h1 hs=>wpAny_bind (wpAny_entryPlaceOf fun pl hpl=>?_))
 unfold EntryCells.newEntry newFields
 refine wpAny_bind (wpAny_newObj_type ?_ (hpl.sizeOk5 _ _ _ _ _))
 have he1:h1.get? e=some oe:=(hs.2.1 e nf).trans he
 have he2:=Heap.get?_push_of_some (h:=h1) { cls:=.type "traceback",dict:=none,data:=.fields ([head,.ref L,.none,rawInt L,.none]++(if pl.isEmpty then List.replicate 6 Value.none else pl)).toArray } he1
 refine wpAny_setField he2 hd hsz (Jo (fun o ho=>?_) ⟨_,he2,_,hd⟩)
 rw [he2] at ho;cases ho
 exact d _ he
theorem yG (hfr:A.frames=some (env::outer)) (hl:s.heap.FunFrames base (env::outer)) (hf:env.frame=some L) (ht:s.heap.TracedW base e cls a0) (d:r9 e od s.heap) :
  wpAny M A (noteFrame (.ref e) env) (fun _ s'=>r9 e od s'.heap) E s:=by
 obtain ⟨oe,vs,T,oT,ts,he,-,hd,h1,-,hTe,hT,hdT,h3⟩:=ht
 have in1:=(Array.getElem?_eq_some_iff.mp h1).1
 have in3:=(Array.getElem?_eq_some_iff.mp h3).1
 have off:∀b,T≠b->(s.heap.update T (Obj.mapFields (·.setIfInBounds 3 Value.none))).get? b=s.heap.get? b:=fun b hb=>Heap.get?_update_other _ _ hb
 have fr:(s.heap.update T (Obj.mapFields (·.setIfInBounds 3 Value.none))).FunFrames base (env::outer):=hl.of_keeps fun b o hb nf=>⟨o,(off b fun z=>by rw [<-z,hT] at hb;cases hb;exact nf ts hdT).trans hb,rfl⟩
 unfold noteFrame
 simp only [hf]
 exact wpAny_bind (wpAny_field he hd h1 (by rw [if_pos (Tc T)];exact wpAny_bind (wpAny_field hT hdT h3 (by rw [if_neg (by rw [qu];exact Bool.false_ne_true)];exact wpAny_bind (wpAny_setField hT hdT in3 (Wo hfr fr hf ((off e hTe).trans he) hd in1 (Jo d ⟨_,hT,_,hdT⟩)))))))
end
section
variable {M:Model} {A:Around} {E:Value->Shared->Prop} {s:Shared} {base:Heap} {env:Env} {outer:List Env} {L e:Addr} {cls a0:Value} {od:Option Addr} {Q:Unit->Shared->Prop}
theorem Tb (hh:Heap.HeldW base (env::outer) e cls a0 L s.heap) (d:r9 e od s.heap) (hQ:∀h',Heap.FlyingW base (env::outer) e cls a0 h'->s.heap.UpToSlots h'->r9 e od h'->Q () { s with heap:=h' }):wpAny M A (setFlight (.ref e) none) Q E s:=
 wpAny_mono (Kp (E:=E) (E':=E) (.flight _ _) (wpAny_landsW hh (Q:=fun _ s'=>∃h',s'={ s with heap:=h' }/\Heap.FlyingW base (env::outer) e cls a0 h'/\s.heap.UpToSlots h') fun h' f u=>⟨h',rfl,f,u⟩) (zL hh.2.2.2 d))
  (fun _ s' ⟨⟨h',e1,f,u⟩,d'⟩=>by subst e1;exact hQ h' f u d') fun _ _ z=>z.1
theorem wg (hfr:A.frames=some (env::outer)) (hf:env.frame=some L) (hfl:Heap.FlyingW base (env::outer) e cls a0 s.heap) (d:r9 e od s.heap)
  (hQ:∀h',Heap.HeldW base (env::outer) e cls a0 L h'->s.heap.UpToSlots h'->r9 e od h'->Q () { s with heap:=h' }):wpAny M A (noteFrame (.ref e) env) Q E s:=
 wpAny_mono (Kp (E:=E) (E':=E) (.note _ _) (wpAny_looks_onW hfr hf hfl (Q:=fun _ s'=>∃h',s'={ s with heap:=h' }/\Heap.HeldW base (env::outer) e cls a0 L h'/\s.heap.UpToSlots h') fun h' f u=>⟨h',rfl,f,u⟩) (yG hfr hfl.2.2.1 hf hfl.2.2.2 d))
  (fun _ s' ⟨⟨h',e1,f,u⟩,d'⟩=>by subst e1;exact hQ h' f u d') fun _ _ z=>z.1
theorem xO (hfr:A.frames=some (env::outer)) (hf:env.frame=some L) (hfl:Heap.FlyingW base (env::outer) e cls a0 s.heap) (d:r9 e od s.heap)
  (hQ:∀h',Heap.FlyingW base outer e cls a0 h'->s.heap.UpToSlots h'->r9 e od h'->Q () { s with heap:=h' }):wpAny M A (leaving env (.ref e)) Q E s:=by
 unfold leaving
 refine wpAny_bind (wg hfr hf hfl d fun h1 hh u1 d1=>Tb (s:={ s with heap:=h1 }) hh d1 fun h2 f u2 d2=>hQ h2 ?_ (u1.trans u2) d2)
 obtain ⟨k1,k2,⟨_,_,k3⟩,k4⟩:=f
 exact ⟨k1,k2,k3,k4⟩
theorem wf {oe:Obj} {vs:Array Value} (hfr:A.frames=some (env::outer)) (hl:s.heap.FunFrames base (env::outer)) (hf:env.frame=some L) (he:s.heap.get? e=some oe) (hkb:base.StaysIn s.heap) (hen:base.get? e=none) (hd:oe.data=.fields vs) (h1:vs[1]?=some .none) (h0:vs[0]?=some a0) (d:r9 e od s.heap)
  (hQ:∀h',Heap.FlyingW base outer e oe.cls a0 h'->s.heap.UpToSlots h'->r9 e od h'->Q () { s with heap:=h' }):wpAny M A (leaving env (.ref e)) Q E s:=by
 have hsz:=(Array.getElem?_eq_some_iff.mp h1).1
 unfold leaving noteFrame
 simp only [hf]
 refine wpAny_bind (wpAny_bind (wpAny_field he hd h1 ?_))
 rw [if_neg (by decide)]
 refine wpAny_mono (Kp (E:=E) (E':=E) (.entry _ _ _ _ _) (wpAny_entryW hfr hl hf he hkb hen hd hsz h0 (Q:=fun _ s'=>∃h',s'={ s with heap:=h' }/\Heap.NotedW base (env::outer) e oe.cls a0 (rawInt L) s.heap h') fun h' n=>⟨h',rfl,n⟩) (Wo hfr hl hf he hd hsz d)) (fun _ s' z=>?_) fun _ _ z=>z.1
 obtain ⟨⟨h',e1,n1,n2,n3,n4⟩,d1⟩:=z
 subst e1
 refine Tb (s:={ s with heap:=h' }) ⟨n1,hen,n2,n3⟩ d1 fun h2 f u2 d2=>hQ h2 ?_ (Heap.UpToSlots.trans n4 u2) d2
 obtain ⟨k1,k2,⟨_,_,k3⟩,k4⟩:=f
 exact ⟨k1,k2,k3,k4⟩
end
theorem ObjOk.there {P:Program} {w:World} {H:Hp} {h:Heap} {a:Addr} {o:HO} (x:ObjOk P w H h a o):∃ob,h.get? a=some ob:=by
 induction o with
 | lst xs=>obtain ⟨_,_,_,_,e⟩:=x;exact ⟨_,e⟩
 | tup xs=>obtain ⟨_,_,_,ob,e,_⟩:=x;exact ⟨_,e⟩
 | dK kvs=>obtain ⟨_,_,_,_,o,_,_,e,_⟩:=x;exact ⟨_,e⟩
 | dT kvs=>obtain ⟨_,_,_,_,o,_,_,e,_⟩:=x;exact ⟨_,e⟩
 | set S n=>obtain ⟨o,_,_,_,e,_⟩:=x;exact ⟨_,e⟩
 | ins C dx fs=>obtain ⟨_,_,_,e,_⟩:=x;exact ⟨_,e⟩
 | own y=>exact x
 | xd fs=>obtain ⟨_,⟨_,_,_,e,_⟩,_⟩:=x;exact ⟨_,e⟩
 | rng lo hi=>obtain ⟨_,_,_,e⟩:=x;exact ⟨_,e⟩
 | frz ob u ih=>exact ⟨_,x.1⟩
 | tbl ps=>exact ⟨_,x⟩
 | ctb q=>obtain ⟨_,e,_⟩:=x;exact ⟨_,e⟩
 | met f y=>exact ⟨_,x⟩
 | ext φ=>exact x.2.1
theorem HOk.none {P:Program} {w:World} {H:Hp} {h:Heap} {a:Addr} (x:HOk P w H h) (e:h.get? a=Option.none):H a=Option.none:=by
 cases q:H a with
 | none=>rfl
 | some o=>
  obtain ⟨ob,z⟩:=(x a o q).there
  rw [e] at z;cases z
def Fly (h0:Heap) (H':Hp) (C a:Addr) (od:Option Addr) (h:Heap):Prop:=∃oe vs T oT ts a0,h.get? a=some oe/\oe.cls=.ref C/\vs[0]?=some a0/\oe.data=.fields vs/\vs[1]?=some (.ref T)/\T≠a/\h.get? T=some oT/\oT.data=.fields ts/\ts[3]?=some Value.none /\
 h0.get? a=none/\h0.get? T=none/\H' a=none/\H' T=none/\oe.dict=od/\∀dx,od=some dx->h0.get? dx=none
structure XOut (P:Program) (w:World) (outer:List Env) (H:Hp) (s:Shared) (C a:Addr) (od:Option Addr) (H':Hp) (s':Shared):Prop where
 os:s'.os=s.os
 bare:AllBare s'.gens
 un:Un (frs outer) [] H H' s.heap s'.heap
 hok:HOk P w H' s'.heap
 fly:Fly s.heap H' C a od s'.heap
noncomputable def CX1 (P:Program) (w:World):CXT:=fun outer H s E e s'=>∃C a od H',e=.ref a/\XOut P w outer H s C a od H' s'/\E (.ref C) od H'
theorem Vq {l:List Addr} {h:Heap} {b:Addr} (e:(hideAll h l).get? b=none):b∈l\/h.get? b=none:=by
 by_cases hb:b∈l
 . exact .inl hb
 . cases q:h.get? b with
   | none=>exact .inr rfl
   | some o=>rw [hideAll_get l q hb] at e;cases e
section
variable {X:Cx} {pins:List (Addr×Obj)} {U:List (Option V)} {H1 H2:Hp} {s1 s2:Shared} {h' B:Heap} {Z:List Addr} {C a:Addr} {a0:Value} {od:Option Addr}
theorem Inv.stack2 (I:Inv X pins U H1 s1) (un:Un (frs X.stack) [] H1 H2 s1.heap s2.heap):s2.heap.FunFrames X.base X.stack:=by
 have all:∀(l:List Env),(∀b∈frs l,b∈frs X.stack)->s1.heap.FunFrames X.base l->s2.heap.FunFrames X.base l:=by
  intro l;induction l with
  | nil=>intro _ _;trivial
  | cons env r ih=>
   intro hs hl
   obtain ⟨hk,⟨L,o,hf,hn,ho,hd⟩,hr⟩:=hl
   have hL:L∈frs X.stack:=hs L (by unfold frs;rw [List.filterMap_cons,hf];exact List.mem_cons_self)
   obtain ⟨sl,e⟩:=un.slot L o ho (I.stkFree L hL) hL (by simp)
   exact ⟨hk,⟨L,_,hf,hn,e,hd⟩,ih (fun b hb=>hs b (by unfold frs;rw [List.filterMap_cons,hf];exact List.mem_cons_of_mem _ hb)) hr⟩
 exact all X.stack (fun _ hb=>hb) I.stack
theorem Wn (I:Inv X pins U H1 s1) (hst:X.stack=X.env::X.outer) (hex:X.ex=[]) (hos:s2.os=s1.os) (hbare:AllBare s2.gens) (un:Un (frs X.stack) [] H1 H2 s1.heap s2.heap) (hok:HOk X.prog X.w H2 s2.heap)
  (hZ:∀b∈Z,s1.heap.get? b=none/\H2 b=none) (ha:s1.heap.get? a=none) (hHa:H2 a=none) (keep:∀b o,s2.heap.get? b=some o->b∉Z->b∉frs X.stack->h'.get? b=some o)
  (up:s2.heap.UpToSlots h') (hB:∀b,B.get? b=none->b∈frs X.stack\/(s1.heap.get? b=none/\H2 b=none)) (hfl:Heap.FlyingW B X.outer a (.ref C) a0 h') (hdc:r9 a od h') (hnd:∀dx,od=some dx->s1.heap.get? dx=none) :
  XOut X.prog X.w X.outer X.H₀ X.s₀ C a od H2 { s2 with heap:=h' }:=by
 have base:Un X.fs [] X.H₀ H1 X.s₀.heap s1.heap:=hex ▸ I.base
 have F2:=I.stack2 un
 have sub:∀b∈frs X.outer,b∈frs X.stack:=fun b hb=>by
  rw [hst];unfold frs;cases q:X.env.frame with
  | none=>rw [List.filterMap_cons,q];exact hb
  | some L=>rw [List.filterMap_cons,q];exact List.mem_cons_of_mem _ hb
 have neL:∀b o,X.s₀.heap.get? b=some o->b≠X.env.locals:=fun b o e=>Nat.ne_of_lt (Nat.lt_of_lt_of_le (Heap.lt_size e) I.ok.above)
 have nost:∀b o,X.s₀.heap.get? b=some o->b∉frs X.outer->b∉frs X.stack:=fun b o e hb z=>(List.mem_cons.mp (I.stkSub b z)).elim (neL b o e) hb
 have fresh0:∀b,s1.heap.get? b=none->X.s₀.heap.get? b=none:=fun b e=>by
  cases q:X.s₀.heap.get? b with
  | none=>rfl
  | some o=>
   obtain ⟨o',z⟩:=base.there b o q (by simp)
   rw [e] at z;cases z
 have noZ:∀b o,X.s₀.heap.get? b=some o->b∉Z:=fun b o e hb=>by rw [fresh0 b (hZ b hb).1] at e;cases e
 have frFree:∀b∈frs X.stack,H2 b=none:=fun b hb=>by obtain ⟨_,o,ho,_⟩:=I.stack.mem hb;exact un.free b o ho (I.stkFree b hb) (by simp)
 have slotF:∀b∈frs X.stack,∀o,s2.heap.get? b=some o->∃sl,h'.get? b=some { o with slots:=sl }:=fun b hb o e=>by obtain ⟨_,o',ho',hd⟩:=F2.mem hb;rw [e] at ho';cases ho';exact up b o e hd
 refine ⟨by show s2.os=_;rw [hos,I.os],hbare,⟨fun b o e n hb _=>?_,fun b o e n hb _=>?_,fun b o e n _=>?_,fun b o e _=>?_,fun b xs e=>un.tups b xs (base.tups b xs e),fun b o u e=>un.frzs b o u (base.frzs b o u e),fun b ps e=>?_⟩,fun b o e=>?_,?_⟩
 . exact keep b o (un.keep b o (base.keep b o e n hb (by simp)) (base.free b o e n (by simp)) (nost b o e hb) (by simp)) (noZ b o e) (nost b o e hb)
 . obtain ⟨sl,e1⟩:=base.slot b o e n hb (by simp);obtain ⟨sl2,e2⟩:=un.slot b _ e1 (base.free b o e n (by simp)) (sub b hb) (by simp);obtain ⟨sl3,e3⟩:=slotF b (sub b hb) _ e2;exact ⟨sl3,e3⟩
 . obtain ⟨o1,e1⟩:=base.there b o e (by simp);exact un.free b o1 e1 (base.free b o e n (by simp)) (by simp)
 . obtain ⟨o1,e1⟩:=base.there b o e (by simp);obtain ⟨o2,e2⟩:=un.there b o1 e1 (by simp);by_cases hb:b∈frs X.stack
   . obtain ⟨sl,e3⟩:=slotF b hb _ e2;exact ⟨_,e3⟩
   . exact ⟨o2,keep b o2 e2 (noZ b o e) hb⟩
 . obtain ⟨m1,e1⟩:=base.tbls b ps e;obtain ⟨m2,e2⟩:=un.tbls b _ e1;exact ⟨m1++m2,by rw [e2,Array.append_assoc]⟩
 . refine (hok b o e).stay (fun c v hc q=>keep c v q (fun hz=>?_) fun hf=>?_) (fun _ q=>q) fun _ _ q=>q
   . have:=(hZ c hz).2;rcases hc with rfl | hc
     . rw [e] at this;cases this
     . rw [hc] at this;cases this
   . have:=frFree c hf;rcases hc with rfl | hc
     . rw [e] at this;cases this
     . rw [hc] at this;cases this
 . obtain ⟨_,_,_,oe,vs,T,oT,ts,he,⟨hc,h0⟩,hd,h1,hnT,hTe,hT,hdT,h3⟩:=hfl;have hTn:s1.heap.get? T=none/\H2 T=none:=by
    rcases hB T hnT with z | z
    . obtain ⟨_,o',ho',hd'⟩:=F2.mem z;obtain ⟨sl,e3⟩:=slotF T z o' ho';rw [hT] at e3;cases e3;exact absurd hdT (hd' ts)
    . exact z
   exact ⟨oe,vs,T,oT,ts,a0,he,hc,h0,hd,h1,hTe,hT,hdT,h3,fresh0 a ha,fresh0 T hTn.1,hHa,hTn.2,hdc _ he,fun dx e=>fresh0 dx (hnd dx e)⟩
theorem xN (I:Inv X pins U H1 s1) (hst:X.stack=X.env::X.outer) (hex:X.ex=[]) (hf:X.env.frame=some X.env.locals) (x:XOut X.prog X.w X.stack H1 s1 C a od H2 s2) {E:Value->Shared->Prop} {Q:Unit->Shared->Prop}
  (h:∀s',XOut X.prog X.w X.outer X.H₀ X.s₀ C a od H2 s'->Q () s'):wpAny (model X.prog X.w) X.A (leaving X.env (.ref a)) Q E s2:=by
 obtain ⟨oe,vs,T,oT,ts,a0,he,hc,h0,hd,h1,hTe,hT,hdT,h3,na,nT,ha,hHT,hod,hnd⟩:=id x.fly
 have F2:=I.stack2 x.un
 have hin:∀env∈X.stack,∀b,env.frame=some b->b∈a::T::frs X.stack:=fun env he b hb=>List.mem_cons_of_mem _ (List.mem_cons_of_mem _ (List.mem_filterMap.mpr ⟨env,he,hb⟩))
 have hfr:X.A.frames=some (X.env::X.outer):=by rw [<-hst];exact I.ok.frames
 refine xO (od:=od) (base:=hideAll s2.heap (a::T::frs X.stack)) (cls:=.ref C) (a0:=a0) hfr hf ⟨fun b o q=>PySem.W.of_hideAll _ q,hideAll_none _ (.head _),hst ▸ PySem.W.funFrames_hide F2 hin,?_⟩ (fun o ho=>by rw [he] at ho;cases ho;exact hod) fun h' hfl up hdc=>h _ (Wn (Z:=[a,T]) I hst hex x.os x.bare x.un x.hok (fun b hb=>?_) na ha (fun b o q hz hfs=>hfl.1 b o (hideAll_get _ q ?_)) up (fun b q=>?_) hfl hdc hnd)
 . exact ⟨oe,vs,T,oT,ts,he,⟨hc,h0⟩,hd,h1,hideAll_none _ (.tail _ (.head _)),hTe,hT,hdT,h3⟩
 . rcases List.mem_cons.mp hb with rfl | hb
   . exact ⟨na,ha⟩
   . have:b=T:=by simpa using hb
     subst this;exact ⟨nT,hHT⟩
 . intro z;rcases List.mem_cons.mp z with rfl | z
   . exact hz (.head _)
   . rcases List.mem_cons.mp z with rfl | z
     . exact hz (.tail _ (.head _))
     . exact hfs z
 . rcases Vq q with z | z
   . rcases List.mem_cons.mp z with rfl | z
     . exact .inr ⟨na,ha⟩
     . rcases List.mem_cons.mp z with rfl | z
       . exact .inr ⟨nT,hHT⟩
       . exact .inl z
   . refine .inr ⟨?_,x.hok.none z⟩;cases q1:s1.heap.get? b with
     | none=>rfl
     | some o=>
      obtain ⟨o',e'⟩:=x.un.there b o q1 (by simp)
      rw [z] at e';cases e'
structure MadeX (h h':Heap) (e C:Addr) (od:Option Addr):Prop where
 new:h.get? e=none
 newd:∀dx,od=some dx->h.get? dx=none
 there:∃oe vs a0,h'.get? e=some oe/\oe.cls=.ref C/\oe.dict=od/\oe.data=.fields vs/\vs[0]?=some a0/\vs[1]?=some .none
theorem zq (I:Inv X pins U H1 s1) (hst:X.stack=X.env::X.outer) (hex:X.ex=[]) (hf:X.env.frame=some X.env.locals) (hx:MadeX s1.heap s2.heap a C od) (hok:HOk X.prog X.w H2 s2.heap) (un:Un (frs X.stack) [] H1 H2 s1.heap s2.heap) (hHa:H2 a=none) (hos:s2.os=s1.os) (hbare:AllBare s2.gens) {E:Value->Shared->Prop} {Q:Unit->Shared->Prop}
  (h:∀s',XOut X.prog X.w X.outer X.H₀ X.s₀ C a od H2 s'->Q () s'):wpAny (model X.prog X.w) X.A (leaving X.env (.ref a)) Q E s2:=by
 have hin:∀env∈X.stack,∀b,env.frame=some b->b∈a::frs X.stack:=fun env he b hb=>List.mem_cons_of_mem _ (List.mem_filterMap.mpr ⟨env,he,hb⟩)
 have hfr:X.A.frames=some (X.env::X.outer):=by rw [<-hst];exact I.ok.frames
 have F2:=I.stack2 un
 obtain ⟨oe,vs,a0,he,hc,hod,hd,h0,h1⟩:=hx.there
 refine wf (od:=od) (base:=hideAll s2.heap (a::frs X.stack)) hfr (hst ▸ PySem.W.funFrames_hide F2 hin) hf he (fun b o q=>PySem.W.of_hideAll _ q) (hideAll_none _ (.head _)) hd h1 h0 (fun o ho=>by rw [he] at ho;cases ho;exact hod) fun h' hfl up hdc=>h _ ?_
 rw [hc] at hfl
 refine Wn (B:=hideAll s2.heap (a::frs X.stack)) (Z:=[a]) I hst hex hos hbare un hok (fun b hb=>?_) hx.new hHa (fun b o q hz hfs=>hfl.1 b o (hideAll_get _ q ?_)) up (fun b q=>?_) hfl hdc hx.newd
 . obtain rfl:b=a:=by simpa using hb
   exact ⟨hx.new,hHa⟩
 . intro z;rcases List.mem_cons.mp z with rfl | z
   . exact hz (.head _)
   . exact hfs z
 . rcases Vq q with z | z
   . rcases List.mem_cons.mp z with rfl | z
     . exact .inr ⟨hx.new,hHa⟩
     . exact .inl z
   . refine .inr ⟨?_,hok.none z⟩;cases q1:s1.heap.get? b with
     | none=>rfl
     | some o=>
      obtain ⟨o',e'⟩:=un.there b o q1 (by simp)
      rw [z] at e';cases e'
end
noncomputable def eOf (K:Frag) (EX:XW) (mg:Str->Option Value):XK:=fun cv od H=>∃x:Ex,EX.p x H/\mg (x.cls:Str)=some cv/\XFs K x od H
structure Lnd (X:Cx) (EX:XW):Prop where
 nm:∀x H,EX.p x H->∃C,X.mg (x.cls:Str)=some (.ref C)
 on:Cm (CX1 X.prog X.w) X (eOf X.K EX X.mg)
 md:∀(pins:List (Addr×Obj)) (U:St) (H H2:Hp) (s:Shared) (a C:Addr) (od:Option Addr) (s':Shared) (x:Ex),Inv X pins U H s->MadeX s.heap s'.heap a C od->HOk X.prog X.w H2 s'.heap->Un (frs X.stack) [] H H2 s.heap s'.heap->H2 a=none->s'.os=s.os->AllBare s'.gens->X.mg (x.cls:Str)=some (.ref C)->EX.p x H2->XFs X.K x od H2->X.xe (.ref a) s'
theorem Dz {X:Cx}:Lnd X F0:=⟨fun _ _ z=>z.elim,fun _ _ _ _ _ _ _ ⟨_,_,_,_,_,_,_,z,_⟩=>z.elim,fun _ _ _ _ _ _ _ _ _ _ _ _ _ _ _ _ _ _ z _=>z.elim⟩
theorem j8 {P:Program} {w:World} {K:Frag} {mg:Str->Option Value} {base:Heap} {N:List Str} {qual:Str} {sc:Scope} {f:Addr} {cdv:Value} {A:Around} {outer:List Env} {s:Shared} {H:Hp} {E:XK} :
  Lnd (K2 (CX1 P w) P w K mg base N qual sc f cdv A outer s H E) ⟨H,xNm K mg E⟩:=by
 refine ⟨fun x H ⟨C,hC,_⟩=>⟨C,hC⟩,?_,?_⟩
 . rintro pins U H1 s1 e s' I ⟨C,a,od,H',rfl,xo,x,⟨C',hC',hE⟩,hmg,hx⟩;have hmg:mg (x.cls:Str)=some (.ref C):=hmg;rw [hC'] at hmg;cases hmg;exact xN I rfl rfl rfl xo fun s'' y=>⟨_,a,od,H',rfl,y,hE od hx⟩
 . rintro pins U H1 H2 s1 a C od s' x I hx hok un hHa ho hb hmg ⟨C',hC',hE⟩ hf;have hmg:mg (x.cls:Str)=some (.ref C):=hmg;rw [hC'] at hmg;cases hmg;exact zq I rfl rfl rfl hx hok un hHa ho hb fun s'' y=>⟨_,a,od,H2,rfl,y,hE od hf⟩
def j9 (P:Program) (w:World) (K:Frag) (mg:Str->Option Value) (base:Heap) (x:Str) (ps:List Str) (k:Nat) (sp:Sp):Prop:=
 ∃f fd,FnOk P w K mg base (CX1 P w) k f fd ps sp/\Binds K fd ps []/\mg x=some (.ref f)/\keepIn K (.ref f)=true
section
variable {X:Cx} {x:Str} {p pos:Pos} {e:Expr} {es:List Expr} {t:TA} {ps:List Str} {k j:Nat} {sp:Sp} {E:XK}
theorem we (G:j9 X.prog X.w X.K X.mg X.base x ps k sp) (hx:Cm (CX1 X.prog X.w) X E) (hr:Room j X.A) (hg:Gl X x) (ha:PA X (e::es) t) (hkj:k<=j:=by omega) (hdb:(x==("__debug__":Str))=false:=by decide)
  (he:starEach (e::es) X.env=(false,eval e X.env)::starEach es X.env:=by rfl) (hpl:(backTo pos (starEach es X.env)).any (·.1)=false:=by rfl):PE X (.Call (.Name x p) (e::es) [] pos) (Go sp E t):=by
 obtain ⟨f,fd,F,b,m,kp⟩:=G
 refine (wG F (hr.mono hkj) hg m kp b .nil hx ha hdb he hpl).imp fun U H Q q=>?_
 unfold Ny
 unfold Go at q
 simpa only [List.append_nil] using q
end
theorem Fun.okX {P:Program} {w:World} {K:Frag} {mg:Str->Option Value} {base:Heap} {x qual:Str} {st:Stmt} {f:Addr} {fd:FuncData} {N ps:List Str} {k:Nat} {sp:Sp} {CX:CXT} (F:Fun K x qual st f fd) (S:FnScope N ps (i8 st)) (len:∀vs H Q E,sp vs H Q E->vs.length=ps.length)
  (hbody:∀(cdv:Value) (A:Around) (outer:List Env) (s:Shared) (H:Hp) (vs:List V) (Q:VK) (E:XK),Room k (A.deeper (envOfC qual (i8 st) s.heap.objs.size f cdv))->sp vs H Q E ->
   ∃t,PSs (K2 CX P w K mg base N qual (i8 st) f cdv A outer s H E) (E5 st) t/\t { nx:=fun _ H'=>Q .non H',rt:=Q } (D7 N vs) H):FnOk P w K mg base CX (k+1) f fd ps sp:=by
 obtain ⟨oc,od,kV,doc,pm,an,cdv,ct,osl,rfl,lk,hcd⟩:=F.ex
 refine jC lk hcd S len fun A outer s H vs Q E hr hsp=>?_
 exact hbody cdv A outer s H vs Q E hr hsp
section
variable {K:Frag} {H:Hp} {v:V}
theorem RD.int {i:Int} (h:RD K H (.int i) v):v=.int i:=by simpa only [RD] using h
theorem RD.str {i:Str} (h:RD K H (.str i) v):v=.str i:=by simpa only [RD] using h
theorem RD.non (h:RD K H .non v):v=.non:=by simpa only [RD] using h
theorem RD.tup {ds:List D} (h:RD K H (.tup ds) v):∃a xs,v=.ref a/\H a=some (.tup xs)/\RDs K H ds xs:=by simpa only [RD] using h
theorem RD.lst {ds:List D} (h:RD K H (.lst ds) v):∃a xs,v=.ref a/\H a=some (.lst xs)/\RDs K H ds xs:=by simpa only [RD] using h
theorem RD.dk {ks:List Key} {ds:List D} (h:RD K H (.dk ks ds) v):∃a xs,v=.ref a/\H a=some (.dK (ks.zip xs))/\ks.length=xs.length/\RDs K H ds xs:=by simpa only [RD] using h
theorem RD.dt {ks:List (List Key)} {ds:List D} (h:RD K H (.dt ks ds) v):∃a xs,v=.ref a/\H a=some (.dT (ks.zip xs))/\ks.length=xs.length/\RDs K H ds xs:=by simpa only [RD] using h
theorem RD.scr {ns:List Int} (h:RD K H (.scr ns) v):∃a,v=.ref a/\SqL K H a (ns.map V.int):=by
 simp only [RD] at h;obtain ⟨a,e,h | h⟩:=h
 . exact ⟨a,e,.inl (.inr h)⟩
 . exact ⟨a,e,.inr h⟩
theorem RD.mkInt (i:Int):RD K H (.int i) (.int i):=by simp only [RD]
theorem RD.mkBl (i:Bool):RD K H (.bl i) (.bl i):=by simp only [RD]
theorem RD.mkStr (i:Str):RD K H (.str i) (.str i):=by simp only [RD]
theorem RD.mkTup {a:Addr} {xs:List V} {ds:List D} (h:H a=some (.tup xs)) (r:RDs K H ds xs):RD K H (.tup ds) (.ref a):=by simp only [RD];exact ⟨a,xs,rfl,h,r⟩
end
noncomputable def dI (g:Int->Int->D):D->D->Option D
 | .int i,.int j=>some (g i j)
 | _,_=>none
noncomputable def dIC (C:Int->Int->Prop) [∀i j,Decidable (C i j)] (g:Int->Int->D):D->D->Option D
 | .int i,.int j=>if C i j then some (g i j) else none
 | _,_=>none
noncomputable def dOr (o p:D->D->Option D):D->D->Option D:=fun d e=>match o d e with
 | some z=>some z
 | none=>p d e
section
variable {K:Frag}
theorem OpD.weak {fr:Bool} {o:D->D->Option D} {r:R2} (h:OpD K fr o r):OpD K false o r:=fun H0 H x y d e z Q s rx ry ho k=>h H0 H x y d e z Q s rx ry ho fun v H' q=>k v H' q.weak
theorem OpD.or {f1 f2:Bool} {o p:D->D->Option D} {r q:R2} (h1:OpD K f1 o r) (h2:OpD K f2 p q):OpD K false (dOr o p) (fun x y H Q=>r x y H Q\/q x y H Q):=by
 intro H0 H x y d e z Q s rx ry ho k;unfold dOr at ho;split at ho
 . rename_i z' hz;cases ho;exact .inl (h1.weak H0 H x y d e z Q s rx ry hz k)
 . exact .inr (h2.weak H0 H x y d e z Q s rx ry ho k)
theorem V5 {gv:Int->Int->V} {gd:Int->Int->D} (h:∀i j H,RD K H (gd i j) (gv i j)):OpD K false (dI gd) (cI gv):=by
 intro H0 H x y d e z Q s rx ry ho k;cases d<;>simp only [dI] at ho<;>first | cases ho | skip
 cases e<;>simp only [dI] at ho<;>first | cases ho | skip
 cases rx.int;cases ry.int;exact k _ H (.pure s (h _ _ _))
theorem Ff {C:Int->Int->Prop} [∀i j,Decidable (C i j)] {gv:Int->Int->V} {gd:Int->Int->D} (h:∀i j H,RD K H (gd i j) (gv i j)):OpD K false (dIC C gd) (cIC C gv):=by
 intro H0 H x y d e z Q s rx ry ho k;cases d<;>simp only [dIC] at ho<;>first | cases ho | skip
 cases e<;>simp only [dIC] at ho<;>first | cases ho | skip
 cases rx.int;cases ry.int;split at ho
 . rename_i hcc;cases ho;exact ⟨hcc,k _ H (.pure s (h _ _ _))⟩
 . cases ho
instance (i j:Int):Decidable (CMul i j):=by unfold CMul;infer_instance
instance (i j:Int):Decidable (N2 i j):=by unfold N2;infer_instance
instance (i j:Int):Decidable (Zo i j):=by unfold Zo;infer_instance
noncomputable def l8:D->D->Option D:=dI fun i j=>.int (i+j)
noncomputable def u8:D->D->Option D:=dI fun i j=>.int (i - j)
noncomputable def Bc:D->D->Option D:=dIC CMul fun i j=>.int (i * j)
noncomputable def N0:D->D->Option D:=dIC N2 fun i j=>.int (i / j)
noncomputable def v4:D->D->Option D:=dIC (fun _ j=>0<j) fun i j=>.int (i % j)
noncomputable def R3:D->D->Option D:=dI fun i j=>.bl (decide (i<j))
noncomputable def dLe:D->D->Option D:=dI fun i j=>.bl (decide (i<=j))
noncomputable def Bl:D->D->Option D:=dI fun i j=>.bl (decide (j<i))
noncomputable def dGe:D->D->Option D:=dI fun i j=>.bl (decide (j<=i))
theorem n9:OpD K false l8 (cI fun i j=>.int (i+j)):=V5 fun _ _ _=>.mkInt _
theorem E1:OpD K false u8 (cI fun i j=>.int (i - j)):=V5 fun _ _ _=>.mkInt _
theorem qt:OpD K false Bc (cIC CMul fun i j=>.int (i * j)):=Ff fun _ _ _=>.mkInt _
theorem Qc:OpD K false N0 (cIC N2 fun i j=>.int (i / j)):=Ff fun _ _ _=>.mkInt _
theorem L4:OpD K false v4 (cIC (fun _ j=>0<j) fun i j=>.int (i % j)):=Ff fun _ _ _=>.mkInt _
theorem Y5:OpD K false R3 (cI fun i j=>.bl (decide (i<j))):=V5 fun _ _ _=>.mkBl _
theorem Fe:OpD K false dLe (cI fun i j=>.bl (decide (i<=j))):=V5 fun _ _ _=>.mkBl _
theorem Gn:OpD K false Bl (cI fun i j=>.bl (decide (j<i))):=V5 fun _ _ _=>.mkBl _
noncomputable def K3:D->Option D
 | .int i=>some (.int (-i))
 | _=>none
theorem Y4:UnD K false K3 (cU fun i=>.int (-i)):=by
 intro H0 H x d z Q s rx ho k;cases d<;>simp only [K3] at ho<;>first | cases ho | skip
 cases rx.int;exact k _ H (.pure s (.mkInt _))
noncomputable def x0:D->D->Option D
 | .lst ds,.lst es=>if ds.length+es.length<=100000 then some (.lst (ds++es)) else none
 | _,_=>none
theorem Q8 {n:Nat} (h:n<=100000):n<=sizeLine:=Nat.le_trans h (by decide)
theorem Cg:OpD K true x0 Zg:=by
 intro H0 H x y d e z Q s rx ry ho k;cases d<;>simp only [x0] at ho<;>first | cases ho | skip
 cases e<;>simp only [x0] at ho<;>first | cases ho | skip
 split at ho<;>cases ho;rename_i hl;obtain ⟨a,xs,rfl,ha,ra⟩:=rx.lst;obtain ⟨b,ys,rfl,hb,rb⟩:=ry.lst;refine ⟨a,b,xs,ys,rfl,rfl,s _ _ ha,s _ _ hb,by rw [<-ra.length,<-rb.length];exact Q8 hl,fun p hp=>k _ _ (.new s hp fun H' hH=>?_)⟩;simp only [OB];exact ⟨_,hH,ra.append rb⟩
end
noncomputable def dEq:D->D->Option D:=fun d e=>if d.pl=true/\e.pl=true/\d.dep<=20 then some (.bl (eqD d e)) else none
noncomputable def dNe:D->D->Option D:=fun d e=>if d.pl=true/\e.pl=true/\d.dep<=20 then some (.bl (!eqD d e)) else none
noncomputable def Yy (K:Frag):R2:=fun x y H Q=>∃d e,RD K H d x/\RD K H e y/\d.pl=true/\e.pl=true/\d.dep<=20/\Q (.bl (eqD d e)) H
noncomputable def Yx (K:Frag):R2:=fun x y H Q=>∃d e,RD K H d x/\RD K H e y/\d.pl=true/\e.pl=true/\d.dep<=20/\Q (.bl (!eqD d e)) H
noncomputable def M9 (neg:Bool):D->D->Option D:=fun d c=>match c with
 | .lst es=>if d.pl=true/\pls es=true/\j2 es<=20 then some (.bl (if neg then !(es.any fun e=>eqD e d) else es.any fun e=>eqD e d)) else none
 | .tup es=>if d.pl=true/\pls es=true/\j2 es<=20 then some (.bl (if neg then !(es.any fun e=>eqD e d) else es.any fun e=>eqD e d)) else none
 | _=>none
noncomputable def Bb (K:Frag) (neg:Bool):R2:=fun x y H Q=>∃p xs d es,y=.ref p/\(H p=some (.lst xs)\/H p=some (.tup xs))/\RD K H d x/\RDs K H es xs/\d.pl=true/\pls es=true/\j2 es<=20/\Q (.bl (if neg then !(es.any fun e=>eqD e d) else es.any fun e=>eqD e d)) H
section
variable {X:Cx} {K:Frag}
theorem Fd (hu:X.A.units+64<cLine):OpR X (compareOp .Eq) (Yy X.K):=by intro pins s U H x y v u Q I rx ry h;obtain ⟨d,e,h1,h2,p1,p2,h3,q⟩:=h;exact (Qd (n:=20) I p1 p2 h3 (by omega) h1 h2 rx ry).1 X.prog X.w X.xe _ ⟨.bl _,H,I,rfl,q⟩
theorem Zx (hu:X.A.units+64<cLine):OpR X (compareOp .NotEq) (Yx X.K):=by intro pins s U H x y v u Q I rx ry h;obtain ⟨d,e,h1,h2,p1,p2,h3,q⟩:=h;exact (Qd (n:=20) I p1 p2 h3 (by omega) h1 h2 rx ry).2 X.prog X.w X.xe _ ⟨.bl _,H,I,rfl,q⟩
theorem Fc:OpD K false dEq (Yy K):=by intro H0 H x y d e z Q s rx ry ho k;unfold dEq at ho;split at ho<;>cases ho;rename_i h;exact ⟨d,e,rx.mono s,ry.mono s,h.1,h.2.1,h.2.2,k _ H (.pure s (.mkBl _))⟩
theorem Zw:OpD K false dNe (Yx K):=by intro H0 H x y d e z Q s rx ry ho k;unfold dNe at ho;split at ho<;>cases ho;rename_i h;exact ⟨d,e,rx.mono s,ry.mono s,h.1,h.2.1,h.2.2,k _ H (.pure s (.mkBl _))⟩
theorem y00 (hu:X.A.units+64<cLine):OpR X (compareOp .In) (Bb X.K false):=by
 intro pins s U H x y v u Q I rx ry h;obtain ⟨p,xs,d,es,rfl,hp,hx,hes,pd,pe,hd,q⟩:=h;cases ry;rcases hp with hq | hq
 . obtain ⟨its,rv,pl,_⟩:=I.list (.of hq);refine SeqAt.in_listAt (hitD X.K H d) pl.isList (fun y hy=>L6 (A:=X.A) I (by omega) pd hx rx pe hes rv hd y (by simpa using hy)) ⟨.bl _,H,I,rfl,?_⟩;rw [show its.toArray.any (hitD X.K H d)=its.any (hitD X.K H d) by simp,Ae pe hes rv];simpa using q
 . obtain ⟨its,rv,pl,_⟩:=I.tuple (.of hq);refine SeqAt.in_tupleAt (hitD X.K H d) pl (fun y hy=>L6 (A:=X.A) I (by omega) pd hx rx pe hes rv hd y (by simpa using hy)) ⟨.bl _,H,I,rfl,?_⟩;rw [show its.toArray.any (hitD X.K H d)=its.any (hitD X.K H d) by simp,Ae pe hes rv];simpa using q
theorem xM (hu:X.A.units+64<cLine):OpR X (compareOp .NotIn) (Bb X.K true):=by
 intro pins s U H x y v u Q I rx ry h;obtain ⟨p,xs,d,es,rfl,hp,hx,hes,pd,pe,hd,q⟩:=h;cases ry;rcases hp with hq | hq
 . obtain ⟨its,rv,pl,_⟩:=I.list (.of hq);refine SeqAt.notIn_listAt (hitD X.K H d) pl.isList (fun y hy=>L6 (A:=X.A) I (by omega) pd hx rx pe hes rv hd y (by simpa using hy)) ⟨.bl _,H,I,rfl,?_⟩;rw [show its.toArray.any (hitD X.K H d)=its.any (hitD X.K H d) by simp,Ae pe hes rv];simpa using q
 . obtain ⟨its,rv,pl,_⟩:=I.tuple (.of hq);refine SeqAt.notIn_tupleAt (hitD X.K H d) pl (fun y hy=>L6 (A:=X.A) I (by omega) pd hx rx pe hes rv hd y (by simpa using hy)) ⟨.bl _,H,I,rfl,?_⟩;rw [show its.toArray.any (hitD X.K H d)=its.any (hitD X.K H d) by simp,Ae pe hes rv];simpa using q
theorem od_inS {neg:Bool}:OpD K false (M9 neg) (Bb K neg):=by
 intro H0 H x y d e z Q s rx ry ho k;unfold M9 at ho;cases e<;>dsimp only at ho<;>first | cases ho | skip
 . split at ho<;>cases ho;rename_i es h;obtain ⟨a,xs,rfl,ha,ra⟩:=ry.tup;exact ⟨a,xs,d,es,rfl,.inr (s _ _ ha),rx.mono s,ra.mono s,h.1,h.2.1,h.2.2,k _ H (.pure s (.mkBl _))⟩
 . split at ho<;>cases ho;rename_i es h;obtain ⟨a,xs,rfl,ha,ra⟩:=ry.lst;exact ⟨a,xs,d,es,rfl,.inl (s _ _ ha),rx.mono s,ra.mono s,h.1,h.2.1,h.2.2,k _ H (.pure s (.mkBl _))⟩
end
noncomputable def M8:D->Option Key
 | .int i=>some (.inl i)
 | .str x=>some (.inr x)
 | _=>none
noncomputable def K7:List D->Option (List Key)
 | []=>some []
 | d::ds=>match M8 d,K7 ds with
  | some k,some ks=>some (k::ks)
  | _,_=>none
theorem Hv {K:Frag} {H:Hp} {d:D} {k:Key} {v:V} (h:M8 d=some k) (r:RD K H d v):v=kV k:=by
 cases d<;>simp only [M8] at h<;>first | cases h | skip
 . cases r.int;rfl
 . cases r.str;rfl
theorem Jn {K:Frag} {H:Hp}:∀{ds:List D} {ks:List Key} {xs:List V},K7 ds=some ks->RDs K H ds xs->xs=ks.map kV
 | [],ks,xs,h,r=>by simp only [K7] at h;cases h;simp only [RDs] at r;subst r;rfl
 | d::ds,ks,xs,h,r=>by simp only [RDs] at r;obtain ⟨x,xs,rfl,r1,r2⟩:=r;simp only [K7] at h;split at h<;>cases h;rename_i k ks h1 h2;rw [Hv h1 r1,Jn h2 r2];rfl
def ROp (K:Frag) (H:Hp):Option D->Option V->Prop
 | some z,w=>∃v,w=some v/\RD K H z v
 | none,w=>w=none
section
variable {κ:Type} [DecidableEq κ]
noncomputable def O2 (ks:List κ) (ds:List D) (k:κ):Option D:=((ks.zip ds).find? fun kv=>decide (kv.1=k)).map (·.2)
theorem Hu {K:Frag} {H:Hp} (k:κ):∀{ks:List κ} {ds:List D} {xs:List V},ks.length=xs.length->RDs K H ds xs->ROp K H (O2 ks ds k) (u7 (ks.zip xs) k)
 | [],ds,xs,_,_=>by simp [O2,u7,ROp]
 | k'::ks,[],xs,h,r=>by simp only [RDs] at r;subst r;simp at h
 | k'::ks,d::ds,xs,h,r=>by
  simp only [RDs] at r;obtain ⟨x,xs,rfl,r1,r2⟩:=r;have ih:=Hu k (by simpa using h) r2 (ks:=ks);simp only [O2,u7,List.zip_cons_cons,List.find?_cons] at ih ⊢;by_cases e:k'=k
  . simp only [e,decide_true];exact ⟨x,rfl,r1⟩
  . simp only [e,decide_false];exact ih
noncomputable def C3 (ks:List κ) (k:κ):List κ:=if k∈ks then ks else ks++[k]
noncomputable def m8 {β:Type} (ks:List κ) (ds:List β) (k:κ) (d:β):List β:=if k∈ks then List.zipWith (fun k' d'=>if k'=k then d else d') ks ds else ds++[d]
theorem Um (k:κ) (v:V) {ks:List κ} {xs:List V} (hl:ks.length=xs.length):v5 (ks.zip xs) k v=(C3 ks k).zip (m8 ks xs k v)/\(C3 ks k).length=(m8 ks xs k v).length:=by
 have any:∀(ks:List κ) (xs:List V),ks.length=xs.length->((ks.zip xs).any fun kv=>decide (kv.1=k))=decide (k∈ks):=by
  intro ks;induction ks with
  | nil=>intro xs _;simp
  | cons k' ks ih=>
   intro xs h
   cases xs with
   | nil=>simp at h
   | cons x xs=>
    simp only [List.zip_cons_cons,List.any_cons]
    rw [ih xs (by simpa using h)]
    by_cases e:k'=k
    . simp [e]
    . by_cases m:k∈ks<;>simp [e,m,Ne.symm e]
 have mp:∀(ks:List κ) (xs:List V),ks.length=xs.length->(ks.zip xs).map (fun kv=>if kv.1=k then (kv.1,v) else kv)=ks.zip (List.zipWith (fun k' d'=>if k'=k then v else d') ks xs):=by
  intro ks;induction ks with
  | nil=>intro xs _;simp
  | cons k' ks ih=>
   intro xs h
   cases xs with
   | nil=>simp at h
   | cons x xs=>
    simp only [List.zip_cons_cons,List.map_cons,List.zipWith_cons_cons]
    rw [ih xs (by simpa using h)]
    by_cases e:k'=k<;>simp [e]
 unfold v5 C3 m8;rw [any ks xs hl];by_cases m:k∈ks
 . rw [if_pos (by simpa using m),if_pos m,if_pos m];exact ⟨mp ks xs hl,by simp [hl]⟩
 . rw [if_neg (by simpa using m),if_neg m,if_neg m];exact ⟨by rw [List.zip_append hl];rfl,by simp [hl]⟩
theorem Ht {K:Frag} {H:Hp} (k:κ) {d:D} {v:V} (rv:RD K H d v) {ks:List κ} {ds:List D} {xs:List V} (r:RDs K H ds xs):RDs K H (m8 ks ds k d) (m8 ks xs k v):=by
 have zw:∀(ks:List κ) (ds:List D) (xs:List V),RDs K H ds xs->RDs K H (List.zipWith (fun k' d'=>if k'=k then d else d') ks ds) (List.zipWith (fun k' d'=>if k'=k then v else d') ks xs):=by
  intro ks;induction ks with
  | nil=>intro ds xs _;simp [RDs]
  | cons k' ks ih=>
   intro ds xs r
   cases ds with
   | nil=>simp only [RDs] at r;subst r;simp [RDs]
   | cons d' ds=>
    simp only [RDs] at r
    obtain ⟨x,xs,rfl,r1,r2⟩:=r
    simp only [List.zipWith_cons_cons]
    refine .cons ?_ (ih ds xs r2)
    by_cases e:k'=k
    . rw [if_pos e,if_pos e];exact rv
    . rw [if_neg e,if_neg e];exact r1
 unfold m8;by_cases m:k∈ks
 . rw [if_pos m,if_pos m];exact zw ks ds xs r
 . rw [if_neg m,if_neg m];exact r.append (.one rv)
end
noncomputable def O1:D->D->Option (Option D)
 | .dk ks ds,k=>(M8 k).map fun k=>O2 ks ds k
 | .dt ks ds,.tup es=>(K7 es).map fun k=>O2 ks ds k
 | _,_=>none
theorem Ta {K:Frag} {H:Hp} {d k:D} {x y:V} {o:Option D} (h:O1 d k=some o) (rx:RD K H d x) (ry:RD K H k y) :
  ∃a w,x=.ref a/\DGet H a y w/\ROp K H o w:=by
 cases d<;>simp only [O1] at h<;>first | cases h | skip
 . rename_i ks ds;obtain ⟨a,xs,rfl,ha,hl,rs⟩:=rx.dk;cases hk:M8 k with
   | none=>rw [hk] at h;cases h
   | some k'=>
    rw [hk] at h
    have h:O2 ks ds k'=o:=by simpa using h
    subst h
    cases Hv hk ry
    exact ⟨a,_,rfl,DGet.k ha,Hu k' hl rs⟩
 . rename_i ks ds;cases k<;>simp only [O1] at h<;>first | cases h | skip
   rename_i es;obtain ⟨a,xs,rfl,ha,hl,rs⟩:=rx.dt;obtain ⟨b,ys,rfl,hb,rb⟩:=ry.tup;cases hk:K7 es with
   | none=>rw [hk] at h;cases h
   | some k'=>
    rw [hk] at h
    have h:O2 ks ds k'=o:=by simpa using h
    subst h
    have e:=Jn hk rb
    subst e
    exact ⟨a,_,rfl,DGet.t ha hb,Hu k' hl rs⟩
noncomputable def Mi (neg:Bool):D->D->Option D:=fun k d=>(O1 d k).map fun o=>.bl (if neg then !o.isSome else o.isSome)
noncomputable def Ba (neg:Bool):R2:=fun y x H Q=>∃a w,x=.ref a/\DGet H a y w/\Q (.bl (if neg then !w.isSome else w.isSome)) H
noncomputable def Mh:D->D->Option D:=fun d k=>(O1 d k).bind id
noncomputable def Mg:R2:=fun x y H Q=>∃a w,x=.ref a/\DGet H a y (some w)/\Q w H
noncomputable def B3:D->D->Option D
 | .lst ds,.int i=>atI ds i
 | .tup ds,.int i=>atI ds i
 | .scr ns,.int i=>(atI ns i).map D.int
 | .str z,.int i=>if z.length<=100000 then (atI z.cps.toList i).map fun c=>D.str ⟨#[c]⟩ else none
 | _,_=>none
theorem RDs.atI {K:Frag} {H:Hp} {ds:List D} {xs:List V} {i:Int} {d:D} (r:RDs K H ds xs) (h:L2.atI ds i=some d):∃v,L2.atI xs i=some v/\RD K H d v:=by
 unfold L2.atI at h ⊢;rw [<-r.length];cases q:ixN ds.length i with
 | none=>rw [q] at h;cases h
 | some j=>
  rw [q] at h
  exact r.get' h
theorem Sz {α β:Type} (f:α->β) (xs:List α) (i:Int):atI (xs.map f) i=(atI xs i).map f:=by
 unfold atI;rw [List.length_map];cases ixN xs.length i with
 | none=>rfl
 | some j=>simp
section
variable {X:Cx} {K:Frag}
theorem y04 (hu:X.A.units+64<cLine):OpR X (compareOp .In) (Ba false):=by intro pins s U H x y v u Q I rx ry h;obtain ⟨a,w,rfl,g,q⟩:=h;cases ry;exact y38 (by omega) I g rx fun s' I'=>⟨.bl w.isSome,H,I',rfl,by simpa using q⟩
theorem xL (hu:X.A.units+64<cLine):OpR X (compareOp .NotIn) (Ba true):=by intro pins s U H x y v u Q I rx ry h;obtain ⟨a,w,rfl,g,q⟩:=h;cases ry;exact wD (by omega) I g rx fun s' I'=>⟨.bl (!w.isSome),H,I',rfl,by simpa using q⟩
theorem qr {neg:Bool}:OpD K false (Mi neg) (Ba neg):=by
 intro H0 H x y d e z Q s rx ry ho k;unfold Mi at ho;cases ho':O1 e d with
 | none=>rw [ho'] at ho;cases ho
 | some o=>
  rw [ho'] at ho;cases ho
  obtain ⟨a,w,rfl,g,m⟩:=Ta ho' (ry.mono s) (rx.mono s)
  refine ⟨a,w,rfl,g,k _ H ?_⟩
  have e:w.isSome=o.isSome:=by
   cases o with
   | none=>rw [show w=none from m];rfl
   | some z=>obtain ⟨v,e,_⟩:=m;rw [e];rfl
  rw [e]
  exact .pure s (.mkBl _)
noncomputable def dIn (neg:Bool):D->D->Option D:=dOr (M9 neg) (Mi neg)
noncomputable def Mf (K:Frag) (neg:Bool):R2:=fun x y H Q=>Bb K neg x y H Q\/Ba neg x y H Q
theorem Bs (hu:X.A.units+64<cLine):OpR X (compareOp .In) (Mf X.K false):=(y00 hu).or (y04 hu)
theorem Ul (hu:X.A.units+64<cLine):OpR X (compareOp .NotIn) (Mf X.K true):=(xM hu).or (xL hu)
theorem S4 {neg:Bool}:OpD K false (dIn neg) (Mf K neg):=od_inS.or qr
theorem wd (hu:X.A.units+64<cLine):IxR X Mg:=by intro value slice pins s U H x y v u Q I rx ry h hs;obtain ⟨a,w,rfl,g,q⟩:=h;cases rx;exact tail_any (ops:=[.ref a,u]) (zO I g) PySem.F.slot_dict_getitem.lookup (yU (by omega) I g ry fun w' s3 I3 rw'=>⟨w,H,I3,rw',q⟩) hs
theorem qq:OpD K false Mh Mg:=by
 intro H0 H x y d e z Q s rx ry ho k;unfold Mh at ho;cases ho':O1 d e with
 | none=>rw [ho'] at ho;cases ho
 | some o=>
  rw [ho'] at ho
  have ho:o=some z:=ho
  subst ho
  obtain ⟨a,w,e0,g,m⟩:=Ta ho' rx ry
  obtain ⟨v,rfl,rv⟩:=m
  subst e0
  refine ⟨a,v,rfl,?_,k _ H (.pure s rv)⟩
  rcases g with ⟨kvs,kk,e1,e2,e3⟩ | ⟨kvs,kk,b,e1,e2,e3,e4⟩
  . refine .inl ⟨kvs,kk,?_,e2,e3⟩;rcases e1 with e1 | ⟨o,e1⟩
    . exact .inl (s _ _ e1)
    . exact .inr ⟨o,s _ _ e1⟩
  . refine .inr ⟨kvs,kk,b,?_,e2,s _ _ e3,e4⟩;rcases e1 with e1 | ⟨o,e1⟩
    . exact .inl (s _ _ e1)
    . exact .inr ⟨o,s _ _ e1⟩
theorem od_ixS:OpD K false B3 (rIx K):=by
 intro H0 H x y d e z Q s rx ry ho k;cases d<;>simp only [B3] at ho<;>first | cases ho | skip
 . -- a text
   cases e<;>simp only [B3] at ho<;>first | cases ho | skip
   cases rx.str;cases ry.int;split at ho
   . rename_i z' i hl;cases hc:atI z'.cps.toList i with
     | none=>rw [hc] at ho;cases ho
     | some c=>
      rw [hc] at ho;cases ho
      exact .inr (.inr ⟨z',i,c,rfl,rfl,Q8 hl,hc,k _ H (.pure s (.mkStr _))⟩)
   . cases ho
 . cases e<;>simp only [B3] at ho<;>first | cases ho | skip
   obtain ⟨a,xs,rfl,ha,ra⟩:=rx.tup;cases ry.int;obtain ⟨v,hv,rv⟩:=ra.atI ho;exact .inr (.inl ⟨a,xs,_,v,rfl,rfl,.of (s _ _ ha),hv,k _ H (.pure s rv)⟩)
 . cases e<;>simp only [B3] at ho<;>first | cases ho | skip
   obtain ⟨a,xs,rfl,ha,ra⟩:=rx.lst;cases ry.int;obtain ⟨v,hv,rv⟩:=ra.atI ho;exact .inl ⟨a,xs,_,v,rfl,rfl,.of (s _ _ ha),hv,k _ H (.pure s rv)⟩
 . cases e<;>simp only [B3] at ho<;>first | cases ho | skip
   rename_i ns i;cases ry.int;obtain ⟨a,rfl,ha⟩:=(rx.mono s).scr;cases hc:atI ns i with
   | none=>rw [hc] at ho;cases ho
   | some c=>
    rw [hc] at ho;cases ho
    exact .inl ⟨a,_,i,.int c,rfl,rfl,ha,by rw [Sz,hc];rfl,k _ H (.pure s (.mkInt _))⟩
noncomputable def dIx:D->D->Option D:=dOr B3 Mh
noncomputable def Yw (K:Frag):R2:=fun x y H Q=>rIx K x y H Q\/Mg x y H Q
theorem y3n (hu:X.A.units+64<cLine):IxR X (Yw X.K):=ix_seq.or (wd hu)
theorem y06:OpD K false dIx (Yw K):=od_ixS.or qq
end
structure QE (X:Cx) (EX:XW) (fr:Bool) (e:Expr) (f:DE->R D):Prop where
 h:PE X e (TEd X.K EX fr f)
structure QT (X:Cx) (EX:XW) (e:Expr) (t:DE->R Bool):Prop where
 h:PT X e (TTd X.K EX t)
structure QW (X:Cx) (EX:XW) (e:Expr) (t:DE->R Bool):Prop where
 h:PW X e (TTd X.K EX t)
structure QA (X:Cx) (EX:XW) (es:List Expr) (f:DE->R (List D)):Prop where
 h:PA X es (TAd X.K EX f)
structure QI (X:Cx) (EX:XW) (kp:Bool) (tg e:Expr) (f:DE->R (List D)):Prop where
 h:PI X tg e (TId X.K EX kp f)
structure QG (X:Cx) (tg:Expr) (t:Tg):Prop where
 h:PG X tg (TGd X.K t)
structure QGs (X:Cx) (ts:List Expr) (is:List Nat):Prop where
 h:PGs X ts (Ci is)
structure QS (X:Cx) (EX:XW) (fr:Bool) (st:Stmt) (g:DS->SR):Prop where
 h:PS X st (TSd X.K EX fr g)
structure QB (X:Cx) (EX:XW) (fr:Bool) (sts:List Stmt) (g:DS->SR):Prop where
 h:PSs X sts (TSd X.K EX fr g)
structure QCT (X:Cx) (EX:XW) (ops:List CmpOp) (rs:List Expr) (g:D->DE->R Bool):Prop where
 h:PChT X ops rs (W9 X.K EX g)
section
variable {X:Cx} {EX:XW} {fr:Bool} {a b c e:Expr} {es rest:List Expr} {fa fb:DE->R D} {fs:DE->R (List D)} {t u:DE->R Bool} {pos p:Pos} {x:Str}
theorem PA.imp {es:List Expr} {t t':TA} (h:PA X es t) (hi:∀U H Q,t' U H Q->t U H Q):PA X es t':=fun pos pins s U H Q I q=>h pos pins s U H Q I (hi U H Q q)
theorem PW.imp {e:Expr} {t t':TT} (h:PW X e t) (hi:∀U H Q,t' U H Q->t U H Q):PW X e t':=fun wh pins s U H Q I q=>h wh pins s U H Q I (hi U H Q q)
theorem PI.imp {tg e:Expr} {t t':TI} (h:PI X tg e t) (hi:∀U H Q,t' U H Q->t U H Q):PI X tg e t':=fun pins s U H Q I q=>h pins s U H Q I (hi U H Q q)
theorem PS.imp {st:Stmt} {t t':TS} (h:PS X st t) (hi:∀D U H,t' D U H->t D U H):PS X st t':=fun pins s U H D I q=>h pins s U H D I (hi D U H q)
theorem PSs.imp {st:List Stmt} {t t':TS} (h:PSs X st t) (hi:∀D U H,t' D U H->t D U H):PSs X st t':=fun pins s U H D I q=>h pins s U H D I (hi D U H q)
theorem QE.wk {f:DE->R D} (h:QE X EX true e f):QE X EX false e f:=⟨h.h.imp fun _ _ _ q=>q.weak⟩
theorem qv (i:Nat) {x:Str} {pos:Pos} (hN:X.N[i]?=some x:=by rfl) (hv:Vis X.env.scope x:=by first | exact Or.inl rfl | exact Or.inr (Or.inl rfl) | exact Or.inr (Or.inr rfl)) (hd:(x==("__debug__":Str))=false:=by decide)
 (hcd:(x==("__classdict__":Str))=false:=by decide):QE X EX false (.Name x pos) (a9 i):=⟨(Qp hN hv hd hcd).imp fun U H Q q=>jk q⟩
theorem c7 {i j pos}:QE X EX false (.Constant (.int i) j pos) (eC (.int i)):=⟨pe_int.imp fun U H Q q=>Te (fun _=>.mkInt i) q⟩
theorem Az {i j pos}:QE X EX false (.Constant (.bool i) j pos) (eC (.bl i)):=⟨pe_bl.imp fun U H Q q=>Te (fun _=>.mkBl i) q⟩
theorem g8 {op:Operator} {r:R2} {o:D->D->Option D} (ho:OpR X (binaryOp op) r) (od:OpD X.K fr o r) (ha:QE X EX false a fa) (hb:QE X EX false b fb):QE X EX fr (.BinOp a op b pos) (eOp o fa fb):=⟨(jE ho ha.h hb.h).imp fun _ _ _ q=>Bf od q⟩
theorem V4 {op:UnaryOp} {r:V->Hp->VK->Prop} {o:D->Option D} (ho:UnR X (unaryOp op) r) (od:UnD X.K fr o r) (ha:QE X EX false a fa):QE X EX fr (.UnaryOp op a pos) (eUn o fa):=⟨(jD ho ha.h).imp fun _ _ _ q=>y3e od q⟩
theorem S3 {op:CmpOp} {r:R2} {o:D->D->Option D} (ho:OpR X (compareOp op) r) (od:OpD X.K false o r) (ha:QE X EX false a fa) (hb:QE X EX false b fb) (hm:behindInMarks op b=false) :
 QE X EX false (.Compare a [op] [b] pos) (eOp o fa fb):=⟨(wI ho ha.h hb.h hm).imp fun _ _ _ q=>Bf od q⟩
theorem y3o {r:R2} {o:D->D->Option D} (ho:IxR X r) (od:OpD X.K false o r) (ha:QE X EX false a fa) (hb:QE X EX false b fb) (hs:Jb b:=by exact fun _ _=>rfl):QE X EX false (.Subscript a b pos) (eOp o fa fb):=⟨(jz ho ha.h hb.h hs).imp fun _ _ _ q=>Bf od q⟩
theorem b9:QA X EX [] b8:=⟨pa_nil.imp fun _ _ _ q=>Nn q⟩
theorem b7 (ha:QE X EX false e fa) (hr:QA X EX es fs) (hs:starEach (e::es) X.env=(false,eval e X.env)::starEach es X.env:=by rfl):QA X EX (e::es) (b6 fa fs):=⟨(L8 ha.h hr.h hs).imp fun _ _ _ q=>Gp q⟩
theorem m9 {x1} (h:QA X EX es fs):QE X EX false (.Tuple es x1 pos) (k0 fs):=⟨(qQ h.h).imp fun _ _ _ q=>jj q⟩
theorem D4 (h:QA X EX es fs):QE X EX true (.List es pos) (x4 fs):=⟨(qP h.h).imp fun _ _ _ q=>ji q⟩
theorem y07 (hc:QT X EX c t) (ha:QE X EX fr a fa) (hb:QE X EX fr b fb):QE X EX fr (.IfExp c a b pos) (eIf t fa fb):=⟨(yg hc.h ha.h hb.h).imp fun _ _ _ q=>y3f q⟩
theorem Br (ha:QE X EX false a fa) (hb:QE X EX false (.BoolOp .And (b::rest) pos) fb):QE X EX false (.BoolOp .And (a::b::rest) pos) (N6 fa fb):=⟨(wB ha.h hb.h).imp fun _ _ _ q=>jg q⟩
theorem Nl {op} (h:QE X EX false a fa):QE X EX false (.BoolOp op [a] pos) fa:=⟨qT h.h⟩
noncomputable def C1:D->Option Bool
 | .bl b=>some b
 | .int i=>some (i != 0)
 | .non=>some false
 | .str z=>if z.length<=100000 then some ((z.length:Int) != 0) else none
 | .lst ds=>some (!ds.isEmpty)
 | .tup ds=>some (!ds.isEmpty)
 | .dk ks _=>some (!ks.isEmpty)
 | _=>none
theorem Ky {α β:Type} {xs:List α} {ys:List β} (h:xs.length=ys.length):xs.isEmpty=ys.isEmpty:=by cases xs<;>cases ys<;>first | rfl | simp at h
theorem Qb {K:Frag}:Eb K C1 K8:=by
 intro H0 H x d b Q s rx ht q;cases d<;>simp only [C1] at ht<;>first | cases ht | skip
 . cases rx.non;exact q
 . cases rx.bl;exact q
 . cases rx.int;exact q
 . split at ht<;>cases ht;rename_i h;cases rx.str;exact ⟨Q8 h,q⟩
 . obtain ⟨p,xs,rfl,hp,r⟩:=rx.tup;unfold K8;dsimp only;rw [Vs (s _ _ hp)];rw [Ky r.length] at q;exact q
 . obtain ⟨p,xs,rfl,hp,r⟩:=rx.lst;unfold K8;dsimp only;rw [Vt (s _ _ hp)];rw [Ky r.length] at q;exact q
 . rename_i ks es;obtain ⟨p,xs,rfl,hp,hl,r⟩:=rx.dk;unfold K8;dsimp only;have e:y3 H p=none:=by unfold y3;rw [s _ _ hp]
   rw [e];dsimp only;rw [s _ _ hp];dsimp only;rw [Ky (show ks.length=(List.zip ks xs).length by rw [List.length_zip,<-hl,Nat.min_self])] at q;exact q
theorem qp (ha:QE X EX false a fa):QE X EX false (.UnaryOp .Not a pos) (eUn (fun d=>(C1 d).map fun b=>.bl (!b)) fa):=⟨(wA ha.h).imp fun _ _ _ q=>qB Qb q⟩
theorem W8 (ha:QE X EX false a fa) (he:∀whole,isTrue a X.env whole=(do let v <-whole;standAt a.pos;holding [v] (truthy v)):=by intro _;rfl):QT X EX a (i6 C1 fa):=⟨(qH ha.h he).imp fun _ _ _ q=>jf Qb q⟩
theorem D3 {op:CmpOp} {r:R2} {o:D->D->Option D} (ho:OpR X (compareOp op) r) (od:OpD X.K false o r) (ha:QE X EX false a fa) (hb:QE X EX false b fb) (hm:behindInMarks op b=false) :
 QT X EX (.Compare a [op] [b] pos) (i6 asB (eOp o fa fb)):=⟨(wC ho ha.h hb.h hm).imp fun _ _ _ q=>je od q⟩
theorem QW.pt (h:QW X EX a t):QT X EX a t:=⟨h.h.pt⟩
theorem O0 (ha:QT X EX a t):QT X EX (.UnaryOp .Not a pos) (D1 t):=⟨(qU ha.h).imp fun _ _ _ q=>qC q⟩
theorem Gm (ha:QT X EX a t):QW X EX (.BoolOp .And [a] pos) t:=⟨wK ha.h⟩
theorem Bq (ha:QT X EX a t):QW X EX (.BoolOp .Or [a] pos) t:=⟨qW ha.h⟩
theorem Bp (ha:QT X EX a t) (hb:QW X EX (.BoolOp .And (b::rest) pos) u):QW X EX (.BoolOp .And (a::b::rest) pos) (N7 t u):=⟨(qV ha.h hb.h).imp fun _ _ _ q=>qD q⟩
theorem Ay (ha:QT X EX a t) (hb:QW X EX (.BoolOp .Or (b::rest) pos) u):QW X EX (.BoolOp .Or (a::b::rest) pos) (bOr t u):=⟨(jG ha.h hb.h).imp fun _ _ _ q=>jh q⟩
theorem PChT.imp {ops:List CmpOp} {rs:List Expr} {t t':V->TT} (h:PChT X ops rs t) (hi:∀x U H Q,t' x U H Q->t x U H Q):PChT X ops rs t':=fun pos pins s U H x v Q I r q=>h pos pins s U H x v Q I r (hi x U H Q q)
variable {gt:D->DE->R Bool} {op op':CmpOp} {ops:List CmpOp} {r:R2} {o:D->D->Option D} {r':Expr} {rs:List Expr}
theorem Sy (ho:OpR X (compareOp op) r) (od:OpD X.K false o r) (hb:QE X EX false b fb):QCT X EX [op] [b] (Z1 o fb):=⟨(yP ho hb.h).imp fun _ _ _ _ q=>wo od q⟩
theorem Hs (ho:OpR X (compareOp op) r) (od:OpD X.K false o r) (hb:QE X EX false b fb) (hr:QCT X EX (op'::ops) (r'::rs) gt):QCT X EX (op::op'::ops) (b::r'::rs) (T4 o fb gt):=⟨(yO ho hb.h hr.h).imp fun _ _ _ _ q=>wn od q⟩
theorem Nk {op₁ op₂:CmpOp} {r₁ r₂:Expr} (ha:QE X EX false a fa) (hr:QCT X EX (op₁::op₂::ops) (r₁::r₂::rs) gt) (hm:lastMarks (op₁::op₂::ops) (r₁::r₂::rs)=false:=by with_unfolding_all rfl) :
 QT X EX (.Compare a (op₁::op₂::ops) (r₁::r₂::rs) pos) (V9 fa gt):=⟨(qG ha.h hr.h hm).imp fun _ _ _ q=>qA q⟩
theorem C0 {id:String} {rr:List V->Hp->VK->Prop} {m:List D->Option D} (hc:CallR X (.builtin id) rr) (od:y0 X.K fr m rr) (hg:Gl X x) (hm:X.mg x=none) (hv:bootBuiltins x=some (.builtin id)) (ha:QA X EX (e::es) fs) (hn:x≠"__name__":=by decide) (hdb:(x==("__debug__":Str))=false:=by decide)
 (he:starEach (e::es) X.env=(false,eval e X.env)::starEach es X.env:=by rfl) (hpl:(backTo pos (starEach es X.env)).any (·.1)=false:=by rfl):QE X EX fr (.Call (.Name x p) (e::es) [] pos) (eCB m fs):=⟨(Jv hc hg hm hv ha.h hn hdb he hpl).imp fun _ _ _ q=>Be od q⟩
theorem x8 {T:String} {rr:List V->Hp->VK->Prop} {m:List D->Option D} (hc:CallR X (.type T) rr) (od:y0 X.K fr m rr) (hg:Gl X x) (hm:X.mg x=none) (hv:bootBuiltins x=some (.type T)) (ha:QA X EX (e::es) fs) (hn:x≠"__name__":=by decide) (hdb:(x==("__debug__":Str))=false:=by decide)
 (he:starEach (e::es) X.env=(false,eval e X.env)::starEach es X.env:=by rfl) (hpl:(backTo pos (starEach es X.env)).any (·.1)=false:=by rfl):QE X EX fr (.Call (.Name x p) (e::es) [] pos) (eCB m fs):=⟨(Vw hc hg hm hv ha.h hn hdb he hpl).imp fun _ _ _ q=>Be od q⟩
theorem j6 {ps:List Str} {k j n kk:Nat} {gg:DS->SR} (L:Lnd X EX) (G:j9 X.prog X.w X.K X.mg X.base x ps k (spD X.K X.mg fr (mOf fr n kk gg) n)) (hr:Room j X.A) (hg:Gl X x) (ha:QA X EX (e::es) fs) (hkj:k<=j:=by omega) (hdb:(x==("__debug__":Str))=false:=by decide)
 (he:starEach (e::es) X.env=(false,eval e X.env)::starEach es X.env:=by rfl) (hpl:(backTo pos (starEach es X.env)).any (·.1)=false:=by rfl):QE X EX fr (.Call (.Name x p) (e::es) [] pos) (g9 (mOf fr n kk gg) fs):=⟨(we G L.on hr hg ha.h hkj hdb he hpl).imp fun _ _ _ q=>qx wj (fun x H z=>by obtain ⟨C,hC⟩:=L.nm x H z;exact ⟨C,hC,fun od xf=>⟨x,z,hC,xf⟩⟩) q⟩
end
noncomputable def B8:D->String
 | .non=>"NoneType"
 | .bl _=>"bool"
 | .int _=>"int"
 | .str _=>"str"
 | .tup _=>"tuple"
 | .lst _=>"list"
 | .dk _ _=>"dict"
 | .dt _ _=>"dict"
 | .dn _ _=>"?"
 | .scr _=>"?"
 | .exc _ _=>"?"
noncomputable def r8 (c:String):D->Option D:=fun d=>if D5 c=true/\B8 d≠"?" then some (.bl (C7 (B8 d) c)) else none
theorem wc {K:Frag} {H:Hp} {d:D} {v:V} (h:B8 d≠"?") (r:RD K H d v):G4 H v=some (B8 d):=by
 cases d
 . cases r.non;rfl
 . cases r.bl;rfl
 . cases r.int;rfl
 . cases r.str;rfl
 . obtain ⟨a,xs,rfl,ha,_⟩:=r.tup;simp only [G4,ha,B8]
 . obtain ⟨a,xs,rfl,ha,_⟩:=r.lst;simp only [G4,ha,B8]
 . obtain ⟨a,xs,rfl,ha,_⟩:=r.dk;simp only [G4,ha,B8]
 . obtain ⟨a,xs,rfl,ha,_⟩:=r.dt;simp only [G4,ha,B8]
 . exact absurd rfl h
 . exact absurd rfl h
 . exact absurd rfl h
theorem y08 {K:Frag} {EX:XW} {U:St} {H:Hp} {Q:VK} {c:String} {f:DE->R D} (h:TEd K EX false (eUn (r8 c) f) U H Q):tCB Bh (G5 (TEd K EX false f) (G5 (tC (.ty c)) N1)) U H Q:=by
 obtain ⟨sx,ρ,H0,s,e,h⟩:=h;unfold eUn at h;rw [Rk.bind] at h;refine TEd.go sx s e h fun d h v H1 H1' s1 e1 r1=>?_
 obtain ⟨z,hz,h⟩:=h.of;unfold r8 at hz;split at hz<;>cases hz;rename_i hc;show Bh [v,.ty c] H1 Q;rw [qE];refine ⟨hc.1,?_⟩;rw [wc hc.2 (r1.mono e1.2.1)];exact h _ H1 (.val s1 e1 (.mkBl _))
theorem W7 {X:Cx} {EX:XW} {a b:Expr} {pos p:Pos} {x c:_} {f:DE->R D} (hg:Gl X x) (hm:X.mg x=none) (hv:bootBuiltins x=some (.builtin "isinstance")) (ha:QE X EX false a f) (hb:PE X b (tC (.ty c))) (hn:x≠"__name__":=by decide) (hdb:(x==("__debug__":Str))=false:=by decide)
 (he:starEach [a,b] X.env=(false,eval a X.env)::starEach [b] X.env:=by rfl) (hpl:(backTo pos (starEach [b] X.env)).any (·.1)=false:=by rfl) (hs:starEach [b] X.env=(false,eval b X.env)::starEach [] X.env:=by rfl) :
 QE X EX false (.Call (.Name x p) [a,b] [] pos) (eUn (r8 c) f):=⟨(Jv jp hg hm hv (L8 ha.h (L8 hb pa_nil hs) he) hn hdb he hpl).imp fun _ _ _ q=>y08 q⟩
noncomputable def p8:List D->Option (List Int)
 | []=>some []
 | .int i::ds=>(p8 ds).map (i::·)
 | _::_=>none
noncomputable def J2:List D->Option (List Bool)
 | []=>some []
 | .bl i::ds=>(J2 ds).map (i::·)
 | _::_=>none
theorem Ah:∀(ns:List Int),p8 (ns.map D.int)=some ns
 | []=>rfl
 | n::ns=>by simp [p8,Ah ns]
theorem Xa:∀(ns:List Bool),J2 (ns.map D.bl)=some ns
 | []=>rfl
 | n::ns=>by simp [J2,Xa ns]
theorem U3 {K:Frag} {H:Hp}:∀{ds:List D} {ns:List Int} {xs:List V},p8 ds=some ns->RDs K H ds xs->xs=ns.map V.int
 | [],ns,xs,h,r=>by simp only [p8] at h;cases h;simp only [RDs] at r;subst r;rfl
 | d::ds,ns,xs,h,r=>by
  simp only [RDs] at r;obtain ⟨x,xs,rfl,r1,r2⟩:=r;cases d<;>simp only [p8] at h<;>first | cases h | skip
  cases q:p8 ds with
  | none=>rw [q] at h;cases h
  | some ms=>
   rw [q] at h;cases h
   cases r1.int
   rw [U3 q r2];rfl
theorem Wm {K:Frag} {H:Hp}:∀{ds:List D} {ns:List Bool} {xs:List V},J2 ds=some ns->RDs K H ds xs->xs=ns.map V.bl
 | [],ns,xs,h,r=>by simp only [J2] at h;cases h;simp only [RDs] at r;subst r;rfl
 | d::ds,ns,xs,h,r=>by
  simp only [RDs] at r;obtain ⟨x,xs,rfl,r1,r2⟩:=r;cases d<;>simp only [J2] at h<;>first | cases h | skip
  cases q:J2 ds with
  | none=>rw [q] at h;cases h
  | some ms=>
   rw [q] at h;cases h
   cases r1.bl
   rw [Wm q r2];rfl
noncomputable def o8:List D->Option D
 | [.lst ds]=>some (.int ds.length)
 | [.tup ds]=>some (.int ds.length)
 | [.dk ks _]=>some (.int ks.length)
 | [.scr ns]=>some (.int ns.length)
 | [.str z]=>if z.length<=100000 then some (.int z.length) else none
 | _=>none
noncomputable def V3:List D->Option D
 | [.lst ds]=>(p8 ds).map fun ns=>.int ns.sum
 | [.tup ds]=>(p8 ds).map fun ns=>.int ns.sum
 | _=>none
noncomputable def M7:List D->Option D
 | [.lst ds]=>(J2 ds).map fun bs=>.bl (bs.all id)
 | _=>none
noncomputable def y09:List D->Option D
 | [.int i,.int j]=>some (.int (if j > i then j else i))
 | _=>none
noncomputable def y0a:List D->Option D
 | [.int i,.int j]=>some (.int (if j<i then j else i))
 | _=>none
noncomputable def M6:List D->Option D
 | [.int i]=>some (.int i)
 | [.bl b]=>some (.int (if b then 1 else 0))
 | _=>none
noncomputable def G3:List D->Option D
 | [.lst ds]=>some (.lst ds)
 | [.tup ds]=>some (.lst ds)
 | [.scr ns]=>some (.lst (ns.map .int))
 | _=>none
noncomputable def D9:List D->Option D
 | [.lst ds]=>some (.tup ds)
 | [.tup ds]=>some (.tup ds)
 | _=>none
section
variable {X:Cx} {K:Frag}
theorem RDs.uno {H:Hp} {d:D} {xs:List V} (h:RDs K H [d] xs):∃x,xs=[x]/\RD K H d x:=by simp only [RDs] at h;obtain ⟨x,r,rfl,h1,rfl⟩:=h;exact ⟨x,rfl,h1⟩
theorem RDs.duo {H:Hp} {d e:D} {xs:List V} (h:RDs K H [d,e] xs):∃x y,xs=[x,y]/\RD K H d x/\RD K H e y:=by simp only [RDs] at h;obtain ⟨x,r,rfl,h1,y,r',rfl,h2,rfl⟩:=h;exact ⟨x,y,rfl,h1,h2⟩
def Nj (K:Frag):List V->Hp->VK->Prop:=fun xs H Q=>(∃p ys,xs=[.ref p]/\(SqL K H p ys\/SqT K H p ys)/\Q (.int ys.length) H)\/(∃a kvs,xs=[V.ref a]/\H a=some (.dK kvs)/\Q (.int kvs.length) H)\/∃z,xs=[.str z]/\z.length<=sizeLine/\Q (.int z.length) H
theorem qo:CallR X (.builtin "len") (Nj X.K):=call_len_seq.or (call_lenD.or zaw)
theorem qm:y0 K false o8 (Nj K):=by
 intro H0 H xs ds z Q s r ho k;unfold o8 at ho;split at ho<;>first | cases ho | skip
 . obtain ⟨x,rfl,q1⟩:=r.uno;obtain ⟨a,ys,rfl,ha,ra⟩:=q1.lst;exact .inl ⟨a,ys,rfl,.inl (.of (s _ _ ha)),by rw [<-ra.length];exact k _ H (.pure s (.mkInt _))⟩
 . obtain ⟨x,rfl,q1⟩:=r.uno;obtain ⟨a,ys,rfl,ha,ra⟩:=q1.tup;exact .inl ⟨a,ys,rfl,.inr (.of (s _ _ ha)),by rw [<-ra.length];exact k _ H (.pure s (.mkInt _))⟩
 . obtain ⟨x,rfl,q1⟩:=r.uno;obtain ⟨a,ys,rfl,ha,hl,ra⟩:=q1.dk;refine .inr (.inl ⟨a,_,rfl,s _ _ ha,?_⟩);rw [List.length_zip,<-hl,Nat.min_self];exact k _ H (.pure s (.mkInt _))
 . obtain ⟨x,rfl,q1⟩:=r.uno;obtain ⟨a,rfl,ha⟩:=(q1.mono s).scr;exact .inl ⟨a,_,rfl,.inl ha,by rw [List.length_map];exact k _ H (.pure s (.mkInt _))⟩
 . split at ho<;>cases ho;rename_i h;obtain ⟨x,rfl,q1⟩:=r.uno;cases q1.str;exact .inr (.inr ⟨_,rfl,Q8 h,k _ H (.pure s (.mkInt _))⟩)
theorem ql:y0 K false V3 Fk:=by
 intro H0 H xs ds z Q s r ho k;unfold V3 at ho;split at ho<;>first | cases ho | skip
 . obtain ⟨x,rfl,q1⟩:=r.uno;obtain ⟨a,ys,rfl,ha,ra⟩:=q1.lst;rename_i es;cases q:p8 es with
   | none=>rw [q] at ho;cases ho
   | some ns=>
    rw [q] at ho;cases ho
    rw [Th]
    exact ⟨ns,by rw [<-U3 q ra];exact Vt (s _ _ ha),k _ H (.pure s (.mkInt _))⟩
 . obtain ⟨x,rfl,q1⟩:=r.uno;obtain ⟨a,ys,rfl,ha,ra⟩:=q1.tup;rename_i es;cases q:p8 es with
   | none=>rw [q] at ho;cases ho
   | some ns=>
    rw [q] at ho;cases ho
    rw [Th]
    exact ⟨ns,by rw [<-U3 q ra];exact Vs (s _ _ ha),k _ H (.pure s (.mkInt _))⟩
theorem qk:y0 K false M7 Fj:=by
 intro H0 H xs ds z Q s r ho k;unfold M7 at ho;split at ho<;>first | cases ho | skip
 obtain ⟨x,rfl,q1⟩:=r.uno;obtain ⟨a,ys,rfl,ha,ra⟩:=q1.lst;rename_i es;cases q:J2 es with
 | none=>rw [q] at ho;cases ho
 | some ns=>
  rw [q] at ho;cases ho
  rw [wu]
  exact ⟨ns,by rw [<-Wm q ra];exact .inl (s _ _ ha),k _ H (.pure s (.mkBl _))⟩
theorem Gk:y0 K false M6 No:=by
 intro H0 H xs ds z Q s r ho k;unfold M6 at ho;split at ho<;>first | cases ho | skip
 . obtain ⟨x,rfl,q1⟩:=r.uno;cases q1.int;exact k _ H (.pure s (.mkInt _))
 . obtain ⟨x,rfl,q1⟩:=r.uno;cases q1.bl;exact k _ H (.pure s (.mkInt _))
def Qa (K:Frag):List V->Hp->VK->Prop:=fun xs H Q=>∃p ys,xs=[.ref p]/\(SqL K H p ys\/SqT K H p ys)/\∀l,H l=none->Q (.ref l) (upd H l (.lst ys))
theorem Cz:CallR X (.type "list") (Qa X.K):=zax
theorem Cy:y0 K true G3 (Qa K):=by
 intro H0 H xs ds z Q s r ho k;have fin:∀{p:Addr} {ys:List V} {es:List D},RDs K H0 es ys->z=.lst es->H p=none->Q (.ref p) (upd H p (.lst ys)):=fun {p ys es} re e hp=>by subst e;refine k _ _ (.new s hp fun H' hH=>?_);simp only [OB];exact ⟨_,hH,re⟩
 unfold G3 at ho;split at ho<;>first | cases ho | skip
 . obtain ⟨x,rfl,q1⟩:=r.uno;obtain ⟨a,ys,rfl,ha,ra⟩:=q1.lst;exact ⟨a,ys,rfl,.inl (.of (s _ _ ha)),fun l hl=>fin ra rfl hl⟩
 . obtain ⟨x,rfl,q1⟩:=r.uno;obtain ⟨a,ys,rfl,ha,ra⟩:=q1.tup;exact ⟨a,ys,rfl,.inr (.of (s _ _ ha)),fun l hl=>fin ra rfl hl⟩
 . obtain ⟨x,rfl,q1⟩:=r.uno;obtain ⟨a,rfl,ha⟩:=(q1.mono s).scr;exact ⟨a,_,rfl,.inl ha,fun l hl=>fin (RDs.ofInts _) rfl hl⟩
def Sx (K:Frag):List V->Hp->VK->Prop:=fun xs H Q=>∃p ys,xs=[.ref p]/\((SqL K H p ys/\∀l,H l=none->Q (.ref l) (upd H l (.tup ys)))\/(SqT K H p ys/\Q (.ref p) H))
theorem T7:CallR X (.type "tuple") (Sx X.K):=z9a
theorem T6:y0 K false D9 (Sx K):=by
 intro H0 H xs ds z Q s r ho k;unfold D9 at ho;split at ho<;>first | cases ho | skip
 . obtain ⟨x,rfl,q1⟩:=r.uno;obtain ⟨a,ys,rfl,ha,ra⟩:=q1.lst;refine ⟨a,ys,rfl,.inl ⟨.of (s _ _ ha),fun l hl=>k _ _ (.val (Same.upd_new hl) (.new s hl) (.mkTup m7 (ra.mono (Same.upd_new (s.none hl)))))⟩⟩
 . obtain ⟨x,rfl,q1⟩:=r.uno;obtain ⟨a,ys,rfl,ha,ra⟩:=q1.tup;exact ⟨a,ys,rfl,.inr ⟨.of (s _ _ ha),k _ H (.pure s (.mkTup ha ra))⟩⟩
end
noncomputable def B2 {α:Type} (xs:List α) (lo hi:Option Int):List α:=(xs.drop (HT.sIx xs.length 0 lo)).take (HT.sIx xs.length xs.length hi - HT.sIx xs.length 0 lo)
noncomputable def dSl:D->Option Int->Option Int->Option D
 | .lst ds,lo,hi=>some (.lst (B2 ds lo hi))
 | .scr ns,lo,hi=>some (.lst ((B2 ns lo hi).map .int))
 | _,_,_=>none
noncomputable def TOd (K:Frag) (EX:XW) (f:DE->R (Option Int)):TO:=fun U H Q=>Same EX.hb H/\∃ρ H0,Same H0 H/\RE K H0 ρ U/\Rk EX.at (f ρ) fun o=>∀H',Same H H'->Q o H'
noncomputable def oNo:DE->R (Option Int):=fun _=>.ok none
noncomputable def oSo (f:DE->R D):DE->R (Option Int):=fun ρ=>(f ρ).bind fun d=>R.of (match d with | .int i=>some (some i) | _=>none)
noncomputable def eSl (o:D->Option Int->Option Int->Option D) (f:DE->R D) (fl fh:DE->R (Option Int)):DE->R D:=fun ρ=>(f ρ).bind fun d=>(fl ρ).bind fun lo=>(fh ρ).bind fun hi=>R.of (o d lo hi)
def SlD (K:Frag) (fr:Bool) (o:D->Option Int->Option Int->Option D) (r:V->Option Int->Option Int->Hp->VK->Prop):Prop:=∀(H0 H:Hp) (x:V) (d z:D) (lo hi:Option Int) (Q:VK),Same H0 H->RD K H0 d x->o d lo hi=some z->(∀v H',Out K fr H0 H z v H'->Q v H')->r x lo hi H Q
section
variable {X:Cx} {K:Frag} {EX:XW} {fr:Bool} {U:St} {H:Hp} {Q:VK}
structure QO (X:Cx) (EX:XW) (e:Option Expr) (f:DE->R (Option Int)):Prop where
 h:PO X e (TOd X.K EX f)
theorem PO.imp {e:Option Expr} {t t':TO} (h:PO X e t) (hi:∀U H Q,t' U H Q->t U H Q):PO X e t':=fun pins s U H Q I q=>h pins s U H Q I (hi U H Q q)
theorem Ax {e:Expr} {f:DE->R D} (he:QE X EX false e f):QO X EX (some e) (oSo f):=⟨(wF he.h).imp fun U H Q ⟨sx,ρ,H0,s,e,h⟩=>by
 unfold oSo at h;rw [Rk.bind] at h;refine TEd.go sx s e h fun d h v H1 H1' s1 e1 r1=>?_
 obtain ⟨o,ho,h⟩:=h.of;cases d<;>dsimp only at ho<;>first | cases ho | skip
 cases r1.int;exact ⟨_,rfl,h H1 s1⟩⟩
theorem y3p {o:D->Option Int->Option Int->Option D} {r:V->Option Int->Option Int->Hp->VK->Prop} {f:DE->R D} {fl fh:DE->R (Option Int)} (hs:SlD K fr o r) (h:TEd K EX fr (eSl o f fl fh) U H Q):tSl r (TEd K EX false f) (TOd K EX fl) (TOd K EX fh) U H Q:=by
 obtain ⟨sx,ρ,H0,s,e,h⟩:=h;unfold eSl at h;rw [Rk.bind] at h;refine TEd.go sx s e h fun d h v H1 H1' s1 e1 r1=>?_
 rw [Rk.bind] at h;refine ⟨sx.trans s1,ρ,H1',e1.2.1,e.mono e1.1,h.mono fun lo h H2 s2=>?_⟩;rw [Rk.bind] at h;refine ⟨(sx.trans s1).trans s2,ρ,H1',e1.2.1.trans s2,e.mono e1.1,h.mono fun hi h H3 s3=>?_⟩;obtain ⟨z,hz,h⟩:=h.of;exact hs H1' H3 v d z lo hi Q (e1.2.1.trans (s2.trans s3)) r1 hz fun w H4 o=>h w H4 (o.after (s1.trans (s2.trans s3)) (e1.grow (s2.trans s3)))
theorem RDs.cut {H:Hp} {ds:List D} {xs:List V} (r:RDs K H ds xs) (lo hi:Option Int):RDs K H (B2 ds lo hi) (R1 xs lo hi):=by unfold B2 R1;rw [<-r.length];exact (r.drop _).take _
theorem Sw:SlD K true dSl (Zh K):=by
 intro H0 H x d z lo hi Q s r ho k;cases d<;>simp only [dSl] at ho<;>first | cases ho | skip
 . obtain ⟨a,xs,rfl,ha,ra⟩:=r.lst;refine ⟨a,xs,rfl,.of (s _ _ ha),fun p hp=>k _ _ (.new s hp fun H' hH=>?_)⟩;simp only [OB];exact ⟨_,hH,ra.cut lo hi⟩
 . rename_i ns;obtain ⟨a,rfl,ha⟩:=(r.mono s).scr;refine ⟨a,_,rfl,ha,fun p hp=>k _ _ (.new s hp fun H' hH=>?_)⟩;simp only [OB];have e:=(RDs.ofInts (K:=K) (H:=H0) ns).cut lo hi;refine ⟨_,hH,?_⟩;have e2:∀ns:List Int,B2 (ns.map D.int) lo hi=(B2 ns lo hi).map D.int:=fun ns=>by unfold B2;rw [List.length_map,List.map_take,List.map_drop]
   rw [e2] at e;exact e
theorem Yv {o:D->Option Int->Option Int->Option D} {r:V->Option Int->Option Int->Hp->VK->Prop} {e:Expr} {lo hi:Option Expr} {pos p2:Pos} {f:DE->R D} {fl fh:DE->R (Option Int)} (hr:SlR X r) (hs:SlD X.K fr o r) (he:QE X EX false e f) (hl:QO X EX lo fl) (hu:QO X EX hi fh) :
 QE X EX fr (.Subscript e (.Slice lo hi none p2) pos) (eSl o f fl fh):=⟨(yd hr he.h hl.h hu.h).imp fun _ _ _ q=>y3p hs q⟩
end
noncomputable def iL (f:DE->R D):DE->R (List D):=fun ρ=>(f ρ).bind fun d=>R.of (items d)
noncomputable def zD (lo:Int) (n:Nat):List D:=(List.range n).map fun (i:Nat)=>D.int (lo+i)
noncomputable def M5 (fs:DE->R (List D)):DE->R (List D):=fun ρ=>(fs ρ).bind fun ds=>R.of (match ds with
 | [.int j]=>if -(2 ^ 62)<=j/\j<2 ^ 62 then some (zD 0 j.toNat) else none
 | _=>none)
noncomputable def Q7 (fs:DE->R (List D)):DE->R (List D):=fun ρ=>(fs ρ).bind fun ds=>R.of (match ds with
 | [.int i,.int j]=>if -(2 ^ 62)<=i/\i<2 ^ 62/\-(2 ^ 62)<=j/\j<2 ^ 62 then some (zD i (j - i).toNat) else none
 | _=>none)
noncomputable def iEn (fs:DE->R (List D)):DE->R (List D):=fun ρ=>(fs ρ).bind fun ds=>R.of (match ds with
 | [.lst es]=>some (((zD 0 es.length).zip es).map fun p=>D.tup [p.1,p.2])
 | _=>none)
section
variable {X:Cx} {K:Frag} {EX:XW} {H0:Hp}
theorem Cf {S:Hp->Prop} {xs:List V} {ds:List D} (hS:∀H,Same H0 H->S H) (r:RDs K H0 ds xs):Q9 K (ItS S xs) H0 ds:=by have hl:=r.length;refine ⟨fun i d e H H1 s1 s2=>⟨⟨hS H (s1.trans s2),by rw [<-hl];exact (List.getElem?_eq_some_iff.mp e).1⟩,fun x H' ⟨e1,e2⟩=>?_⟩,fun H s=>⟨hS H s,by rw [hl];exact Nat.le_refl _⟩⟩;subst e1;obtain ⟨x',q1,q2⟩:=r.get' e;rw [q1] at e2;cases e2;exact ⟨Same.refl _,H1,.refl s2,q2.mono s1⟩
theorem Fa (lo:Int) (n:Nat):RDs K H0 (zD lo n) (x3 lo n):=by
 have:∀l:List Nat,RDs K H0 (l.map fun (i:Nat)=>D.int (lo+i)) (l.map fun (i:Nat)=>V.int (lo+i)):=by
  intro l;induction l with
  | nil=>simp [RDs]
  | cons a l ih=>exact .cons (.mkInt _) ih
 exact this _
theorem v9 {tg l:Expr} {f:DE->R D} (hl:QE X EX false l f):QI X EX false tg l (iL f):=⟨(qF hl.h).imp fun U H Q ⟨sx,ρ,H0,s,e,h⟩=>by
 unfold iL at h;rw [Rk.bind] at h;refine TEd.go sx s e h fun d h v H1 H1' s1 e1 r1=>?_
 obtain ⟨ds,hd,h⟩:=h.of;cases d<;>simp only [items] at hd<;>first | cases hd | skip
 . obtain ⟨a,xs,rfl,ha,ra⟩:=r1.tup;exact xW (e1.2.1 _ _ ha) (h _ H1 H1' s1 e1 (Cf (fun H s=>s _ _ ha) ra))
 . obtain ⟨a,xs,rfl,ha,ra⟩:=r1.lst;exact xX (.inl (e1.2.1 _ _ ha)) (h _ H1 H1' s1 e1 (Cf (fun H s=>.inl (s _ _ ha)) ra))⟩
theorem Me {tg a:Expr} {p pos:Pos} {fs:DE->R (List D)} (hg:Gl X "range") (hm:X.mg "range"=none) (ha:QA X EX [a] fs) (hs:starEach [a] X.env=[(false,eval a X.env)]:=by rfl):QI X EX true tg (.Call (.Name "range" p) [a] [] pos) (M5 fs):=⟨(jr hg hm ha.h hs).imp fun U H Q ⟨sx,ρ,H0,s,e,h⟩=>by
 unfold M5 at h;rw [Rk.bind] at h;refine TAd.go sx s e h fun ds h vs H1 H1' s1 e1 r1=>?_
 obtain ⟨es,hd,h⟩:=h.of;split at hd<;>first | cases hd | skip
 obtain ⟨x,rfl,q1⟩:=r1.uno;cases q1.int;split at hd<;>cases hd;rename_i hb;exact ⟨hb,h _ H1 H1' s1 e1 (Cf (fun _ _=>trivial) (Fa _ _))⟩⟩
theorem Yu {tg a b:Expr} {p pos:Pos} {fs:DE->R (List D)} (hg:Gl X "range") (hm:X.mg "range"=none) (ha:QA X EX [a,b] fs) (hs:starEach [a,b] X.env=[(false,eval a X.env),(false,eval b X.env)]:=by rfl) (hs2:starEach [b] X.env=[(false,eval b X.env)]:=by rfl) :
  QI X EX true tg (.Call (.Name "range" p) [a,b] [] pos) (Q7 fs):=⟨(jq hg hm ha.h hs hs2).imp fun U H Q ⟨sx,ρ,H0,s,e,h⟩=>by
 unfold Q7 at h
 rw [Rk.bind] at h
 refine TAd.go sx s e h fun ds h vs H1 H1' s1 e1 r1=>?_
 obtain ⟨es,hd,h⟩:=h.of
 split at hd<;>first | cases hd | skip
 obtain ⟨x,y,rfl,q1,q2⟩:=r1.duo
 cases q1.int;cases q2.int
 split at hd<;>cases hd
 rename_i hb
 exact ⟨hb,h _ H1 H1' s1 e1 (Cf (fun _ _=>trivial) (Fa _ _))⟩⟩
theorem Ce {S:Hp->Prop} {xs ys:List V} {ds es:List D} (hS:∀H,Same H0 H->S H) (r:RDs K H0 ds xs) (r':RDs K H0 es ys):Q9 K (ItP S (xs.zip ys)) H0 ((ds.zip es).map fun p=>D.tup [p.1,p.2]):=by
 have hl:=r.length;have hl':=r'.length;have hz:((ds.zip es).map fun p=>D.tup [p.1,p.2]).length=(xs.zip ys).length:=by rw [List.length_map,List.length_zip,List.length_zip,hl,hl']
 refine ⟨fun i d e H H1 s1 s2=>⟨⟨hS H (s1.trans s2),by rw [<-hz];exact (List.getElem?_eq_some_iff.mp e).1⟩,fun x H' y=>?_⟩,fun H s=>⟨hS H s,hz⟩⟩;obtain ⟨T,a,b,rfl,hT,rfl,ep⟩:=y;obtain ⟨ea,eb⟩:=List.getElem?_zip_eq_some.mp ep;obtain ⟨da,ga,ra⟩:=r.get ea;obtain ⟨db,gb,rb⟩:=r'.get eb;have gz:(ds.zip es)[i]?=some (da,db):=List.getElem?_zip_eq_some.mpr ⟨ga,gb⟩;rw [List.getElem?_map,gz] at e;cases e;refine ⟨Same.upd_new hT,upd H1 T (.tup [a,b]),.new s2 hT,.mkTup m7 ?_⟩;have sm:=Same.upd_new (o:=.tup [a,b]) (s2.none hT);exact .cons (ra.mono (s1.trans sm)) (.cons (rb.mono (s1.trans sm)) .nil)
theorem y3q {elts:List Expr} {k:Nat} {a:Expr} {p pos tpos:Pos} {fs:DE->R (List D)} (hg:Gl X "enumerate") (hm:X.mg "enumerate"=none) (ha:QA X EX [a] fs) (hs:starEach [a] X.env=[(false,eval a X.env)]:=by rfl) :
  QI X EX false (.Tuple elts k tpos) (.Call (.Name "enumerate" p) [a] [] pos) (iEn fs):=⟨(wx hg hm ha.h hs).imp fun U H Q ⟨sx,ρ,H0,s,e,h⟩=>by
 unfold iEn at h
 rw [Rk.bind] at h
 refine TAd.go sx s e h fun ds h vs H1 H1' s1 e1 r1=>?_
 obtain ⟨es,hd,h⟩:=h.of
 split at hd<;>first | cases hd | skip
 obtain ⟨x,rfl,q1⟩:=r1.uno
 obtain ⟨l,xs,rfl,hl,rl⟩:=q1.lst
 refine ⟨xs,.inl (e1.2.1 _ _ hl),h _ H1 H1' s1 e1 ?_⟩
 rw [rl.length]
 exact Ce (fun H s=>.inl (s _ _ hl)) (Fa _ _) rl⟩
end
section
variable {X:Cx} {sc:Scope} {caps:List Str} {ix:List Nat} {elt iter:Expr} {ifs:List Expr} {pos px py tpos:Pos} {x y:Str} {kt:Nat} {kp:Bool} {EX:XW} {fi:DE->R (List D)} {t:DE->R Bool} {f:DE->R D}
noncomputable def k6:DE->R Bool:=fun _=>.ok true
inductive PTq (X:Cx) (sc:Scope) (N:List Str):List Expr->(DE->R Bool)->Prop where
 | nil:PTq X sc N [] k6
 | one {c:Expr} {t:DE->R Bool} (h:∀fp s H,QT (j7 X sc N fp s H) F0 c t):PTq X sc N [c] t
theorem PTq.run {N:List Str} (h:PTq X sc N ifs t):∃tt,(∀fp s H,PTs (j7 X sc N fp s H) ifs tt)/\∀U H Q,TTd X.K F0 t U H Q->tt U H Q:=by
 cases h with
 | nil=>exact ⟨_,fun _ _ _=>.nil,fun U H Q ⟨sx,ρ,H0,s,e,h⟩=>h H (Same.refl _)⟩
 | one h=>exact ⟨_,fun fp s H=>.one (h fp s H).h,fun _ _ _ q=>q⟩
theorem M4 (C:CompOk X sc caps ix) (hN:([x]++caps).Nodup) (hx:sc.names.lookup x=some .local) (hi:QI X EX kp (.Name x px) iter fi) (ht:PTq X sc ([x]++caps) ifs t) (he:∀fp s H,QE (j7 X sc ([x]++caps) fp s H) F0 false elt f)
  (hs:∀x,foldedSetIterable iter X.env x=pure x:=by intro _;rfl):QE X EX true (.ListComp elt [⟨.Name x px,iter,ifs,0⟩] sc pos) (h7 fi b1 ix t f):=by
 obtain ⟨tt,h1,h2⟩:=ht.run
 refine ⟨(xV C hN hx hi.h h1 (fun fp s H=>(he fp s H).h) hs).imp fun _ _ _ q=>Ch Za h2 q⟩
theorem Aw (C:CompOk X sc caps ix) (hN:([x,y]++caps).Nodup) (hx:sc.names.lookup x=some .local) (hy:sc.names.lookup y=some .local) (hi:QI X EX kp (.Tuple [.Name x px,.Name y py] kt tpos) iter fi) (ht:PTq X sc ([x,y]++caps) ifs t)
  (he:∀fp s H,QE (j7 X sc ([x,y]++caps) fp s H) F0 false elt f) (hs:∀x,foldedSetIterable iter X.env x=pure x:=by intro _;rfl):QE X EX true (.ListComp elt [⟨.Tuple [.Name x px,.Name y py] kt tpos,iter,ifs,0⟩] sc pos) (h7 fi (bT 2) ix t f):=by
 obtain ⟨tt,h1,h2⟩:=ht.run
 refine ⟨(xT C hN hx hy hi.h h1 (fun fp s H=>(he fp s H).h) hs).imp fun _ _ _ q=>Ch Yz h2 q⟩
theorem Vp {te te':TE} {g:TG} (h:∀U H Q,te' U H Q->te U H Q) {De:Ends} {U:St} {H:Hp} (q:C9 te' g De U H):C9 te g De U H:=h _ _ _ q
theorem Av {fr:Bool} {m:List Bool} {v:Str} {k:Nat} {spos pv:Pos} (hNX:X.N.Nodup) (hk:X.N[k]?=some v) (hv:X.env.scope.names.lookup v=some .local) (C:CompOk X sc caps ix) (hN:([x]++caps).Nodup) (hx:sc.names.lookup x=some .local) (hi:QI X EX kp (.Name x px) iter fi)
  (ht:PTq X sc ([x]++caps) ifs t) (he:∀fp s H,QE (j7 X sc ([x]++caps) fp s H) F0 false elt f)
  (hsw:swapsWith (.ListComp elt [⟨.Name x px,iter,ifs,0⟩] sc pos) (some (.Name v pv)) spos.line X.env=pure true:=by rfl) (hs:∀x,foldedSetIterable iter X.env x=pure x:=by intro _;rfl) :
  QS X EX fr (.Assign [.Name v pv] (.ListComp elt [⟨.Name x px,iter,ifs,0⟩] sc pos) spos) (e8 true k m (h7 fi b1 ix t f)):=by
 obtain ⟨tt,h1,h2⟩:=ht.run
 refine ⟨(xU hNX hk hv C hN hx hi.h h1 (fun fp s H=>(he fp s H).h) hsw hs).imp fun _ _ _ q=>Vp (fun _ _ _ q=>Ch Za h2 q) (Fg q)⟩
theorem y3r {fr:Bool} {m:List Bool} {v:Str} {k:Nat} {spos pv:Pos} (hNX:X.N.Nodup) (hk:X.N[k]?=some v) (hv:X.env.scope.names.lookup v=some .local) (C:CompOk X sc caps ix) (hN:([x,y]++caps).Nodup) (hx:sc.names.lookup x=some .local) (hy:sc.names.lookup y=some .local)
  (hi:QI X EX kp (.Tuple [.Name x px,.Name y py] kt tpos) iter fi) (ht:PTq X sc ([x,y]++caps) ifs t) (he:∀fp s H,QE (j7 X sc ([x,y]++caps) fp s H) F0 false elt f)
  (hsw:swapsWith (.ListComp elt [⟨.Tuple [.Name x px,.Name y py] kt tpos,iter,ifs,0⟩] sc pos) (some (.Name v pv)) spos.line X.env=pure true:=by rfl) (hs:∀x,foldedSetIterable iter X.env x=pure x:=by intro _;rfl) :
  QS X EX fr (.Assign [.Name v pv] (.ListComp elt [⟨.Tuple [.Name x px,.Name y py] kt tpos,iter,ifs,0⟩] sc pos) spos) (e8 true k m (h7 fi (bT 2) ix t f)):=by
 obtain ⟨tt,h1,h2⟩:=ht.run
 refine ⟨(xS hNX hk hv C hN hx hy hi.h h1 (fun fp s H=>(he fp s H).h) hsw hs).imp fun _ _ _ q=>Vp (fun _ _ _ q=>Ch Yz h2 q) (Fg q)⟩
end
section
variable {X:Cx} {EX:XW} {fr fr':Bool} {st:Stmt} {sts:List Stmt} {a b c e:Expr} {es:List Expr} {f fv fk:DE->R D} {fs:DE->R (List D)} {t:DE->R Bool} {g g1 g2:DS->SR} {pos p:Pos} {m:List Bool}
theorem C2:QB X EX fr [] sNx:=⟨pss_nil.imp fun _ _ _ q=>y3i q⟩
theorem g7 (h:QS X EX fr st g):QB X EX fr [st] g:=⟨wJ h.h⟩
theorem d7 (h1:QS X EX fr st g1) (h2:QB X EX fr sts g2):QB X EX fr (st::sts) (c8 g1 g2):=⟨(yf h1.h h2.h).imp fun _ _ _ q=>jd q⟩
theorem Hr:QS X EX fr st sNo:=⟨ps_never.imp fun _ _ _ q=>y3j q⟩
theorem B1 {x y:List Stmt} (hc:QT X EX c t) (ha:QB X EX fr x g1) (hb:QB X EX fr y g2):QS X EX fr (.If c x y pos) (sIf t g1 g2):=⟨(jF hc.h ha.h hb.h).imp fun _ _ _ q=>jc q⟩
theorem k8 (he:QE X EX fr e f):QS X EX fr (.Return (some e) pos) (j5 m f):=⟨(Qo he.h).imp fun _ _ _ q=>jb q⟩
theorem Pz {i:Nat} {x:Str} {p:Pos} (hN:X.N[i]?=some x:=by rfl) (hv:Vis X.env.scope x:=by first | exact Or.inl rfl | exact Or.inr (Or.inl rfl) | exact Or.inr (Or.inr rfl)) (hd:(x==("__debug__":Str))=false:=by decide)
 (hcd:(x==("__classdict__":Str))=false:=by decide):QS X EX true (.Return (some (.Name x p)) pos) (X7 i):=⟨(Qo (pw i hN hv hd hcd)).imp fun _ _ _ q=>qz q⟩
theorem Gj (he:QE X EX false e f) (hs:swapsWith e none pos.line X.env=pure false:=by rfl):QS X EX fr (.Expr e pos) (L1 f):=⟨(Tq he.h hs).imp fun _ _ _ q=>qy q⟩
theorem y0c {i:Nat} {x:Str} {pos':Pos} (hN:X.N.Nodup) (hi:X.N[i]?=some x) (hx:Loc X.env.scope x) (he:QE X EX fr' e f) (hs:swapsWith e (some (.Name x pos')) pos.line X.env=pure false:=by rfl) (hf:X.fn x=true\/X.env.scope.names.lookup x=some .local:=by first | exact .inl rfl | exact .inr rfl | assumption) :
 QS X EX fr (.Assign [.Name x pos'] e pos) (e8 fr' i m f):=⟨(qS hN hi hx he.h hs hf).imp fun _ _ _ q=>Fg q⟩
theorem g_n {i:Nat} {x:Str} {pos:Pos} (hN:X.N.Nodup) (hi:X.N[i]?=some x) (hx:Loc X.env.scope x) (hf:X.fn x=true\/X.env.scope.names.lookup x=some .local:=by first | exact .inl rfl | exact .inr rfl | assumption):QG X (.Name x pos) (.n i):=⟨(Je hN hi hx hf).imp fun _ _ _ _ q=>y3k q⟩
theorem Y3:QGs X [] []:=⟨xR⟩
theorem E4 {i:Nat} {is:List Nat} {x:Str} {pos:Pos} {ts:List Expr} (hN:X.N.Nodup) (hi:X.N[i]?=some x) (hx:Loc X.env.scope x) (hr:QGs X ts is) (hf:X.fn x=true\/X.env.scope.names.lookup x=some .local:=by first | exact .inl rfl | exact .inr rfl | assumption)
 (hs:(assignEach (.Name x pos::ts) X.env).map (·.2)=assign (.Name x pos) X.env::(assignEach ts X.env).map (·.2):=by rfl):QGs X (.Name x pos::ts) (i::is):=⟨yJ (Je hN hi hx hf) hr.h hs⟩
theorem g_t {is:List Nat} {ts:List Expr} {k:Nat} {pos:Pos} (hc:X.calm=true) (h:QGs X ts is) (hn:(assignEach ts X.env).length=is.length:=by rfl) (hst:(assignEach ts X.env).findIdx? (·.1)=none:=by rfl):QG X (.Tuple ts k pos) (.t is):=⟨(wv hc h.h hn hst).imp fun _ _ _ _ q=>y3l q⟩
theorem Ni {tg:Expr} {tt:Tg} (he:QE X EX false e f) (hg:QG X tg tt) (hs:swapsWithSole [tg] e pos.line X.env=pure false:=by rfl) (hw:swappedStores [tg] e X.env=pure none:=by rfl)
 (h1:(assignEach [tg] X.env).map (·.2)=[assign tg X.env]:=by rfl):QS X EX fr (.Assign [tg] e pos) (R4 tt m f):=⟨(Gq he.h hg.h hs hw h1).imp fun _ _ _ q=>Zz q⟩
theorem G2 {tg iter:Expr} {tt:Tg} {body:List Stmt} {kp:Bool} {fi:DE->R (List D)} (hp:PassesOwn (model X.prog X.w) X.A X.env X.xe) (hc:X.calm=true) (hi:QI X EX kp tg iter fi) (hg:QG X tg tt) (hb:QB X EX fr body g)
 (hs:∀x,foldedSetIterable iter X.env x=pure x:=by intro _;rfl):QS X EX fr (.For tg iter body [] pos) (t8 kp m fi tt g):=⟨(wz hp hc hi.h hg.h hb.h hs).imp fun _ _ _ q=>Zy q⟩
theorem wb {n:Nat} {body:List Stmt} (hp:PassesOwn (model X.prog X.w) X.A X.env X.xe) (hc:QT X EX c t) (hb:QB X EX fr body g):QS X EX fr (.While c body [] pos) (Y6 n t g):=⟨(ye hp hc.h hb.h).imp fun _ _ _ q=>wm q⟩
noncomputable def r6:D->List D->Option D
 | .lst ds,[d]=>if ds.length<100000 then some (.lst (ds++[d])) else none
 | _,_=>none
theorem O5 {K:Frag}:TyD K "list":=fun H0 H a d ob h=>by cases d<;>simp [isT] at h;simp only [OB] at ob;obtain ⟨xs,hx,_⟩:=ob;exact .inl ⟨rfl,xs,.of hx⟩
theorem Y2 {K:Frag}:V6 K r6 Tn:=by
 intro H0 H a d d' ds vs Q s h0 ob r hm k;unfold r6 at hm;split at hm<;>first | cases hm | skip
 split at hm<;>cases hm;rename_i es e hl;simp only [OB] at ob;obtain ⟨xs,hx,rx⟩:=ob;obtain ⟨y,rfl,q1⟩:=r.uno;refine ⟨a,xs,y,rfl,rfl,hx,by rw [<-rx.length];exact P5 hl,k _ _ ?_⟩;simp only [OB];exact ⟨_,m7,rx.append (.one q1)⟩
theorem N9 {T id:String} {name:Str} {i:Nat} {x:Str} {xp apos cpos:Pos} {mt:D->List D->Option D} {rr:V->List V->Hp->VK->Prop} (pa:PlainAttrs T) (slot:Slot T name id) (hty:typeOf (.builtin id)=pure (.type "method_descriptor")) (hm:MtM X id rr) (od:V6 X.K mt rr) (hT:TyD X.K T)
 (ho:PE X (.Name x xp) (B5 i)) (ha:QA X EX (e::es) fs)
 (hbase:attributeBase (.Name x xp) name X.env (eval (.Name x xp) X.env)=eval (.Name x xp) X.env:=by rfl)
 (hfew:((backTo cpos (starEach (e::es) X.env)).all (fun x=>!x.1)&&(backToKw cpos (keywordEach [] X.env)).all (fun x=>x.1.isSome)
  && decide ((e::es).length+([]:List Keyword).length+(if ([]:List Keyword).isEmpty then 0 else 1)<30))=true:=by rfl)
 (hline:(apos.endLine==cpos.line)=true:=by rfl) (hs:starEach (e::es) X.env=(false,eval e X.env)::starEach es X.env:=by rfl) (hplain:(backTo cpos (starEach es X.env)).any (·.1)=false:=by rfl)
 (hsw:swapsWith (.Call (.Attribute (.Name x xp) name apos) (e::es) [] cpos) none pos.line X.env=pure false:=by rfl) :
 QS X EX fr (.Expr (.Call (.Attribute (.Name x xp) name apos) (e::es) [] cpos) pos) (B6 T mt i m fs):=⟨(Tq (Fn pa slot hty hm ho ha.h hbase hfew hline hs hplain) hsw).imp fun _ _ _ q=>ja od hT q⟩
noncomputable def C6:D->D->D->Option D
 | .lst ds,.int i,v=>(ixN ds.length i).map fun j=>.lst (ds.set j v)
 | .dk ks ds,k,v=>if ks.length<100000 then (M8 k).map fun k=>.dk (C3 ks k) (m8 ks ds k v) else none
 | .dt ks ds,.tup es,v=>if ks.length<100000 then (K7 es).map fun k=>.dt (C3 ks k) (m8 ks ds k v) else none
 | _,_,_=>none
noncomputable def Nh:N4:=fun o i v H Q=>Nx o i v H Q\/∃a H',o=.ref a/\DPut H a i v H'/\Q H'
theorem y0d (hu:X.A.units+64<cLine):Bk X Nh:=by
 intro pins s U H o i v ov iv u Q I ro ri rv h;rcases h with h | ⟨a,H',rfl,g,q⟩
 . exact yb pins s U H o i v ov iv u Q I ro ri rv h
 . cases ro;exact yT (by omega) I g ri rv fun s' I'=>⟨H',I',q⟩
theorem qi {K:Frag}:Ea K C6 Nh:=by
 intro H0 H a d d' dk dv y v Q s h0 ob rk rv hm k;cases d<;>simp only [C6] at hm<;>first | cases hm | skip
 . cases dk<;>simp only [C6] at hm<;>first | cases hm | skip
   rename_i ds i;simp only [OB] at ob;obtain ⟨xs,hx,rx⟩:=ob;cases rk.int;cases hj:ixN ds.length i with
   | none=>rw [hj] at hm;cases hm
   | some j=>
    rw [hj] at hm;cases hm
    refine .inl ⟨a,xs,i,j,rfl,rfl,hx,by rw [<-rx.length];exact hj,k _ ?_⟩
    simp only [OB]
    exact ⟨_,m7,rx.set j rv⟩
 . rename_i ks ds;split at hm
   . rename_i hl;cases hk:M8 dk with
     | none=>rw [hk] at hm;cases hm
     | some kk=>
      rw [hk] at hm
      have hm:D.dk (C3 ks kk) (m8 ks ds kk dv)=d':=by simpa using hm
      subst hm
      simp only [OB] at ob
      obtain ⟨xs,hx,hlen,rx⟩:=ob
      cases Hv hk rk
      refine .inr ⟨a,_,rfl,DPut.k hx (by rw [List.length_zip,<-hlen,Nat.min_self];exact P5 hl),k _ ?_⟩
      obtain ⟨e1,e2⟩:=Um kk v hlen
      simp only [OB]
      exact ⟨_,by rw [m7,e1],e2,Ht kk rv rx⟩
   . cases hm
 . rename_i ks ds;cases dk<;>simp only [C6] at hm<;>first | cases hm | skip
   rename_i es;split at hm
   . rename_i hl;cases hk:K7 es with
     | none=>rw [hk] at hm;cases hm
     | some kk=>
      rw [hk] at hm
      have hm:D.dt (C3 ks kk) (m8 ks ds kk dv)=d':=by simpa using hm
      subst hm
      simp only [OB] at ob
      obtain ⟨xs,hx,hlen,rx⟩:=ob
      obtain ⟨b,ys,rfl,hb,rb⟩:=rk.tup
      have e:=Jn hk rb
      subst e
      refine .inr ⟨a,_,rfl,DPut.t hx (s _ _ hb) (by rw [List.length_zip,<-hlen,Nat.min_self];exact P5 hl),k _ ?_⟩
      obtain ⟨e1,e2⟩:=Um kk v hlen
      simp only [OB]
      exact ⟨_,by rw [m7,e1],e2,Ht kk rv rx⟩
   . cases hm
theorem Ez {i:Nat} {o ix:Expr} {tpos:Pos} (hu:X.A.units+64<cLine) (ho:PE X o (B5 i)) (hk:QE X EX false ix fk) (hv:QE X EX false e fv)
 (ha:∀v,assign (.Subscript o ix tpos) X.env v=(do
  let ov <-holding [v] (eval o X.env)
  let iv <-holding [v,ov] (eval ix X.env)
  standAt tpos
  holding [v,ov,iv] (setItem ov iv v)
  release [v,ov,iv] []):=by intro _;rfl) (hs:swapsWithSole [.Subscript o ix tpos] e pos.line X.env=pure false:=by rfl) (hw:swappedStores [.Subscript o ix tpos] e X.env=pure none:=by rfl)
 (h1:(assignEach [.Subscript o ix tpos] X.env).map (·.2)=[assign (.Subscript o ix tpos) X.env]:=by rfl):QS X EX fr (.Assign [.Subscript o ix tpos] e pos) (F6 C6 i m fk fv):=⟨(Gq hv.h (Ql ho hk.h (y0d hu) ha) hs hw h1).imp fun _ _ _ q=>Nm qi q⟩
end
theorem fnD {P:Program} {w:World} {K:Frag} {mg:Str->Option Value} {base:Heap} {x qual:Str} {st:Stmt} {f:Addr} {fd:FuncData} {N ps:List Str} {k n kk:Nat} {fr:Bool} {g:DS->SR} (F:Fun K x qual st f fd) (S:FnScope N ps (i8 st)) (hps:ps.length=n) (hN:N.length=n+kk)
  (hbody:∀(cdv:Value) (A:Around) (outer:List Env) (s:Shared) (H:Hp) (E:XK),Room k (A.deeper (envOfC qual (i8 st) s.heap.objs.size f cdv)) ->
   QB (K2 (CX1 P w) P w K mg base N qual (i8 st) f cdv A outer s H E) ⟨H,xNm K mg E⟩ fr (E5 st) g):FnOk P w K mg base (CX1 P w) (k+1) f fd ps (spD K mg fr (mOf fr n kk g) n):=by
 have hlen:∀{vs:List V} {H:Hp} {Q:VK} {E:XK},spD K mg fr (mOf fr n kk g) n vs H Q E->vs.length=n:=fun {vs H Q E} h=>by obtain ⟨ds,H0,s,r,hn,_⟩:=h;rw [<-r.length];exact hn
 refine F.okX S (fun vs H Q E h=>by rw [hlen h,hps]) (fun cdv A outer s H vs Q E hr h=>⟨_,(hbody cdv A outer s H E hr).h,?_⟩)
 have e:D7 N vs=vs.map some++List.replicate kk none:=by unfold D7;rw [hlen h,hN,Nat.add_sub_cancel_left]
 rw [e]
 exact qw h
noncomputable def spL (K:Frag) (fr:Bool) (m:List D->R D) (n:Nat):Sp:=fun vs H Q _=>∃ds H0,Same H0 H/\RDs K H0 ds vs/\ds.length=n/\Rk (fun _=>False) (m ds) fun d=>∀v H',Out K fr H0 H d v H'->Q v H'
theorem spL.spD {K:Frag} {fr:Bool} {m:List D->R D} {n:Nat} {vs:List V} {H:Hp} {Q:VK} {E:XK} {mg:Str->Option Value} (h:spL K fr m n vs H Q E):L2.spD K mg fr m n vs H Q E:=by
 obtain ⟨ds,H0,s,r,hn,h⟩:=h;refine ⟨ds,H0,s,r,hn,?_⟩;cases q:m ds with
 | ok d=>rw [q] at h;exact h
 | er x=>rw [q] at h;exact h.elim
 | st=>rw [q] at h;exact h.elim
theorem qh {K:Frag} {H:Hp} {a:Addr} {ns:List Int} {m:List D->R D} {fr:Bool} (hO:Bj H) (hS:SqL K H a (ns.map V.int)) (h:m [.scr ns]=.ok (.bl true)):spL K fr m 1 [.ref a] H (fun v _=>v=.bl true) fun _ _ _=>False:=by
 refine ⟨[.scr ns],H,Same.refl _,.one ?_,rfl,?_⟩
 . simp only [RD];refine ⟨a,rfl,?_⟩;rcases hS with (hS | hS) | hS
   . rcases hO a with z | ⟨o,xs,z⟩<;>rw [z] at hS<;>cases hS
   . exact .inl hS
   . exact .inr hS
 . rw [h];exact fun v H' o=>by obtain ⟨_,H0',_,r⟩:=o.weak.rd;exact r.bl
end L2
namespace L2
open PySem PySem.Spec PyProof.Rows
open PySem.W (KasT kas_sort kas_rev kas_asc kas_desc kas_tail3 kas_descPart kas_count kas_place kas_bin)
noncomputable def c9 {α:Type} (lt:Nat->Nat->Bool):KasT α->α
 | .ret a=>a
 | .ask i j k=>c9 lt (k (lt i j))
theorem U2 {α β:Type} {lt:Nat->Nat->Bool} {f:α->KasT β}:∀t:KasT α,c9 lt (t.bind f)=c9 lt (f (c9 lt t))
 | .ret a=>rfl
 | .ask i j k=>by show c9 lt ((k (lt i j)).bind f)=_;exact U2 (k (lt i j))
structure Ord (lt:Nat->Nat->Bool):Prop where
 irr:∀a,lt a a=false
 tr:∀{a b c},lt b a=false->lt c b=false->lt c a=false
 asy:∀{a b},lt a b=true->lt b a=false
section
variable {lt:Nat->Nat->Bool} {p:Array Nat}
abbrev g (p:Array Nat) (i:Nat):Nat:=p.getD i 0
def x6 (lt:Nat->Nat->Bool) (p:Array Nat) (m:Nat):Prop:=∀i j,i<=j->j<m->lt (g p j) (g p i)=false
def G1 (lt:Nat->Nat->Bool) (p:Array Nat) (m:Nat):Prop:=∀i j,i<=j->j<m->lt (g p i) (g p j)=false
theorem Z7 {p q:Array Nat} {i j:Nat} (h:p[i]?=q[j]?):g p i=g q j:=by unfold g;rw [Array.getD_eq_getD_getElem?,Array.getD_eq_getD_getElem?,h]
theorem K6 {i j:Nat} (hj:j<=p.size) (k:Nat):g (kas_rev p i j) k=if i<=k/\k<j then g p (i+j - 1 - k) else g p k:=by
 have e:=getElem?_mirror_all (i:=i) hj k;split
 . rename_i h;rw [if_pos h] at e;exact Z7 e
 . rename_i h;rw [if_neg h] at e;exact Z7 e
theorem Jm {i j:Nat}:(kas_rev p i j).size=p.size:=mirror_size _ _ _ _
theorem rev_perm {i j:Nat}:(kas_rev p i j).Perm p:=mirror_perm _ _ _ _
theorem Gi (O:Ord lt):∀(f n:Nat),1<=n->x6 lt p n->n<=c9 lt (kas_asc p f n)/\c9 lt (kas_asc p f n)<=n+f/\x6 lt p (c9 lt (kas_asc p f n)) /\
  (c9 lt (kas_asc p f n)=n+f\/lt (g p (c9 lt (kas_asc p f n))) (g p (c9 lt (kas_asc p f n) - 1))=true)
 | 0,n,h1,hs=>⟨Nat.le_refl _,Nat.le_refl _,hs,.inl rfl⟩
 | f+1,n,h1,hs=>by
  unfold kas_asc;simp only [c9];cases hc:lt (p.getD n 0) (p.getD (n - 1) 0) with
  | true=>simp only [if_true,c9];exact ⟨Nat.le_refl _,by omega,hs,.inr hc⟩
  | false=>
   simp only [Bool.false_eq_true,if_false]
   have hs':x6 lt p (n+1):=fun i j hij hj=>by
    by_cases hjn:j=n
    . subst hjn;by_cases hi:i=j
      . subst hi;exact O.irr _
      . exact O.tr (hs i (j - 1) (by omega) (by omega)) hc
    . exact hs i j hij (by omega)
   obtain ⟨a,b,c,d⟩:=Gi O f (n+1) (by omega) hs'
   exact ⟨by omega,by omega,c,d.imp (fun z=>by omega) id⟩
def V2 (lt:Nat->Nat->Bool) (p:Array Nat) (n q:Nat):Prop:=∀i j,n - (q+1)<=i->i<n->n - (q+1)<=j->j<n->lt (g p i) (g p j)=false
theorem Sv (O:Ord lt) {n q:Nat} (hn:n<=p.size) (hq:q+1<=n) (hs:G1 lt p n) (he:V2 lt p n q):G1 lt (kas_rev p (n - (q+1)) n) n:=by
 intro i j hij hj;rw [K6 hn,K6 hn];split<;>split
 . exact he _ _ (by omega) (by omega) (by omega) (by omega)
 . omega
 . exact hs _ _ (by omega) (by omega)
 . exact hs i j hij hj
theorem Cw (O:Ord lt):∀(f:Nat) (p:Array Nat) (n q:Nat),n+f<=p.size->q+1<=n->G1 lt p n->V2 lt p n q ->
  (c9 lt (kas_desc f p n q)).1.Perm p/\n<=(c9 lt (kas_desc f p n q)).2.1/\(c9 lt (kas_desc f p n q)).2.1<=n+f/\(c9 lt (kas_desc f p n q)).2.2+1<=(c9 lt (kas_desc f p n q)).2.1 /\
   G1 lt (c9 lt (kas_desc f p n q)).1 (c9 lt (kas_desc f p n q)).2.1/\V2 lt (c9 lt (kas_desc f p n q)).1 (c9 lt (kas_desc f p n q)).2.1 (c9 lt (kas_desc f p n q)).2.2
 | 0,p,n,q,hn,hq,hs,he=>⟨Array.Perm.refl _,Nat.le_refl _,Nat.le_refl _,hq,hs,he⟩
 | f+1,p,n,q,hn,hq,hs,he=>by
  unfold kas_desc;simp only [c9];have eq0:∀(p':Array Nat),V2 lt p' (n+1) 0:=fun p' i j h1 h2 h3 h4=>by
   have:i=j:=by omega
   subst this;exact O.irr _
  have step:∀(p':Array Nat),p'.size=p.size->G1 lt p' n->lt (g p' n) (g p' (n - 1))=true->G1 lt p' (n+1):=fun p' _ hs' hc i j hij hj=>by
   by_cases hjn:j=n
   . subst hjn;by_cases hi:i=j
     . subst hi;exact O.irr _
     . exact O.tr (O.asy hc) (hs' i (j - 1) (by omega) (by omega))
   . exact hs' i j hij (by omega)
  cases hc:lt (p.getD n 0) (p.getD (n - 1) 0) with
  | true=>
   simp only [if_true]
   by_cases hq0:q > 0
   . rw [if_pos hq0];have hr:=Sv O (by omega) hq hs he;have hz:(kas_rev p (n - (q+1)) n).size=p.size:=Jm;have hc':lt (g (kas_rev p (n - (q+1)) n) n) (g (kas_rev p (n - (q+1)) n) (n - 1))=true:=by
      rw [K6 (by omega),K6 (by omega),if_neg (by omega),if_pos (by omega)];have e1:lt (g p (n - (q+1)+n - 1 - (n - 1))) (g p (n - 1))=false:=he _ _ (by omega) (by omega) (by omega) (by omega);have e2:lt (g p (n - 1)) (g p (n - (q+1)+n - 1 - (n - 1)))=false:=he _ _ (by omega) (by omega) (by omega) (by omega);cases hx:lt (g p n) (g p (n - (q+1)+n - 1 - (n - 1))) with
      | true=>rfl
      | false=>
       have z:=O.tr e1 hx
       rw [show lt (g p n) (g p (n - 1))=true from hc] at z
       cases z
     obtain ⟨a1,a2,a3,a4,a5,a6⟩:=Cw O f _ (n+1) 0 (by rw [hz];omega) (by omega) (step _ hz hr hc') (eq0 _);exact ⟨a1.trans rev_perm,by omega,by omega,a4,a5,a6⟩
   . rw [if_neg hq0];obtain ⟨a1,a2,a3,a4,a5,a6⟩:=Cw O f p (n+1) 0 (by omega) (by omega) (step _ rfl hs hc) (eq0 _);exact ⟨a1,by omega,by omega,a4,a5,a6⟩
  | false=>
   simp only [Bool.false_eq_true,if_false,c9]
   cases hd:lt (p.getD (n - 1) 0) (p.getD n 0) with
   | true=>simp only [if_true,c9];exact ⟨Array.Perm.refl _,Nat.le_refl _,by omega,hq,hs,he⟩
   | false=>
    simp only [Bool.false_eq_true,if_false]
    have hs':G1 lt p (n+1):=fun i j hij hj=>by
     by_cases hjn:j=n
     . subst hjn;by_cases hi:i=j
       . subst hi;exact O.irr _
       . exact O.tr hd (hs i (j - 1) (by omega) (by omega))
     . exact hs i j hij (by omega)
    have he':V2 lt p (n+1) (q+1):=fun i j h1 h2 h3 h4=>by
     by_cases hi:i=n<;>by_cases hj:j=n
     . rw [hi,hj];exact O.irr _
     . rw [hi];exact O.tr (he (n - 1) j (by omega) (by omega) (by omega) (by omega)) hc
     . rw [hj];exact O.tr hd (he i (n - 1) (by omega) (by omega) (by omega) (by omega))
     . exact he i j (by omega) (by omega) (by omega) (by omega)
    obtain ⟨a1,a2,a3,a4,a5,a6⟩:=Cw O f p (n+1) (q+1) (by omega) (by omega) hs' he'
    exact ⟨a1,by omega,by omega,a4,a5,a6⟩
theorem Uk (O:Ord lt) {n nrem:Nat} (h1:1<=n) (hn:n<=nrem) (hz:nrem<=p.size) (hs:G1 lt p n) :
  n<=(c9 lt (kas_tail3 n nrem p)).1/\(c9 lt (kas_tail3 n nrem p)).1<=nrem/\(c9 lt (kas_tail3 n nrem p)).2.Perm p/\x6 lt (c9 lt (kas_tail3 n nrem p)).2 (c9 lt (kas_tail3 n nrem p)).1:=by
 unfold kas_tail3
 rw [U2]
 simp only [c9]
 have hs':x6 lt (kas_rev p 0 n) n:=fun i j hij hj=>by rw [K6 (by omega),K6 (by omega),if_pos (by omega),if_pos (by omega)];exact hs _ _ (by omega) (by omega)
 obtain ⟨a,b,c,_⟩:=Gi O (nrem - n) n h1 hs'
 exact ⟨a,by omega,rev_perm,c⟩
theorem Wz (O:Ord lt) {n nrem:Nat} (hn:n+1<=nrem) (hz:nrem<=p.size) (hs:G1 lt p (n+1)) :
  1<=(c9 lt (kas_descPart n nrem p)).1/\(c9 lt (kas_descPart n nrem p)).1<=nrem/\(c9 lt (kas_descPart n nrem p)).2.Perm p/\x6 lt (c9 lt (kas_descPart n nrem p)).2 (c9 lt (kas_descPart n nrem p)).1:=by
 unfold kas_descPart
 rw [U2]
 obtain ⟨a1,a2,a3,a4,a5,a6⟩:=Cw O (nrem - (n+1)) p (n+1) 0 (by omega) (by omega) hs (fun i j h1 h2 h3 h4=>by
  have:i=j:=by omega
  subst this;exact O.irr _)
 generalize hr:c9 lt (kas_desc (nrem - (n+1)) p (n+1) 0)=r at *
 have hsz:r.1.size=p.size:=a1.size_eq
 split
 . rename_i hq;obtain ⟨b1,b2,b3,b4⟩:=Uk (nrem:=nrem) O (by omega) (by omega) (by rw [Jm,hsz];exact hz) (Sv O (by rw [hsz];omega) a4 a5 a6);exact ⟨by omega,b2,b3.trans (rev_perm.trans a1),b4⟩
 . obtain ⟨b1,b2,b3,b4⟩:=Uk (nrem:=nrem) O (by omega) (by omega) (by rw [hsz];exact hz) a5;exact ⟨by omega,b2,b3.trans a1,b4⟩
theorem xK (O:Ord lt) {nrem:Nat} (h1:1<=nrem) (hz:nrem<=p.size) :
  1<=(c9 lt (kas_count nrem p)).1/\(c9 lt (kas_count nrem p)).1<=nrem/\(c9 lt (kas_count nrem p)).2.Perm p/\x6 lt (c9 lt (kas_count nrem p)).2 (c9 lt (kas_count nrem p)).1:=by
 unfold kas_count
 rw [U2]
 have h0:x6 lt p 1:=fun i j hij hj=>by
  have:i=j:=by omega
  subst this;exact O.irr _
 obtain ⟨a,b,c,d⟩:=Gi O (nrem - 1) 1 (Nat.le_refl _) h0
 generalize hm:c9 lt (kas_asc p (nrem - 1) 1)=m at *
 by_cases he:m=nrem
 . rw [if_pos (by simpa using he)];exact ⟨a,by show m<=nrem;omega,Array.Perm.refl _,c⟩
 . rw [if_neg (by simpa using he)];have hlt:lt (g p m) (g p (m - 1))=true:=d.resolve_left (by omega);by_cases hg:m > 1
   . rw [if_pos hg];simp only [c9];cases hc:lt (p.getD 0 0) (p.getD (m - 1) 0) with
     | true=>simp only [if_true,c9];exact ⟨a,by omega,Array.Perm.refl _,c⟩
     | false=>
      simp only [Bool.false_eq_true,if_false]
      have al:∀i j,i<m->j<m->lt (g p i) (g p j)=false:=fun i j hi hj=>
       O.tr (O.tr (c j (m - 1) (by omega) (by omega)) hc) (c 0 i (by omega) hi)
      obtain ⟨b1,b2,b3,b4⟩:=Wz (p:=kas_rev p 0 m) (n:=m) (nrem:=nrem) O (by omega) (by rw [Jm];exact hz) (fun i j hij hj=>by
       rw [K6 (by omega),K6 (by omega)];by_cases hjm:j<m
       . rw [if_pos (by omega),if_pos (by omega)];exact al _ _ (by omega) (by omega)
       . have hj':j=m:=by omega
         subst hj';by_cases hi:i=j
         . subst hi;rw [if_neg (by omega)];exact O.irr _
         . rw [if_pos (by omega),if_neg (by omega)];exact O.tr (O.asy hlt) (al _ _ (by omega) (by omega)))
      exact ⟨b1,b2,b3.trans rev_perm,b4⟩
   . rw [if_neg hg];have hm1:m=1:=by omega
     exact Wz O (by omega) hz fun i j hij hj=>by
      by_cases hi:i=j
      . subst hi;exact O.irr _
      . have hi0:i=0:=by omega
        have hj1:j=1:=by omega
        subst hi0;subst hj1;rw [hm1] at hlt;exact O.asy hlt
theorem Jl (O:Ord lt) {k:Nat} (hs:x6 lt p k):∀(f l r:Nat),l<=r->r<=k->r - l<=f->(∀i,i<l->lt (g p k) (g p i)=false)->(∀i,r<=i->i<k->lt (g p k) (g p i)=true) ->
  c9 lt (kas_place p k f l r)<=k/\(∀i,i<c9 lt (kas_place p k f l r)->lt (g p k) (g p i)=false)/\∀i,c9 lt (kas_place p k f l r)<=i->i<k->lt (g p k) (g p i)=true
 | 0,l,r,h1,h2,h3,hl,hr=>by
  have:l=r:=by omega
  subst this;exact ⟨h2,hl,hr⟩
 | f+1,l,r,h1,h2,h3,hl,hr=>by
  unfold kas_place;by_cases hlr:l ≥ r
  . rw [if_pos hlr];have:l=r:=by omega
    subst this;exact ⟨h2,hl,hr⟩
  . rw [if_neg hlr];simp only [c9];cases hc:lt (p.getD k 0) (p.getD ((l+r) / 2) 0) with
    | true=>
     simp only [if_true]
     refine Jl O hs f l ((l+r) / 2) (by omega) (by omega) (by omega) hl fun i hi hik=>?_
     cases hx:lt (g p k) (g p i) with
     | true=>rfl
     | false=>
      have:=O.tr (hs ((l+r) / 2) i hi hik) hx
      rw [show lt (g p k) (g p ((l+r) / 2))=true from hc] at this;cases this
    | false=>
     simp only [Bool.false_eq_true,if_false]
     exact Jl O hs f ((l+r) / 2+1) r (by omega) h2 (by omega) (fun i hi=>O.tr (hs i ((l+r) / 2) (by omega) (by omega)) hc) hr
theorem Uj {k d:Nat} (hk:k<p.size) (hd:d<=k) (i:Nat):g (bubble p k d) i=if i=k - d then g p k else if k - d<i/\i<=k then g p (i - 1) else g p i:=by
 have e:=getElem?_bubble hk d hd i;by_cases h:i=k - d
 . rw [if_pos h] at e ⊢;exact Z7 e
 . rw [if_neg h] at e ⊢;by_cases h2:k - d<i/\i<=k
   . rw [if_pos h2] at e ⊢;exact Z7 e
   . rw [if_neg h2] at e ⊢;exact Z7 e
theorem Py (O:Ord lt):∀(f:Nat) (p:Array Nat) (k:Nat),k+f<=p.size->x6 lt p k->(c9 lt (kas_bin f p k)).Perm p/\x6 lt (c9 lt (kas_bin f p k)) (k+f)
 | 0,p,k,h,hs=>⟨Array.Perm.refl _,hs⟩
 | f+1,p,k,h,hs=>by
  unfold kas_bin;rw [U2];obtain ⟨a,b,c⟩:=Jl O hs k 0 k (Nat.zero_le _) (Nat.le_refl _) (by omega) (fun i hi=>absurd hi (Nat.not_lt_zero _)) (fun i h1 h2=>absurd h2 (by omega));generalize hl:c9 lt (kas_place p k k 0 k)=l at *;have hs':x6 lt (bubble p k (k - l)) (k+1):=fun i j hij hj=>by
   rw [Uj (by omega) (by omega),Uj (by omega) (by omega)];have hkl:k - (k - l)=l:=by omega
   rw [hkl];by_cases hj1:j=l
   . rw [if_pos hj1];by_cases hi1:i=l
     . rw [if_pos hi1];exact O.irr _
     . rw [if_neg hi1,if_neg (by omega)];exact b i (by omega)
   . rw [if_neg hj1];by_cases hj2:l<j/\j<=k
     . rw [if_pos hj2];by_cases hi1:i=l
       . rw [if_pos hi1];exact O.asy (c (j - 1) (by omega) (by omega))
       . rw [if_neg hi1];by_cases hi2:l<i/\i<=k
         . rw [if_pos hi2];exact hs _ _ (by omega) (by omega)
         . rw [if_neg hi2];exact hs _ _ (by omega) (by omega)
     . rw [if_neg hj2,if_neg (by omega),if_neg (by omega)];exact hs _ _ hij (by omega)
  obtain ⟨a1,a2⟩:=Py O f (bubble p k (k - l)) (k+1) (by rw [bubble_size];omega) hs';exact ⟨a1.trans (bubble_perm _ _ _),by rw [show k+(f+1)=k+1+f by omega];exact a2⟩
theorem Su (O:Ord lt) {n:Nat} (h1:1<=n):(c9 lt (kas_sort n)).Perm (List.toArray (List.range n))/\x6 lt (c9 lt (kas_sort n)) n:=by
 unfold kas_sort;rw [U2];obtain ⟨a,b,c,d⟩:=xK (p:=List.toArray (List.range n)) O h1 (by simp);generalize c9 lt (kas_count n (List.toArray (List.range n)))=r at *;have hsz:r.2.size=n:=by rw [c.size_eq];simp
 split
 . rename_i hr;obtain ⟨a1,a2⟩:=Py O (n - max r.1 1) r.2 (max r.1 1) (by omega) (by rw [show max r.1 1=r.1 by omega];exact d);exact ⟨a1.trans c,by rw [show max r.1 1+(n - max r.1 1)=n by omega] at a2;exact a2⟩
 . rename_i hr;have:r.1=n:=by omega
   exact ⟨c,by rw [this] at d;exact d⟩
end
end L2
namespace L2
open PySem PySem.Spec PyProof.Rows
open PySem.W (KasT kas_sort)
mutual
noncomputable def D.oi:D->Bool
 | .int _=>true
 | .tup ds=>ois ds
 | _=>false
noncomputable def ois:List D->Bool
 | []=>true
 | d::ds=>d.oi&&ois ds
end
mutual
noncomputable def ltT:D->D->Bool
 | .int i,.int j=>decide (i<j)
 | .int _,.tup _=>true
 | .tup ds,.tup es=>ltTs ds es
 | _,_=>false
noncomputable def ltTs:List D->List D->Bool
 | [],[]=>false
 | [],_::_=>true
 | _::_,[]=>false
 | d::ds,e::es=>if eqD d e=true then ltTs ds es else ltT d e
end
mutual
noncomputable def e7:D->D->Option Bool
 | .int i,.int j=>some (decide (i<j))
 | .tup ds,.tup es=>k7 ds es
 | _,_=>none
noncomputable def k7:List D->List D->Option Bool
 | [],[]=>some false
 | [],_::_=>some true
 | _::_,[]=>some false
 | d::ds,e::es=>if eqD d e=true then k7 ds es else e7 d e
end
mutual
theorem Px:∀{d e:D} {b:Bool},e7 d e=some b->b=ltT d e
 | .int i,.int j,b,h=>by simp only [e7,Option.some.injEq] at h;simp only [ltT];exact h.symm
 | .tup ds,.tup es,b,h=>by simp only [e7] at h;simp only [ltT];exact Ss h
 | .non,e,b,h=>by simp [e7] at h
 | .bl _,e,b,h=>by simp [e7] at h
 | .str _,e,b,h=>by simp [e7] at h
 | .lst _,e,b,h=>by simp [e7] at h
 | .dk _ _,e,b,h=>by simp [e7] at h
 | .dt _ _,e,b,h=>by simp [e7] at h
 | .dn _ _,e,b,h=>by simp [e7] at h
 | .scr _,e,b,h=>by simp [e7] at h
 | .exc _ _,e,b,h=>by simp [e7] at h
 | .int _,.non,b,h=>by simp [e7] at h
 | .int _,.bl _,b,h=>by simp [e7] at h
 | .int _,.str _,b,h=>by simp [e7] at h
 | .int _,.lst _,b,h=>by simp [e7] at h
 | .int _,.tup _,b,h=>by simp [e7] at h
 | .int _,.dk _ _,b,h=>by simp [e7] at h
 | .int _,.dt _ _,b,h=>by simp [e7] at h
 | .int _,.dn _ _,b,h=>by simp [e7] at h
 | .int _,.scr _,b,h=>by simp [e7] at h
 | .int _,.exc _ _,b,h=>by simp [e7] at h
 | .tup _,.non,b,h=>by simp [e7] at h
 | .tup _,.bl _,b,h=>by simp [e7] at h
 | .tup _,.int _,b,h=>by simp [e7] at h
 | .tup _,.str _,b,h=>by simp [e7] at h
 | .tup _,.lst _,b,h=>by simp [e7] at h
 | .tup _,.dk _ _,b,h=>by simp [e7] at h
 | .tup _,.dt _ _,b,h=>by simp [e7] at h
 | .tup _,.dn _ _,b,h=>by simp [e7] at h
 | .tup _,.scr _,b,h=>by simp [e7] at h
 | .tup _,.exc _ _,b,h=>by simp [e7] at h
theorem Ss:∀{ds es:List D} {b:Bool},k7 ds es=some b->b=ltTs ds es
 | [],[],b,h=>by simp only [k7,Option.some.injEq] at h;simp only [ltTs];exact h.symm
 | [],_::_,b,h=>by simp only [k7,Option.some.injEq] at h;simp only [ltTs];exact h.symm
 | _::_,[],b,h=>by simp only [k7,Option.some.injEq] at h;simp only [ltTs];exact h.symm
 | d::ds,e::es,b,h=>by
  simp only [k7] at h;simp only [ltTs];split at h
  . rename_i q;rw [if_pos q];exact Ss h
  . rename_i q;rw [if_neg q];exact Px h
end
mutual
theorem S2:∀{d e:D},d.oi=true->eqD d e=true->e.oi=true->d=e
 | .int i,.int j,_,h,_=>by simp only [eqD,beq_iff_eq] at h;rw [h]
 | .tup ds,.tup es,p,h,q=>by simp only [eqD] at h;simp only [D.oi] at p q;rw [Pw p h q]
 | .int i,.tup _,_,h,_=>by simp [eqD] at h
 | .tup _,.int _,_,h,_=>by simp [eqD] at h
 | .int _,.non,_,_,q=>by simp [D.oi] at q
 | .int _,.bl _,_,_,q=>by simp [D.oi] at q
 | .int _,.str _,_,_,q=>by simp [D.oi] at q
 | .int _,.lst _,_,_,q=>by simp [D.oi] at q
 | .int _,.dk _ _,_,_,q=>by simp [D.oi] at q
 | .int _,.dt _ _,_,_,q=>by simp [D.oi] at q
 | .int _,.dn _ _,_,_,q=>by simp [D.oi] at q
 | .int _,.scr _,_,_,q=>by simp [D.oi] at q
 | .int _,.exc _ _,_,_,q=>by simp [D.oi] at q
 | .tup _,.non,_,_,q=>by simp [D.oi] at q
 | .tup _,.bl _,_,_,q=>by simp [D.oi] at q
 | .tup _,.str _,_,_,q=>by simp [D.oi] at q
 | .tup _,.lst _,_,_,q=>by simp [D.oi] at q
 | .tup _,.dk _ _,_,_,q=>by simp [D.oi] at q
 | .tup _,.dt _ _,_,_,q=>by simp [D.oi] at q
 | .tup _,.dn _ _,_,_,q=>by simp [D.oi] at q
 | .tup _,.scr _,_,_,q=>by simp [D.oi] at q
 | .tup _,.exc _ _,_,_,q=>by simp [D.oi] at q
 | .non,_,p,_,_=>by simp [D.oi] at p
 | .bl _,_,p,_,_=>by simp [D.oi] at p
 | .str _,_,p,_,_=>by simp [D.oi] at p
 | .lst _,_,p,_,_=>by simp [D.oi] at p
 | .dk _ _,_,p,_,_=>by simp [D.oi] at p
 | .dt _ _,_,p,_,_=>by simp [D.oi] at p
 | .dn _ _,_,p,_,_=>by simp [D.oi] at p
 | .scr _,_,p,_,_=>by simp [D.oi] at p
 | .exc _ _,_,p,_,_=>by simp [D.oi] at p
theorem Pw:∀{ds es:List D},ois ds=true->l0 ds es=true->ois es=true->ds=es
 | [],[],_,_,_=>rfl
 | [],_::_,_,h,_=>by simp [l0] at h
 | _::_,[],_,h,_=>by simp [l0] at h
 | d::ds,e::es,p,h,q=>by simp only [l0,Bool.and_eq_true] at h;simp only [ois,Bool.and_eq_true] at p q;rw [S2 p.1 h.1 q.1,Pw p.2 h.2 q.2]
end
mutual
theorem Cv:∀{d:D},d.oi=true->eqD d d=true
 | .int i,_=>by simp [eqD]
 | .tup ds,p=>by simp only [eqD];exact Ui (by simpa only [D.oi] using p)
 | .non,p=>by simp [D.oi] at p
 | .bl _,p=>by simp [D.oi] at p
 | .str _,p=>by simp [D.oi] at p
 | .lst _,p=>by simp [D.oi] at p
 | .dk _ _,p=>by simp [D.oi] at p
 | .dt _ _,p=>by simp [D.oi] at p
 | .dn _ _,p=>by simp [D.oi] at p
 | .scr _,p=>by simp [D.oi] at p
 | .exc _ _,p=>by simp [D.oi] at p
theorem Ui:∀{ds:List D},ois ds=true->l0 ds ds=true
 | [],_=>rfl
 | d::ds,p=>by simp only [ois,Bool.and_eq_true] at p;simp only [l0,Cv p.1,Ui p.2,Bool.and_self]
end
mutual
theorem Cd:∀{d e:D},d.oi=true->e.oi=true->ltT d e=false->ltT e d=false->d=e
 | .int i,.int j,_,_,h,h'=>by
  simp only [ltT,decide_eq_false_iff_not] at h h';have:i=j:=by omega
  rw [this]
 | .tup ds,.tup es,p,q,h,h'=>by simp only [ltT] at h h';simp only [D.oi] at p q;rw [Sr p q h h']
 | .int _,.tup _,_,_,h,_=>by simp [ltT] at h
 | .tup _,.int _,_,_,_,h=>by simp [ltT] at h
 | .int _,.non,_,q,_,_=>by simp [D.oi] at q
 | .int _,.bl _,_,q,_,_=>by simp [D.oi] at q
 | .int _,.str _,_,q,_,_=>by simp [D.oi] at q
 | .int _,.lst _,_,q,_,_=>by simp [D.oi] at q
 | .int _,.dk _ _,_,q,_,_=>by simp [D.oi] at q
 | .int _,.dt _ _,_,q,_,_=>by simp [D.oi] at q
 | .int _,.dn _ _,_,q,_,_=>by simp [D.oi] at q
 | .int _,.scr _,_,q,_,_=>by simp [D.oi] at q
 | .int _,.exc _ _,_,q,_,_=>by simp [D.oi] at q
 | .tup _,.non,_,q,_,_=>by simp [D.oi] at q
 | .tup _,.bl _,_,q,_,_=>by simp [D.oi] at q
 | .tup _,.str _,_,q,_,_=>by simp [D.oi] at q
 | .tup _,.lst _,_,q,_,_=>by simp [D.oi] at q
 | .tup _,.dk _ _,_,q,_,_=>by simp [D.oi] at q
 | .tup _,.dt _ _,_,q,_,_=>by simp [D.oi] at q
 | .tup _,.dn _ _,_,q,_,_=>by simp [D.oi] at q
 | .tup _,.scr _,_,q,_,_=>by simp [D.oi] at q
 | .tup _,.exc _ _,_,q,_,_=>by simp [D.oi] at q
 | .non,_,p,_,_,_=>by simp [D.oi] at p
 | .bl _,_,p,_,_,_=>by simp [D.oi] at p
 | .str _,_,p,_,_,_=>by simp [D.oi] at p
 | .lst _,_,p,_,_,_=>by simp [D.oi] at p
 | .dk _ _,_,p,_,_,_=>by simp [D.oi] at p
 | .dt _ _,_,p,_,_,_=>by simp [D.oi] at p
 | .dn _ _,_,p,_,_,_=>by simp [D.oi] at p
 | .scr _,_,p,_,_,_=>by simp [D.oi] at p
 | .exc _ _,_,p,_,_,_=>by simp [D.oi] at p
theorem Sr:∀{ds es:List D},ois ds=true->ois es=true->ltTs ds es=false->ltTs es ds=false->ds=es
 | [],[],_,_,_,_=>rfl
 | [],_::_,_,_,h,_=>by simp [ltTs] at h
 | _::_,[],_,_,_,h=>by simp [ltTs] at h
 | d::ds,e::es,p,q,h,h'=>by
  simp only [ois,Bool.and_eq_true] at p q;simp only [ltTs] at h h';by_cases w:eqD d e=true
  . have:=S2 p.1 w q.1;subst this;rw [if_pos w] at h;rw [if_pos w] at h';rw [Sr p.2 q.2 h h']
  . have w':¬eqD e d=true:=fun z=>w (by rw [S2 q.1 z p.1];exact Cv p.1)
    rw [if_neg w] at h;rw [if_neg w'] at h';have:=Cd p.1 q.1 h h';subst this;exact absurd (Cv p.1) w
end
mutual
theorem Cb:∀{d:D},d.oi=true->ltT d d=false
 | .int i,_=>by simp [ltT]
 | .tup ds,p=>by simp only [ltT];exact Sq (by simpa only [D.oi] using p)
 | .non,p=>by simp [D.oi] at p
 | .bl _,p=>by simp [D.oi] at p
 | .str _,p=>by simp [D.oi] at p
 | .lst _,p=>by simp [D.oi] at p
 | .dk _ _,p=>by simp [D.oi] at p
 | .dt _ _,p=>by simp [D.oi] at p
 | .dn _ _,p=>by simp [D.oi] at p
 | .scr _,p=>by simp [D.oi] at p
 | .exc _ _,p=>by simp [D.oi] at p
theorem Sq:∀{ds:List D},ois ds=true->ltTs ds ds=false
 | [],_=>rfl
 | d::ds,p=>by simp only [ois,Bool.and_eq_true] at p;simp only [ltTs];rw [if_pos (Cv p.1)];exact Sq p.2
end
mutual
theorem W6:∀{d e f:D},d.oi=true->e.oi=true->f.oi=true->ltT d e=true->ltT e f=true->ltT d f=true
 | .int i,.int j,.int k,_,_,_,h,h'=>by simp only [ltT,decide_eq_true_eq] at h h' ⊢;omega
 | .int i,.int j,.tup _,_,_,_,h,h'=>by simp only [ltT]
 | .int i,.tup _,.tup _,_,_,_,h,h'=>by simp only [ltT]
 | .tup ds,.tup es,.tup fs,p,q,r,h,h'=>by simp only [ltT] at h h' ⊢;simp only [D.oi] at p q r;exact Pv p q r h h'
 | .int i,.tup _,.int _,_,_,_,h,h'=>by simp [ltT] at h'
 | .tup _,.int _,_,_,_,_,h,h'=>by simp [ltT] at h
 | .tup _,.tup _,.int _,_,_,_,h,h'=>by simp [ltT] at h'
 | .non,_,_,p,_,_,_,_=>by simp [D.oi] at p
 | .bl _,_,_,p,_,_,_,_=>by simp [D.oi] at p
 | .str _,_,_,p,_,_,_,_=>by simp [D.oi] at p
 | .lst _,_,_,p,_,_,_,_=>by simp [D.oi] at p
 | .dk _ _,_,_,p,_,_,_,_=>by simp [D.oi] at p
 | .dt _ _,_,_,p,_,_,_,_=>by simp [D.oi] at p
 | .dn _ _,_,_,p,_,_,_,_=>by simp [D.oi] at p
 | .scr _,_,_,p,_,_,_,_=>by simp [D.oi] at p
 | .exc _ _,_,_,p,_,_,_,_=>by simp [D.oi] at p
 | _,.non,_,_,p,_,_,_=>by simp [D.oi] at p
 | _,.bl _,_,_,p,_,_,_=>by simp [D.oi] at p
 | _,.str _,_,_,p,_,_,_=>by simp [D.oi] at p
 | _,.lst _,_,_,p,_,_,_=>by simp [D.oi] at p
 | _,.dk _ _,_,_,p,_,_,_=>by simp [D.oi] at p
 | _,.dt _ _,_,_,p,_,_,_=>by simp [D.oi] at p
 | _,.dn _ _,_,_,p,_,_,_=>by simp [D.oi] at p
 | _,.scr _,_,_,p,_,_,_=>by simp [D.oi] at p
 | _,.exc _ _,_,_,p,_,_,_=>by simp [D.oi] at p
 | _,_,.non,_,_,p,_,_=>by simp [D.oi] at p
 | _,_,.bl _,_,_,p,_,_=>by simp [D.oi] at p
 | _,_,.str _,_,_,p,_,_=>by simp [D.oi] at p
 | _,_,.lst _,_,_,p,_,_=>by simp [D.oi] at p
 | _,_,.dk _ _,_,_,p,_,_=>by simp [D.oi] at p
 | _,_,.dt _ _,_,_,p,_,_=>by simp [D.oi] at p
 | _,_,.dn _ _,_,_,p,_,_=>by simp [D.oi] at p
 | _,_,.scr _,_,_,p,_,_=>by simp [D.oi] at p
 | _,_,.exc _ _,_,_,p,_,_=>by simp [D.oi] at p
theorem Pv:∀{ds es fs:List D},ois ds=true->ois es=true->ois fs=true->ltTs ds es=true->ltTs es fs=true->ltTs ds fs=true
 | [],_,_::_,_,_,_,_,_=>by simp only [ltTs]
 | _,[],[],_,_,_,_,h=>by simp [ltTs] at h
 | _::_,[],_,_,_,_,h,_=>by simp [ltTs] at h
 | _,_::_,[],_,_,_,_,h=>by simp [ltTs] at h
 | d::ds,e::es,f::fs,p,q,r,h,h'=>by
  simp only [ois,Bool.and_eq_true] at p q r;simp only [ltTs] at h h' ⊢;by_cases w:eqD d e=true
  . have:=S2 p.1 w q.1;subst this;rw [if_pos w] at h;by_cases w2:eqD d f=true
    . rw [if_pos w2] at h' ⊢;exact Pv p.2 q.2 r.2 h h'
    . rw [if_neg w2] at h' ⊢;exact h'
  . rw [if_neg w] at h;by_cases w2:eqD e f=true
    . have:=S2 q.1 w2 r.1;subst this;rw [if_neg w];exact h
    . rw [if_neg w2] at h';have h3:=W6 p.1 q.1 r.1 h h';by_cases w3:eqD d f=true
      . have:=S2 p.1 w3 r.1;subst this;rw [Cb p.1] at h3;cases h3
      . rw [if_neg w3];exact h3
end
theorem C4:∀{ds:List D} {i:Nat},ois ds=true->(ds.getD i (.int 0)).oi=true
 | [],i,_=>by simp [D.oi]
 | d::ds,0,h=>by simp only [ois,Bool.and_eq_true] at h;simpa using h.1
 | d::ds,i+1,h=>by simp only [ois,Bool.and_eq_true] at h;simpa using C4 (i:=i) h.2
noncomputable def ltI (ds:List D) (i j:Nat):Bool:=ltT (ds.getD i (.int 0)) (ds.getD j (.int 0))
theorem So {ds:List D} (h:ois ds=true):Ord (ltI ds):=by
 refine ⟨fun a=>Cb (C4 h),fun {a b c} h1 h2=>?_,fun {a b} h1=>?_⟩
 . unfold ltI at h1 h2 ⊢;cases hx:ltT (ds.getD c (.int 0)) (ds.getD a (.int 0)) with
   | false=>rfl
   | true=>
    cases hy:ltT (ds.getD a (.int 0)) (ds.getD b (.int 0)) with
    | true=>rw [W6 (C4 h) (C4 h) (C4 h) hx hy] at h2;cases h2
    | false=>
     rw [Cd (C4 h) (C4 h) hy h1] at hx
     rw [hx] at h2;cases h2
 . unfold ltI at h1 ⊢;cases hx:ltT (ds.getD b (.int 0)) (ds.getD a (.int 0)) with
   | false=>rfl
   | true=>
    have:=W6 (C4 h) (C4 h) (C4 h) h1 hx
    rw [Cb (C4 h)] at this;cases this
noncomputable def F1 (d:D):List D->List D
 | []=>[d]
 | e::r=>if ltT e d=true then e::F1 d r else d::e::r
noncomputable def l7:List D->List D
 | []=>[]
 | d::r=>F1 d (l7 r)
theorem Kc (d:D):∀l:List D,(F1 d l).Perm (d::l)
 | []=>.refl _
 | e::r=>by
  unfold F1;split
  . exact ((Kc d r).cons e).trans (.swap d e r)
  . exact .refl _
theorem y9:∀l:List D,(l7 l).Perm l
 | []=>.refl _
 | d::r=>(Kc d (l7 r)).trans ((y9 r).cons d)
theorem ois_mem:∀{ds:List D},ois ds=true↔∀d∈ds,d.oi=true
 | []=>by simp [ois]
 | d::ds=>by simp [ois,ois_mem (ds:=ds)]
def Srt (l:List D):Prop:=l.Pairwise fun a b=>ltT b a=false
theorem Uh {d:D}:∀{l:List D},d.oi=true->ois l=true->Srt l->Srt (F1 d l)
 | [],_,_,_=>by simp [F1,Srt]
 | e::r,hd,hl,hs=>by
  simp only [ois,Bool.and_eq_true] at hl;obtain ⟨h1,h2⟩:=List.pairwise_cons.mp hs;unfold F1;split
  . rename_i hlt;refine List.pairwise_cons.mpr ⟨fun x hx=>?_,Uh hd hl.2 h2⟩;rcases List.mem_cons.mp ((Kc d r).mem_iff.mp hx) with rfl | hx
    . cases hq:ltT x e with
      | false=>rfl
      | true=>
       have:=W6 hl.1 hd hl.1 hlt hq
       rw [Cb hl.1] at this;cases this
    . exact h1 x hx
  . rename_i hlt;have hlt:ltT e d=false:=by simpa using hlt
    refine List.pairwise_cons.mpr ⟨fun x hx=>?_,hs⟩;rcases List.mem_cons.mp hx with rfl | hx
    . exact hlt
    . have hxo:=(ois_mem.mp hl.2) x hx;cases hq:ltT x d with
      | false=>rfl
      | true=>
       have h3:=h1 x hx
       cases hy:ltT d e with
       | true=>rw [W6 hxo hd hl.1 hq hy] at h3;cases h3
       | false=>
        rw [Cd hd hl.1 hy hlt] at hq
        rw [hq] at h3;cases h3
theorem O9 {l l':List D} (p:l.Perm l') (h:ois l'=true):ois l=true:=ois_mem.mpr fun d hd=>(ois_mem.mp h) d (p.mem_iff.mp hd)
theorem E6:∀{l:List D},ois l=true->Srt (l7 l)
 | [],_=>.nil
 | d::r,h=>by simp only [ois,Bool.and_eq_true] at h;exact Uh h.1 (O9 (y9 r) h.2) (E6 h.2)
theorem J3:∀{l l':List D},ois l=true->l.Perm l'->Srt l->Srt l'->l=l'
 | [],l',_,p,_,_=>by rw [p.nil_eq]
 | a::r,[],_,p,_,_=>by have:=p.length_eq;simp at this
 | a::r,b::r',h,p,s,s'=>by
  have h':=h;simp only [ois,Bool.and_eq_true] at h;obtain ⟨h1,h2⟩:=List.pairwise_cons.mp s;obtain ⟨h3,h4⟩:=List.pairwise_cons.mp s';have hb:b∈a::r:=p.mem_iff.mpr List.mem_cons_self;have ha:a∈b::r':=p.mem_iff.mp List.mem_cons_self;have hbo:=(ois_mem.mp h') b hb;have e:a=b:=by
   rcases List.mem_cons.mp hb with z | z
   . exact z.symm
   . rcases List.mem_cons.mp ha with w | w
     . exact w
     . exact Cd h.1 hbo (h3 a w) (h1 b z)
  subst e;rw [J3 h.2 (List.perm_cons a |>.mp p) h2 h4]
theorem zp {ds:List D} (h:ois ds=true) (h1:1<=ds.length):(c9 (ltI ds) (kas_sort ds.length)).toList.map (fun i=>ds.getD i (.int 0))=l7 ds:=by
 obtain ⟨p,s⟩:=Su (So h) h1;generalize c9 (ltI ds) (kas_sort ds.length)=a at *;have hsz:a.size=ds.length:=by rw [p.size_eq];simp
 have pl:a.toList.Perm (List.range ds.length):=by have:=p.toList;simpa using this
 have pm:(a.toList.map fun i=>ds.getD i (.int 0)).Perm ds:=by
  refine (pl.map _).trans ?_;rw [show (List.range ds.length).map (fun i=>ds.getD i (.int 0))=ds from ?_];apply List.ext_getElem?;intro i;rw [List.getElem?_map];by_cases hi:i<ds.length
  . rw [List.getElem?_range hi];simp [hi]
  . rw [List.getElem?_eq_none (by simpa using hi),List.getElem?_eq_none (by simpa using hi)];rfl
 refine J3 (O9 pm h) (pm.trans (y9 ds).symm) ?_ (E6 h);refine List.pairwise_iff_getElem.mpr fun i j hi hj hij=>?_
 simp only [List.length_map,Array.length_toList] at hi hj;have:=s i j (Nat.le_of_lt hij) (by omega);unfold ltI g at this;rw [Array.getD_eq_getD_getElem?,Array.getD_eq_getD_getElem?,Array.getElem?_eq_getElem hi,Array.getElem?_eq_getElem hj] at this;simpa using this
end L2
namespace L2
open PySem PySem.Spec PyProof.Rows
open PySem.W (KasT kas_sort kas_rev kas_asc kas_desc kas_tail3 kas_descPart kas_count kas_place kas_bin)
def InP {α:Type} (n:Nat) (P:α->Prop):KasT α->Prop
 | .ret a=>P a
 | .ask i j k=>i<n/\j<n/\∀b,InP n P (k b)
theorem InP.bind {α β:Type} {n:Nat} {P:α->Prop} {P':β->Prop} {f:α->KasT β}:∀{t:KasT α},InP n P t->(∀a,P a->InP n P' (f a))->InP n P' (t.bind f)
 | .ret a,h,hf=>hf a h
 | .ask i j k,h,hf=>⟨h.1,h.2.1,fun b=>InP.bind (h.2.2 b) hf⟩
def Al (n:Nat) (p:Array Nat):Prop:=∀i,p.getD i 0<n
theorem Al.perm {n:Nat} {p q:Array Nat} (h0:0<n) (h:q.Perm p) (a:Al n p):Al n q:=fun i=>by
 by_cases hi:i<q.size
 . have hm:q[i]∈p.toList:=h.toList.mem_iff.mp (by simp);obtain ⟨j,hj,e⟩:=List.mem_iff_getElem.mp hm;have:=a j;rw [Array.getD_eq_getD_getElem?,Array.getElem?_eq_getElem (by simpa using hj)] at this;rw [Array.getD_eq_getD_getElem?,Array.getElem?_eq_getElem hi];simp only [Option.getD_some] at this ⊢;rw [<-e];simpa using this
 . rw [Array.getD_eq_getD_getElem?,Array.getElem?_eq_none (by omega)];exact h0
section
variable {n:Nat} {p:Array Nat}
theorem Gh (a:Al n p):∀f k,InP n (fun _=>True) (kas_asc p f k)
 | 0,k=>trivial
 | f+1,k=>⟨a _,a _,fun b=>by cases b<;>first | exact trivial | exact Gh a f (k+1)⟩
theorem Ct (h0:0<n):∀(f:Nat) (p:Array Nat) (k q:Nat),Al n p->InP n (fun r=>Al n r.1) (kas_desc f p k q)
 | 0,p,k,q,a=>a
 | f+1,p,k,q,a=>by
  refine ⟨a _,a _,fun b=>?_⟩;cases b with
  | true=>
   dsimp only
   rw [if_pos rfl]
   split
   . exact Ct h0 f _ _ _ (a.perm h0 rev_perm)
   . exact Ct h0 f _ _ _ a
  | false=>
   dsimp only
   rw [if_neg Bool.false_ne_true]
   refine ⟨a _,a _,fun c=>?_⟩
   cases c with
   | true=>exact a
   | false=>exact Ct h0 f _ _ _ a
theorem Ug (h0:0<n) (a:Al n p) (k m:Nat):InP n (fun r=>Al n r.2) (kas_tail3 k m p):=
 InP.bind (Gh (a.perm h0 rev_perm) _ _) fun _ _=>a.perm h0 rev_perm
theorem Wy (h0:0<n) (a:Al n p) (k m:Nat):InP n (fun r=>Al n r.2) (kas_descPart k m p):=
 InP.bind (Ct h0 _ _ _ _ a) fun r hr=>by
  split
  . exact Ug h0 (hr.perm h0 rev_perm) _ _
  . exact Ug h0 hr _ _
theorem xJ (h0:0<n) (a:Al n p) (m:Nat):InP n (fun r=>Al n r.2) (kas_count m p):=
 InP.bind (Gh a _ _) fun k _=>by
  split
  . exact a
  . split
    . refine ⟨a _,a _,fun b=>?_⟩;cases b with
      | true=>exact a
      | false=>exact Wy h0 (a.perm h0 rev_perm) _ _
    . exact Wy h0 a _ _
theorem Jk (a:Al n p) (k:Nat):∀f l r,InP n (fun _=>True) (kas_place p k f l r)
 | 0,l,r=>trivial
 | f+1,l,r=>by
  unfold kas_place;split
  . exact trivial
  . refine ⟨a _,a _,fun b=>?_⟩;cases b with
    | true=>exact Jk a k f _ _
    | false=>exact Jk a k f _ _
theorem Pu (h0:0<n):∀(f:Nat) (p:Array Nat) (k:Nat),Al n p->InP n (Al n) (kas_bin f p k)
 | 0,p,k,a=>a
 | f+1,p,k,a=>InP.bind (Jk a k _ _ _) fun l _=>Pu h0 f _ _ (a.perm h0 (bubble_perm _ _ _))
theorem wa (h0:0<n):InP n (Al n) (kas_sort n):=by
 have a:Al n (List.toArray (List.range n)):=fun i=>by
  rw [Array.getD_eq_getD_getElem?];by_cases hi:i<n
  . simp [hi]
  . rw [Array.getElem?_eq_none (by simpa using hi)];exact h0
 exact InP.bind (xJ h0 a _) fun r hr=>by
  split
  . exact Pu h0 _ _ _ hr
  . exact hr
end
theorem Pt {α:Type} {n:Nat} {P:α->Prop} {lt:Nat->Nat->Bool} {cmp:Nat->Nat->(Bool->Shared->Prop)->Shared->Prop} {Q:α->Shared->Prop} {s:Shared} (hc:∀i j C,i<n->j<n->C (lt i j) s->cmp i j C s) :
  ∀{t:KasT α},InP n P t->Q (c9 lt t) s->t.kasWp cmp Q s
 | .ret a,_,q=>q
 | .ask i j k,h,q=>hc i j _ h.1 h.2.1 (Pt hc (h.2.2 _) q)
def RcLt (A:Around) (s:Shared) (x y:Value) (b:Bool):Prop:=∀(prog:Program) (w:World) (E:Value->Shared->Prop) (Q:Value->Shared->Prop),Q (.bool b) s->wpAny (model prog w) A (richCompare .Lt x y) Q E s
inductive LexR (A:Around) (s:Shared):List Value->List Value->Bool->Prop
 | nn:LexR A s [] [] false
 | nc {w ws}:LexR A s [] (w::ws) true
 | cn {v vs}:LexR A s (v::vs) [] false
 | eq {v w vs ws b} (h:SeqAt.EqAt A s v w true) (r:LexR A s vs ws b):LexR A s (v::vs) (w::ws) b
 | lt {v w vs ws b} (h:SeqAt.EqAt A s v w false) (r:RcLt A s v w b):LexR A s (v::vs) (w::ws) b
section
open PySem.SeqAt
open PySem.AutoSeq1 (wpAny_loadPart')
open PySem.MeetsSeq PySem.MeetsSeq2 PySem.MeetsSeq3
theorem zo (l b:Addr) (items items2:Array Value) (n n2:Nat) (dd dd2:Option Addr) (sl sl2:Array (Option Value)) (r:Bool) :
  Meets (Builtin.«tuple.__lt__» ⟨[.ref l,.ref b],[]⟩)
   (fun A R s=>s.heap.get? l=some { cls:=.type "tuple",dict:=dd,data:=.seq items n,slots:=sl }/\s.heap.get? b=some { cls:=.type "tuple",dict:=dd2,data:=.seq items2 n2,slots:=sl2 } /\
    LexR A.in1 s items.toList items2.toList r/\R (.ok (.ret (.bool r))) s):=
 .of_wp fun prog w A R s h=>by
  obtain ⟨hp,g,d,tk,os⟩:=s;obtain ⟨hl,hb,hL,h⟩:=h;have f2:=AutoSeq1.sub_tuple_tuple
  wp_walk using wpAny_loadPart' hl,wpAny_loadPart' hb,wpAny_forIn_list _ (fun rest b s'=>b.1=none/\s'=⟨hp,g,d,tk,os⟩/\∃(vs ws:List Value) (r':Bool),rest=vs.zip ws /\
   LexR A.in1 ⟨hp,g,d,tk,os⟩ vs ws r'/\vs.length+items2.size=ws.length+items.size/\R (.ok (.ret (.bool r'))) ⟨hp,g,d,tk,os⟩) _
  case turn=>
   rintro ⟨y,x⟩ rest b s' ⟨hb',rfl,vs,ws,r',hz,hL',hlen,hR⟩
   cases hL' with
   | nn=>rw [List.zip_nil_left] at hz;cases hz
   | nc=>rw [List.zip_nil_left] at hz;cases hz
   | cn=>rw [List.zip_nil_right] at hz;cases hz
   | eq he hr=>
    rw [List.zip_cons_cons] at hz
    injection hz with hyx hrest
    injection hyx with hy hx
    subst hy hx
    simp only [List.length_cons] at hlen
    refine wpAny_bind (he prog w _ _ ?_)
    wp_walk
    exact ⟨rfl,rfl,_,_,_,hrest,hr,by omega,hR⟩
   | lt he hr=>
    rw [List.zip_cons_cons] at hz
    injection hz with hyx hrest
    injection hyx with hy hx
    subst hy hx
    refine wpAny_bind (he prog w _ _ ?_)
    have hri:=hr prog w
    wp_walk using hri
    exact ⟨_,rfl,by simpa using hR⟩
  case fin=>
   rintro ⟨b1,b2⟩ s' ⟨hb',rfl,vs,ws,r',hz,hL',hlen,hR⟩
   simp only at hb'
   subst hb'
   have hv:r'=decide (items.size<items2.size):=by
    cases hL' with
    | nn=>simp only [List.length_nil] at hlen;exact (decide_eq_false (by omega)).symm
    | nc=>simp only [List.length_nil,List.length_cons] at hlen;exact (decide_eq_true (by omega)).symm
    | cn=>simp only [List.length_nil,List.length_cons] at hlen;exact (decide_eq_false (by omega)).symm
    | eq _ _=>rw [List.zip_cons_cons] at hz;cases hz
    | lt _ _=>rw [List.zip_cons_cons] at hz;cases hz
   rw [hv] at hR
   wp_walk
   exact ⟨_,rfl,by simpa [Builtin.Tuple.tupleCompareSizes] using hR⟩
  case h=>exact ⟨rfl,rfl,items.toList,items2.toList,r,rfl,hL,by simp;omega,h⟩
theorem RcLt.tuples {A:Around} {s:Shared} {l b:Addr} {items items2:Array Value} {r:Bool} (hl:s.heap.IsTuple l items) (hb:s.heap.IsTuple b items2) (hL:LexR A.in1 s items.toList items2.toList r) (hu:A.units<cLine):RcLt A s (.ref l) (.ref b) r:=fun prog w E Q h=>by
 obtain ⟨⟨cls,dd,data,sl⟩,ho,hc,n,hd⟩:=id hl;obtain ⟨⟨cls2,dd2,data2,sl2⟩,ho2,hc2,n2,hd2⟩:=id hb;simp only at hc hd hc2 hd2;subst hc hd hc2 hd2;exact richCompare_meets_room (op:=.Lt) ⟨_,ho,rfl⟩ ⟨_,ho2,rfl⟩ PySem.F.slot_tuple_lt PySem.F.entry_tuple_lt (PySem.F.args_tuple_lt_2 _ _) (zo l b items items2 n n2 dd dd2 sl sl2 r)
  ⟨ho,ho2,hL,show Value.bool r≠Value.notImplemented/\Q (.bool r) s from ⟨(fun x=>nomatch x),h⟩⟩ hu
end
mutual
theorem W5:∀{d:D},d.oi=true->d.pl=true
 | .int _,_=>rfl
 | .tup ds,h=>by simp only [D.pl];exact Ps (by simpa only [D.oi] using h)
 | .non,p=>by simp [D.oi] at p
 | .bl _,p=>by simp [D.oi] at p
 | .str _,p=>by simp [D.oi] at p
 | .lst _,p=>by simp [D.oi] at p
 | .dk _ _,p=>by simp [D.oi] at p
 | .dt _ _,p=>by simp [D.oi] at p
 | .dn _ _,p=>by simp [D.oi] at p
 | .scr _,p=>by simp [D.oi] at p
 | .exc _ _,p=>by simp [D.oi] at p
theorem Ps:∀{ds:List D},ois ds=true->pls ds=true
 | [],_=>rfl
 | d::ds,h=>by simp only [ois,Bool.and_eq_true] at h;simp only [pls,W5 h.1,Ps h.2,Bool.and_self]
end
section
variable {X:Cx} {pins:List (Addr×Obj)} {U:St} {H:Hp} {s:Shared}
theorem Pr (I:Inv X pins U H s) {A:Around} {n:Nat} (hu:A.units+n<cLine) (lt:∀{d e:D} {x y:V} {u v:Value} {b:Bool},d.oi=true->e.oi=true->d.dep<=n->RD X.K H d x->RD X.K H e y->RelV x u->RelV y v->e7 d e=some b->RcLt A s u v b) :
  ∀{ds es:List D} {xs ys:List V} {us vs:List Value} {b:Bool},ois ds=true->ois es=true->j2 ds<=n->RDs X.K H ds xs->RDs X.K H es ys->Vals xs us->Vals ys vs->k7 ds es=some b->LexR A s us vs b
 | [],[],_,_,_,_,b,_,_,_,r1,r2,q1,q2,h=>by simp only [RDs] at r1 r2;subst r1;subst r2;cases q1;cases q2;simp only [k7,Option.some.injEq] at h;subst h;exact .nn
 | [],e::es,_,_,_,_,b,_,_,_,r1,r2,q1,q2,h=>by simp only [RDs] at r1 r2;subst r1;obtain ⟨y,ys,rfl,_,_⟩:=r2;cases q1;cases q2;simp only [k7,Option.some.injEq] at h;subst h;exact .nc
 | d::ds,[],_,_,_,_,b,_,_,_,r1,r2,q1,q2,h=>by simp only [RDs] at r1 r2;subst r2;obtain ⟨y,ys,rfl,_,_⟩:=r1;cases q1;cases q2;simp only [k7,Option.some.injEq] at h;subst h;exact .cn
 | d::ds,e::es,_,_,_,_,b,p1,p2,hd,r1,r2,q1,q2,h=>by
  simp only [RDs] at r1 r2;obtain ⟨x,xs,rfl,rx,rxs⟩:=r1;obtain ⟨y,ys,rfl,ry,rys⟩:=r2;simp only [ois,Bool.and_eq_true] at p1 p2;simp only [j2] at hd;cases q1 with
  | cons a1 a2=>
   cases q2 with
   | cons b1 b2=>
    have eq:=Cj (A:=A) I n (W5 p1.1) (W5 p2.1) (by omega) hu rx ry a1 b1
    simp only [k7] at h
    split at h
    . rename_i w;rw [w] at eq;exact .eq eq (Pr I hu lt p1.2 p2.2 (by omega) rxs rys a2 b2 h)
    . rename_i w;rw [show eqD d e=false by simpa using w] at eq;exact .lt eq (lt p1.1 p2.1 (by omega) rx ry a1 b1 h)
theorem Vo {d e:D} {b:Bool} (h:e7 d e=some b):(∃i j,d=.int i/\e=.int j/\b=decide (i<j))\/∃ds es,d=.tup ds/\e=.tup es/\k7 ds es=some b:=by
 cases d with
 | int i=>cases e with
  | int j=>exact .inl ⟨_,_,rfl,rfl,(Option.some.inj h).symm⟩
  | _=>exact nomatch h
 | tup ds=>cases e with
  | tup es=>exact .inr ⟨_,_,rfl,rfl,h⟩
  | _=>exact nomatch h
 | _=>exact nomatch h
theorem qf (I:Inv X pins U H s):∀(n:Nat) {A:Around} {d e:D} {x y:V} {u v:Value} {b:Bool},A.units+n<cLine->d.oi=true->e.oi=true->d.dep<=n->RD X.K H d x->RD X.K H e y->RelV x u->RelV y v->e7 d e=some b->RcLt A s u v b:=by
 intro n;induction n with
 | zero=>
  intro A d e x y u v b hu p1 p2 hd rx ry ru rv h
  rcases Vo h with ⟨i,j,rfl,rfl,rfl⟩ | ⟨ds,es,rfl,rfl,h⟩
  . cases rx.int;cases ry.int;obtain ⟨t,rfl⟩:=ru;obtain ⟨t',rfl⟩:=rv;exact fun prog w E Q q=>HT.rcLt_int A s _ _ _ _ prog w E Q q
  . simp only [D.dep] at hd;omega
 | succ n ih=>
  intro A d e x y u v b hu p1 p2 hd rx ry ru rv h
  rcases Vo h with ⟨i,j,rfl,rfl,rfl⟩ | ⟨ds,es,rfl,rfl,h⟩
  . cases rx.int;cases ry.int;obtain ⟨t,rfl⟩:=ru;obtain ⟨t',rfl⟩:=rv;exact fun prog w E Q q=>HT.rcLt_int A s _ _ _ _ prog w E Q q
  . obtain ⟨a,xs,rfl,ha,ra⟩:=rx.tup;obtain ⟨c,ys,rfl,hc,rc⟩:=ry.tup;cases ru;cases rv;obtain ⟨its,r1,t1⟩:=I.tupA ha;obtain ⟨its2,r2,t2⟩:=I.tupA hc;simp only [D.dep] at hd;simp only [D.oi] at p1 p2;have hu1:A.in1.units+n<cLine:=by show A.units+1+n<cLine;omega
    exact RcLt.tuples t1 t2 (Pr I hu1 (fun {d e x y u v b} q1 q2 q3 q4 q5 q6 q7 q8=>ih hu1 q1 q2 q3 q4 q5 q6 q7 q8) p1 p2 (by omega) ra rc r1 r2 h) (by omega)
end
end L2
namespace L2
open PySem PySem.Spec PyProof.Rows
section
variable {prog:Program} {w:World} {A:Around} {E:Value->Shared->Prop} {s:Shared}
theorem zm {a:Addr} {vs:List Value} {n:Nat} {P:PySem.Fin->Shared->Prop} (ho:s.heap.get? a=some (seqObj "list" vs.toArray n)) (hs:vs.length<2)
  (h:P (.done (.ret .none)) { s with heap:=sortedHeap s.heap a vs ((pairsOf vs).map (·.2)) }):wpAny (model prog w) A (Builtin.«list.sort» ⟨[.ref a],[]⟩) P E s:=by
 rw [list_sort_plain]
 have ha:a<s.heap.objs.size:=Heap.lt_size ho
 refine wpAny_bind (listItems_at ho rfl ?_)
 refine wpAny_bind (listUpdate_at ho rfl ?_)
 obtain ⟨e1,ho1⟩:∃e1,(s.heap.update a (Obj.mapSeq fun _=>#[])).get? a=some (seqObj "list" #[] e1):=⟨_,get?_update_seq ho (fun _=>#[])⟩
 refine wpAny_bind (seqEpoch_at ho1 rfl ?_)
 refine wpAny_bind (wpAny_newTuple ?_)
 refine wpAny_bind (wpAny_newList ?_)
 refine wpAny_holding ?_
 have ho6:(((s.heap.update a (Obj.mapSeq fun _=>#[])).push (seqObj "tuple" vs.toArray 0)).push (seqObj "list" #[] 0)).get? a=some (seqObj "list" #[] e1):=by rw [Heap.get?_push_ne _ _ _ (by rw [size_push',Heap.size_update];exact Nat.ne_of_lt (Nat.lt_succ_of_lt ha)),Heap.get?_push_ne _ _ _ (by rw [Heap.size_update];exact Nat.ne_of_lt ha)];exact ho1
 show wpAny (model prog w) A _ P E { s with heap:=((s.heap.update a (Obj.mapSeq fun _=>#[])).push (seqObj "tuple" vs.toArray 0)).push (seqObj "list" #[] 0) }
 dsimp only
 have hsz:vs.toArray.size=vs.length:=by simp
 have h2:vs.toArray.size<2:=by rw [hsz];exact hs
 rw [if_pos h2,if_pos h2]
 refine wpAny_bind (wpAny_pure ?_)
 rw [StateT.run_pure]
 refine wpAny_bind (wpAny_pure ?_)
 dsimp only
 refine wpAny_bind (seqEpoch_at ho6 rfl ?_)
 refine wpAny_bind (listUpdate_at ho6 rfl ?_ (hsz2:=by rw [Array.size_map];show (pairsOf vs).size<=_;rw [pairsOf_size,sizeLine_eq];omega))
 simp only [bne_self_eq_false,Bool.false_eq_true,if_false]
 exact wpAny_pure h
theorem zZ {l:Addr} {vs:List Value} {Q:Value->Shared->Prop} (hl:s.heap.IsList l vs.toArray) (hs:vs.length<2)
  (h:Q (.ref (s.heap.objs.size+1)) { s with heap:=sortedAll s.heap vs ((pairsOf vs).map (·.2)) }):wpAny (model prog w) A (call (.builtin "sorted") [.ref l]) Q E s:=by
 refine Calls.call_function_entry kind_sorted plain_sorted entry_sorted (args_sorted1 _) ?_
 unfold Builtin.«sorted»
 refine wpAny_bind (m:=checkCount "sorted" 1 1 _) (wpAny_pure ?_)
 refine wpAny_bind (collect_list hl ?_ (by rw [sizeLine_eq];omega))
 refine wpAny_bind (wpAny_newList ?_ (by rw [sizeLine_eq];omega))
 have hsz:((s.heap.push (seqObj "list" #[] 0)).update s.heap.objs.size (Obj.mapSeq (·++vs.toArray))).objs.size=s.heap.objs.size+1:=by rw [Heap.size_update,size_push']
 have hoL:(((s.heap.push (seqObj "list" #[] 0)).update s.heap.objs.size (Obj.mapSeq (·++vs.toArray))).push (seqObj "list" vs.toArray 0)).get? (s.heap.objs.size+1)=some (seqObj "list" vs.toArray 0):=by rw [<-hsz];exact Heap.get?_push_size _ rfl
 show wpAny _ _ _ _ _ { s with heap:=((s.heap.push (seqObj "list" #[] 0)).update s.heap.objs.size (Obj.mapSeq (·++vs.toArray))).push (seqObj "list" vs.toArray 0) }
 rw [hsz]
 refine wpAny_bind (wpAny_holding (wpAny_call_entry slot_list_sort ⟨_,hoL,rfl⟩ entry_list_sort (zm hoL hs ⟨_,rfl,?_⟩) (args_list_sort _)))
 exact wpAny_pure ⟨_,rfl,h⟩
end
noncomputable def isI:D->Bool
 | .int _=>true
 | _=>false
noncomputable def K1:D->Bool
 | .tup (.int _::_)=>true
 | _=>false
noncomputable def M3:D->Bool
 | .tup (.tup _::_)=>true
 | _=>false
noncomputable def G8 (ds:List D):Bool:=decide (ds.length<64)&&ois ds&&decide (j2 ds<=20)&&ds.all (fun d=>ds.all fun e=>(e7 d e).isSome)&&(ds.all isI||ds.all K1||ds.all M3)
noncomputable def l6:List D->Option D
 | [.lst ds]=>if G8 ds=true then some (.lst (l7 ds)) else none
 | _=>none
def Sn (K:Frag):List V->Hp->VK->Prop:=fun xs H Q=>∃p ys ds,xs=[.ref p]/\H p=some (.lst ys)/\RDs K H ds ys/\G8 ds=true/\(∀(l:Addr) (is:List Nat),H l=none->(∀i∈is,i<ys.length)->l7 ds=is.map (fun i=>ds.getD i (.int 0))->Q (.ref l) (upd H l (.lst (is.map fun i=>ys.getD i .non))))/\∀(l:Addr) (ns:List Int),H l=none->l7 ds=ns.map D.int->Q (.ref l) (upd H l (.lst (ns.map V.int)))
theorem RDs.pick {K:Frag} {H:Hp} {ds:List D} {ys:List V} (r:RDs K H ds ys):∀{is:List Nat},(∀i∈is,i<ys.length)->RDs K H (is.map fun i=>ds.getD i (.int 0)) (is.map fun i=>ys.getD i .non)
 | [],_=>by simp [RDs]
 | i::is,h=>by
  have hi:=h i List.mem_cons_self;have hy:ys[i]?=some ys[i]:=by simp [hi]
  obtain ⟨d,h1,h2⟩:=r.get hy;simp only [List.map_cons];refine .cons ?_ (RDs.pick r fun j hj=>h j (List.mem_cons_of_mem _ hj));rw [List.getD_eq_getElem?_getD,List.getD_eq_getElem?_getD,h1,hy];exact h2
theorem P4 {K:Frag}:y0 K true l6 (Sn K):=by
 intro H0 H xs ds z Q s r ho k;unfold l6 at ho;split at ho<;>first | cases ho | skip
 split at ho<;>cases ho;rename_i es hok;obtain ⟨x,rfl,q1⟩:=r.uno;obtain ⟨p,ys,rfl,hp,ry⟩:=q1.lst;refine ⟨p,ys,es,rfl,s _ _ hp,ry.mono s,hok,fun l is hl hi he=>k _ _ (.new s hl fun H' hH=>?_),fun l ns hl he=>k _ _ (.new s hl fun H' hH=>?_)⟩
 . simp only [OB];refine ⟨_,hH,?_⟩;rw [he];exact ry.pick hi
 . simp only [OB];refine ⟨_,hH,?_⟩;rw [he];exact .ofInts _
section
variable {X:Cx} {pins:List (Addr×Obj)} {U:St} {H:Hp} {s:Shared}
theorem Vals.pick {ys:List V} {its:List Value} (r:Vals ys its):∀{is:List Nat},(∀i∈is,i<ys.length)->Vals (is.map fun i=>ys.getD i .non) (is.map fun i=>its.getD i Value.none)
 | [],_=>.nil
 | i::is,h=>by
  have hi:=h i List.mem_cons_self;have hy:ys[i]?=some ys[i]:=by simp [hi]
  obtain ⟨u,h1,h2⟩:=r.get hy;simp only [List.map_cons];refine .cons ?_ (Vals.pick r fun j hj=>h j (List.mem_cons_of_mem _ hj));rw [List.getD_eq_getElem?_getD,List.getD_eq_getElem?_getD,h1,hy];exact h2
theorem Sm (I:Inv X pins U H s) {A:Around} (hu:A.units+20<cLine) {b:Bool} {fin:Bool} {Q:Bool->Shared->Prop} {r:Bool} (q:Q r s) :
  ∀{ds es:List D} {xs ys:List V} {us vs:List Value} (i:Nat),(b=true->i=0->(∃k r,ds=.int k::r)/\∃k r,es=.int k::r)->ois ds=true->ois es=true->j2 ds<=20->RDs X.K H ds xs->RDs X.K H es ys->Vals xs us->Vals ys vs->k7 ds es=some r ->
   fin=decide (us.length<vs.length)->PySem.W.KatLex X.prog X.w A b fin Q (us.zip vs) i s
 | [],[],_,_,_,_,i,_,_,_,_,r1,r2,q1,q2,h,hf=>by simp only [RDs] at r1 r2;subst r1;subst r2;cases q1;cases q2;simp only [k7,Option.some.injEq] at h;subst h;simp at hf;subst hf;exact q
 | [],e::es,_,_,_,_,i,_,_,_,_,r1,r2,q1,q2,h,hf=>by simp only [RDs] at r1 r2;subst r1;obtain ⟨y,ys,rfl,_,_⟩:=r2;cases q1;cases q2;simp only [k7,Option.some.injEq] at h;subst h;simp at hf;subst hf;exact q
 | d::ds,[],_,_,_,_,i,_,_,_,_,r1,r2,q1,q2,h,hf=>by simp only [RDs] at r1 r2;subst r2;obtain ⟨y,ys,rfl,_,_⟩:=r1;cases q1;cases q2;simp only [k7,Option.some.injEq] at h;subst h;simp at hf;subst hf;exact q
 | d::ds,e::es,_,_,_,_,i,hb,p1,p2,hd,r1,r2,q1,q2,h,hf=>by
  simp only [RDs] at r1 r2;obtain ⟨x,xs,rfl,rx,rxs⟩:=r1;obtain ⟨y,ys,rfl,ry,rys⟩:=r2;simp only [ois,Bool.and_eq_true] at p1 p2;simp only [j2] at hd;cases q1 with
  | cons a1 a2=>
   cases q2 with
   | cons b1 b2=>
    have eq:=Cj (A:=A) I 20 (W5 p1.1) (W5 p2.1) (by omega) hu rx ry a1 b1
    rw [List.zip_cons_cons]
    refine PySem.W.kat_cons (eq X.prog X.w _ _ ?_)
    simp only [k7] at h
    simp only [List.length_cons,Nat.add_lt_add_iff_right] at hf
    split at h
    . rename_i w;rw [w];exact PySem.W.kat_yes (Sm I hu q (i+1) (fun _ z=>by omega) p1.2 p2.2 (by omega) rxs rys a2 b2 h hf)
    . rename_i w;rw [show eqD d e=false by simpa using w];refine PySem.W.kat_no ?_;by_cases hbi:(b&&i==0)=true
      . rw [hbi];simp only [Bool.and_eq_true,beq_iff_eq] at hbi;obtain ⟨⟨k1,s1,e1⟩,k2,s2,e2⟩:=hb hbi.1 hbi.2;cases e1;cases e2;cases rx.int;cases ry.int;obtain ⟨t,rfl⟩:=a1;obtain ⟨t',rfl⟩:=b1;refine oneLt_int ?_;simp only [e7,Option.some.injEq] at h;rw [h];exact q
      . rw [show (b&&i==0)=false by simpa using hbi];exact PySem.W.kat_one _ _ (qf I 20 hu p1.1 p2.1 (by omega) rx ry a1 b1 h X.prog X.w _ _ q)
theorem Pq {M:Model} (I:Inv X pins U H s) (T:Bool):∀{ds:List D} {xs:List V} {us:List Value},(∀d∈ds,(if T=true then M3 d else K1 d)=true)->RDs X.K H ds xs->Vals xs us ->
  ∃fs:List Value,PySem.W.KatTups s.heap us fs/\fs.length=ds.length/\∀v∈fs,PySem.W.Looks M s.heap (typeOf v) (.type (if T=true then "tuple" else "int"))
 | [],_,_,_,r,q=>by simp only [RDs] at r;subst r;cases q;exact ⟨[],trivial,rfl,fun v hv=>by cases hv⟩
 | d::ds,_,_,h,r,q=>by
  simp only [RDs] at r;obtain ⟨x,xs,rfl,rx,rxs⟩:=r;cases q with
  | cons q1 q2=>
   obtain ⟨fs,h1,h2,h3⟩:=Pq (M:=M) I T (fun d hd=>h d (List.mem_cons_of_mem _ hd)) rxs q2
   have hd:=h d List.mem_cons_self
   cases T with
   | false=>
    rw [if_neg Bool.false_ne_true] at hd
    cases d<;>simp only [K1] at hd<;>first | cases hd | skip
    rename_i es
    cases es with
    | nil=>simp at hd
    | cons e es=>
     cases e<;>simp at hd
     obtain ⟨a,ys,rfl,ha,ra⟩:=rx.tup
     cases q1
     obtain ⟨its,rv,t⟩:=I.tupA ha
     simp only [RDs] at ra
     obtain ⟨y,ys,rfl,ry,rys⟩:=ra
     cases ry.int
     cases rv with
     | cons v1 v2=>
      obtain ⟨tk,rfl⟩:=v1
      obtain ⟨o,ho,hc,n,hdt⟩:=t
      refine ⟨_::fs,PySem.W.KatTups.cons ho hc hdt rfl h1,by simp [h2],fun v hv=>?_⟩
      rcases List.mem_cons.mp hv with rfl | hv
      . exact .now
      . exact h3 v hv
   | true=>
    rw [if_pos rfl] at hd
    cases d<;>simp only [M3] at hd<;>first | cases hd | skip
    rename_i es
    cases es with
    | nil=>simp at hd
    | cons e es=>
     cases e<;>simp at hd
     obtain ⟨a,ys,rfl,ha,ra⟩:=rx.tup
     cases q1
     obtain ⟨its,rv,t⟩:=I.tupA ha
     simp only [RDs] at ra
     obtain ⟨y,ys,rfl,ry,rys⟩:=ra
     obtain ⟨a2,ys2,rfl,ha2,ra2⟩:=ry.tup
     cases rv with
     | cons v1 v2=>
      cases v1
      obtain ⟨its2,rv2,o2,ho2,hc2,_⟩:=I.tupA ha2
      obtain ⟨o,ho,hc,n,hdt⟩:=t
      refine ⟨_::fs,PySem.W.KatTups.cons ho hc hdt rfl h1,by simp [h2],fun v hv=>?_⟩
      rcases List.mem_cons.mp hv with rfl | hv
      . have lk:PySem.W.Looks M s.heap (typeOf (.ref a2)) o2.cls:=(PySem.W.Looks.ld ho2).andThen .now;rw [hc2] at lk;exact lk
      . exact h3 v hv
theorem Vals.getD {ys:List V} {its:List Value} (r:Vals ys its) {i:Nat} (h:i<ys.length):RelV (ys.getD i .non) (its.getD i Value.none):=by
 have hy:ys[i]?=some ys[i]:=by simp [h]
 obtain ⟨u,h1,h2⟩:=r.get hy;rw [List.getD_eq_getElem?_getD,List.getD_eq_getElem?_getD,h1,hy];exact h2
theorem RDs.getD {ds:List D} {ys:List V} (r:RDs X.K H ds ys) {i:Nat} (h:i<ys.length):RD X.K H (ds.getD i (.int 0)) (ys.getD i .non):=by
 have hy:ys[i]?=some ys[i]:=by simp [h]
 obtain ⟨d,h1,h2⟩:=r.get hy;rw [List.getD_eq_getElem?_getD,List.getD_eq_getElem?_getD,h1,hy];exact h2
theorem Jj {α:Type} {l:List α} {i:Nat} {d:α} (h:i<l.length):l.getD i d∈l:=by rw [List.getD_eq_getElem?_getD,List.getElem?_eq_getElem h];exact List.getElem_mem h
theorem P1 (hc:X.calm=true) (hu:X.A.units+64<cLine):CallR X (.builtin "sorted") (Sn X.K):=by
 intro pins s U H xs us Q I r h;obtain ⟨p,ys,ds,rfl,hp,rd,hok,k,kI⟩:=h;obtain ⟨u,rfl,ru⟩:=t9 r;cases ru;obtain ⟨its,rv,pl,hz⟩:=I.list (.of hp);obtain ⟨m,hn,_⟩:=id I.loc;have F:=Att.fr_all hn;have N:=Jx (g:=Att.noObjs s.heap) (h:=s.heap) (L:=X.env.locals);unfold G8 at hok;simp only [Bool.and_eq_true,Bool.or_eq_true,decide_eq_true_eq] at hok;obtain ⟨⟨⟨⟨h64,hoi⟩,hdep⟩,hcmp⟩,hkind⟩:=hok;have hl1:=rd.length;have hl2:=rv.length;have fin:∀{D:Addr} {h':Heap} {tk:Nat} {e:Nat} {is:List Nat},(∀i∈is,i<ys.length)->l7 ds=is.map (fun i=>ds.getD i (.int 0))->Fr (Att.noObjs s.heap) X.env.locals h' m->News (Att.noObjs s.heap) X.env.locals h' ((D,seqObj "list" (is.map fun i=>its.getD i Value.none).toArray e)::X2 s X.env.locals)->s.heap.get? D=none ->
   EP X pins U Q (.ref D) { s with heap:=h',toks:=tk }:=fun {D h' tk e is} hi he F' N' hD=>by
  have hlen:(is.map fun i=>ys.getD i .non).length<=sizeLine:=by
   have e1:is.length=ds.length:=by have:=congrArg List.length he;rw [List.length_map,(y9 ds).length_eq] at this;exact this.symm
   rw [List.length_map,e1,hl1];exact hz
  obtain ⟨HD,I'⟩:=I.frnew (tk:=tk) (o:=.lst (is.map fun i=>ys.getD i .non)) hn F' N' hD ⟨hlen,_,e,rv.pick hi,(N' _ (.head _)).1⟩
  exact ⟨.ref D,_,I',rfl,k D is HD hi he⟩
 by_cases hI:ds.all isI=true
 . -- ints
   have asInts:∀ds:List D,ds.all isI=true->∃ns:List Int,ds=ns.map D.int:=by
    intro ds hI;induction ds with
    | nil=>exact ⟨[],rfl⟩
    | cons d ds ih=>
     simp only [List.all_cons,Bool.and_eq_true] at hI
     obtain ⟨ns,e⟩:=ih hI.2
     cases d<;>simp [isI] at hI
     exact ⟨_::ns,by rw [e];rfl⟩
   obtain ⟨ns,hns⟩:=asInts ds hI;subst hns;have ey:ys=ns.map V.int:=U3 (Ah ns) rd;subst ey;refine sorted_N F N pl.isList (Do rv) (by simp at hl1 hl2 h64;omega) fun h' vs' ns' e F' N' hi' hp' hs'=>?_
   have hsame:l7 (ns.map D.int)=ns'.map D.int:=by refine J3 (O9 (y9 _) hoi) ((y9 _).trans (hp'.symm.map _)) (E6 hoi) ?_;refine List.pairwise_map.mpr (hs'.imp fun {a b} hab=>?_);simp only [ltT,decide_eq_false_iff_not];omega
   have hlen:(ns'.map V.int).length<=sizeLine:=by rw [List.length_map,hp'.length_eq];simpa using hz
   have hD:s.heap.get? (s.heap.objs.size+1)=none:=Heap.get?_none_of_le (Nat.le_succ _);obtain ⟨HD,I'⟩:=I.frnew (tk:=s.toks) (o:=.lst (ns'.map V.int)) hn F' N' hD ⟨hlen,vs',e,Dm hi',(N' _ (.head _)).1⟩;exact ⟨.ref _,_,I',rfl,kI _ ns' HD hsame⟩
 . by_cases h2:2<=its.length
   . obtain ⟨T,hT⟩:∃T:Bool,∀d∈ds,(if T=true then M3 d else K1 d)=true:=by
      rcases hkind with (z | z) | z
      . exact absurd z hI
      . exact ⟨false,fun d hd=>by rw [if_neg Bool.false_ne_true];exact List.all_eq_true.mp z d hd⟩
      . exact ⟨true,fun d hd=>by rw [if_pos rfl];exact List.all_eq_true.mp z d hd⟩
     refine PySem.W.kat_sorted F N pl.isList h2 (by omega) fun D e1 h' F' N' hlt=>?_
     have N'':News (Att.noObjs s.heap) X.env.locals h' (X2 s X.env.locals):=fun p hp=>N' p (.tail _ hp)
     have I':Inv X pins U H { s with heap:=h' }:=I.frn (tk:=s.toks) hn F' N''
     have hDL:D≠X.env.locals:=(N' _ (.head _)).2.1
     have hD:s.heap.get? D=none:=by
      cases q:s.heap.get? D with
      | none=>rfl
      | some o=>exact absurd (hlt (D,o) (Xd hDL (Att.noObjs_get _ _) q)) (Nat.lt_irrefl _)
     obtain ⟨fs,t1,t2,t3⟩:=Pq (M:=model X.prog X.w) I' T hT rd rv
     have huu:X.A.in1.in1.units+20<cLine:=by show X.A.units+1+1+20<cLine;omega
     refine PySem.W.kat_kind t1 (by omega) t3 (by cases T<;>rfl) ?_
     have h0:0<its.length:=by omega
     refine Pt (n:=its.length) (lt:=ltI ds) ?_ (wa h0) ?_
     . intro i j C hi hj hC;show wpAny (model X.prog X.w) X.A.in1.in1 (keyLt' _ (its.getD i Value.none) (its.getD j Value.none)) C _ _;have hi':i<ys.length:=by omega
       have hj':j<ys.length:=by omega
       have r1:=rd.getD hi';have r2:=rd.getD hj';have v1:=rv.getD hi';have v2:=rv.getD hj';have m1:ds.getD i (.int 0)∈ds:=Jj (by omega);have m2:ds.getD j (.int 0)∈ds:=Jj (by omega);have o1:=(ois_mem.mp hoi) _ m1;have o2:=(ois_mem.mp hoi) _ m2;have d1:=Jr m1;have f1:=hT _ m1;have f2:=hT _ m2;have hc2:(e7 (ds.getD i (.int 0)) (ds.getD j (.int 0))).isSome=true:=List.all_eq_true.mp (List.all_eq_true.mp hcmp _ m1) _ m2;obtain ⟨b,hb⟩:=Option.isSome_iff_exists.mp hc2;have hbl:b=ltI ds i j:=Px hb;rw [<-hbl] at hC;generalize ds.getD i (.int 0)=da at *;generalize ds.getD j (.int 0)=db at *;have tp:∀{d:L2.D},(if T=true then M3 d else K1 d)=true->∃es,d=.tup es/\(T=false->∃k r,es=.int k::r):=fun {d} h=>by
        cases T with
        | false=>
         rw [if_neg Bool.false_ne_true] at h
         cases d<;>simp only [K1] at h<;>first | cases h | skip
         rename_i es
         cases es with
         | nil=>simp at h
         | cons e es=>cases e<;>simp at h;exact ⟨_,rfl,fun _=>⟨_,_,rfl⟩⟩
        | true=>
         rw [if_pos rfl] at h
         cases d<;>simp only [M3] at h<;>first | cases h | skip
         exact ⟨_,rfl,fun z=>nomatch z⟩
       obtain ⟨ea,rfl,ka⟩:=tp f1;obtain ⟨eb,rfl,kb⟩:=tp f2;obtain ⟨a,xa,e1,ha,ra⟩:=r1.tup;obtain ⟨c,xc,e2,hcc,rc⟩:=r2.tup;rw [e1] at v1;rw [e2] at v2;rw [show its.getD i Value.none=Value.ref a from v1,show its.getD j Value.none=Value.ref c from v2];obtain ⟨ia,va,oa,hoa,_,na,hda⟩:=I'.tupA ha;obtain ⟨ic,vc,oc,hoc,_,nc,hdc⟩:=I'.tupA hcc;simp only [L2.D.oi] at o1 o2;simp only [L2.D.dep] at d1;simp only [e7] at hb;refine PySem.W.kat_lt hoa hda hoc hdc ?_;refine Sm I' huu hC 0 (fun hb0 _=>?_) o1 o2 (by omega) ra rc va vc hb (by simp);cases T with
       | false=>exact ⟨ka rfl,kb rfl⟩
       | true=>exact absurd hb0 (by simp)
     . refine PySem.W.KasFin.intro F' N' (.head fun p hp=>Nat.ne_of_lt (hlt p hp)) fun h'' c F3 N3=>?_
       have hl3:its.length=ds.length:=by omega
       rw [hl3] at N3;have pm:=(Su (So hoi) (n:=ds.length) (by omega)).1;refine fin (is:=(c9 (ltI ds) (PySem.W.kas_sort ds.length)).toList) (fun i hi=>?_) (zp hoi (by omega)).symm F3 N3 hD;have:=pm.toList.mem_iff.mp hi;simp at this;omega
   . -- at most one
     have hs1:l7 ds=ds:=by
      match ds,hl1,hl2 with
      | [],_,_=>rfl
      | [d],_,_=>rfl
      | _::_::_,a,b=>simp at a;omega
     refine zZ pl.isList (by omega) ?_;obtain ⟨e,he⟩:=sortedAll_at s.heap its ((pairsOf its).map (·.2));have kp:∀b o,s.heap.get? b=some o->(sortedAll s.heap its ((pairsOf its).map (·.2))).get? b=some o:=fun b o q=>sortedAll_old q
     have hout:(pairsOf its).map (·.2)=(List.map (fun i=>its.getD i Value.none) (List.range its.length)).toArray:=by
      have pz:∀l:List Value,l.length<2->(pairsOf l).map (·.2)=(List.map (fun i=>l.getD i Value.none) (List.range l.length)).toArray:=fun l hl=>by
       match l,hl with
       | [],_=>simp [pairsOf]
       | [v],_=>simp [pairsOf]
       | _::_::_,z=>simp at z;omega
      exact pz its (by omega)
     rw [hout] at he kp ⊢;have hN:=N.kept_cons F kp (Nat.le_succ _) he;refine fin (is:=List.range its.length) (fun i hi=>by simp at hi;omega) ?_ (F.kept kp) hN (Heap.get?_none_of_le (Nat.le_succ _));rw [hs1];apply List.ext_getElem?;intro i;rw [List.getElem?_map];by_cases hi:i<its.length
     . rw [List.getElem?_range hi];simp [show i<ds.length by omega]
     . rw [List.getElem?_eq_none (show (List.range its.length).length<=i by simpa using hi),List.getElem?_eq_none (by omega)];rfl
end
noncomputable def V1 (n:Nat) (x:Int):Nat:=if x<0 then (x+(n:Int)).toNat else min x.toNat n
noncomputable def v8 {α:Type} (xs:List α) (x:Int) (y:α):List α:=xs.take (V1 xs.length x)++y::xs.drop (V1 xs.length x)
def Sk:V->List V->Hp->VK->Prop:=fun o vs H Q=>∃l xs i y,o=.ref l/\vs=[.int i,y]/\H l=some (.lst xs)/\-(2 ^ 63)<=i/\i<2 ^ 63/\xs.length<sizeLine/\Q .non (upd H l (.lst (v8 xs i y)))
theorem Vals.ins {xs:List V} {its:List Value} {y:V} {u:Value} (r:Vals xs its) (ru:RelV y u) (i:Int):Vals (v8 xs i y) (v8 its i u):=by unfold v8;rw [r.length];exact (r.take _).append (.cons ru (r.drop _))
theorem zY {α:Type} (xs:List α) (i:Int) (y:α):(v8 xs i y).length=xs.length+1:=by unfold v8;rw [List.length_append,List.length_take,List.length_cons,List.length_drop];omega
section
variable {X:Cx} {K:Frag}
theorem yF:MtM X "list.insert" Sk:=by intro pins s U H x vs v us Q I rx rv h;obtain ⟨l,xs,i,y,rfl,rfl,hH,h1,h2,hz,q⟩:=h;cases rx;obtain ⟨u,w,rfl,ru,rw'⟩:=rv.two;obtain ⟨t,rfl⟩:=ru;obtain ⟨z,its,n,r,hl,e⟩:=I.lstM hH;refine call_meets PySem.F.slot_list_insert ⟨_,e,rfl⟩ PySem.F.entry_list_insert (PySem.F.args_list_insert_3 _ _ _) (PySem.AutoSeq1.list_insert_list_int_val_1 l its.toArray n i t w (by simp [fitsIndex_both h1 h2]) (by rw [List.size_toArray];omega)) ⟨e,?_⟩;refine ⟨.non,_,I.lset (its':=v8 its i w) hH e ?_ (r.ins rw' i) (by rw [zY];omega),rfl,q⟩;show ((its.toArray.extract 0 (V1 its.toArray.size i)).push w++its.toArray.extract (V1 its.toArray.size i))=(v8 its i w).toArray;unfold v8;apply Array.toList_inj.mp;simp;exact List.take_of_length_le (by simp)
noncomputable def V0:D->List D->Option D
 | .lst ds,[.int i,d]=>if -(2 ^ 63)<=i/\i<2 ^ 63/\ds.length<100000 then some (.lst (v8 ds i d)) else none
 | _,_=>none
theorem RDs.ins {H:Hp} {ds:List D} {xs:List V} {d:D} {y:V} (r:RDs K H ds xs) (ry:RD K H d y) (i:Int):RDs K H (v8 ds i d) (v8 xs i y):=by unfold v8;rw [<-r.length];exact (r.take _).append (.cons ry (r.drop _))
theorem qe:V6 K V0 Sk:=by
 intro H0 H a d d' ds vs Q s h0 ob r hm k;unfold V0 at hm;split at hm<;>first | cases hm | skip
 split at hm<;>cases hm;rename_i es i e hl;simp only [OB] at ob;obtain ⟨xs,hx,rx⟩:=ob;obtain ⟨y,z,rfl,q1,q2⟩:=r.duo;cases q1.int;refine ⟨a,xs,_,z,rfl,rfl,hx,hl.1,hl.2.1,by rw [<-rx.length];exact P5 hl.2.2,k _ _ ?_⟩;simp only [OB];exact ⟨_,m7,rx.ins q2 _⟩
noncomputable def U9:D->List D->Option D
 | .lst ds,[.lst es]=>if ds.length+es.length<=100000 then some (.lst (ds++es)) else none
 | _,_=>none
theorem qc:V6 K U9 Tl:=by
 intro H0 H a d d' ds vs Q s h0 ob r hm k;unfold U9 at hm;split at hm<;>first | cases hm | skip
 split at hm<;>cases hm;rename_i es gs hl;simp only [OB] at ob;obtain ⟨xs,hx,rx⟩:=ob;obtain ⟨y,rfl,q1⟩:=r.uno;obtain ⟨b,ys,rfl,hb,rb⟩:=q1.lst;refine ⟨a,b,xs,ys,rfl,rfl,hx,s _ _ hb,by rw [<-rx.length,<-rb.length];exact Q8 hl,k _ _ ?_⟩;simp only [OB];exact ⟨_,m7,rx.append rb⟩
noncomputable def K0 (n:Int) (ns:List Int):Int:=ns.foldl (fun a b=>if b > a then b else a) n
theorem Hq:∀(ns:List Int) (n:Int),K0 n ns∈n::ns/\∀a∈n::ns,a<=K0 n ns
 | [],n=>by simp [K0]
 | b::ns,n=>by
  have ih:=Hq ns (if b > n then b else n);show K0 (if b > n then b else n) ns∈_/\∀a∈_,a<=K0 (if b > n then b else n) ns;generalize K0 (if b > n then b else n) ns=M at ih;obtain ⟨h1,h2⟩:=ih;constructor
  . rcases List.mem_cons.mp h1 with z | z
    . rw [z];split<;>simp
    . simp [z]
  . intro a ha;have h3:=h2 _ List.mem_cons_self;rcases List.mem_cons.mp ha with rfl | ha
    . split at h3<;>omega
    . rcases List.mem_cons.mp ha with rfl | ha
      . split at h3<;>omega
      . exact h2 a (List.mem_cons_of_mem _ ha)
end
section
abbrev HD:=Ex->DS->SR
end
end L2
namespace L2
open PySem PySem.Spec PyProof.Rows
open PySem.Calls
end L2
namespace L2
open PySem PySem.Spec PyProof.Rows
section
open PySem.AutoSeq1 (wpAny_loadPart')
end
end L2
namespace L2
open PySem PySem.Spec PyProof.Rows
section
open PySem.AutoSeq1 (wpAny_loadPart')
end
end L2
namespace L2
open PySem PySem.Spec PyProof.Rows
end L2
namespace L2
open PySem PySem.Spec PyProof.Rows
open PySem.Calls
open Builtin Builtin.ObjectAttr
section
open PySem.AutoSeq1 (wpAny_loadPart')
end
end L2
namespace L2
open PySem PySem.Spec PyProof.Rows
section
variable {prog:Program} {w:World} {A:Around} {R:Result->Shared->Prop} {I:Addr} {fp wr:List Addr} {n:Nat} {P:Nat->Value->Prop} {St:Nat->Heap->Prop}
theorem y0e (kw:List (Str×Value)) (W:Walks prog w A.in1 I fp wr n P St) (bt:Nat->Nat->Bool) (cm:CmpOf prog w A.in1 .Gt P bt) (S:Addr) (nf:S∉fp) :
  ∀(k j:Nat) (s:Shared) (vb:Value) (c:Nat),n - (j+1)=k->j+1<=n->St (j+1) s.heap->P (argBest bt j) vb->s.heap.get? S=some { cls:=.type "list",dict:=none,data:=.seq #[vb,vb] c,slots:=#[] } ->
  (∀v h' tk,P (argBest bt (n - 1)) v->(∀b o,b∉wr->b≠S->s.heap.get? b=some o->h'.get? b=some o)->R (.ok (.ret v)) { s with heap:=h',toks:=tk })->codeAny (model prog w) A (.builtin "max.loop" ⟨[.ref I,.none,.ref S],kw⟩) R s:=by
 have nw:S∉wr:=fun h=>nf (W.sub _ h)
 have nm:(toString "max"++toString ".loop":String)="max.loop":=by decide
 intro k
 induction k with
 | zero=>
  intro j s vb c ek ej st pb eS fin
  have jn:j+1=n:=by omega
  refine codeAny_builtin PySem.F.entry_max_loop ?_
  rw [Around.under_plainId PySem.F.plain_max_loop _]
  show wpAny _ A.in1 (seqItems? (.ref S) >>= _) _ _ _
  refine wpAny_bind (wpAny_seqItems eS rfl ?_)
  show wpAny _ A.in1 (tryCatch (pyNext (.ref I)) _ >>= _) _ _ _
  refine wpAny_bind (wpAny_tryCatch (W.done s _ _ (jn ▸ st) fun h' tk kp=>?_))
  have eS':=kp S _ nw eS
  show wpAny _ A.in1 (updateSeq S (fun _=>#[]) >>= _) _ _ _
  refine wpAny_bind ?_
  refine wpAny_updateSeq eS' rfl (wpAny_bind (wpAny_letGo (wpAny_pure ?_)))
  exact fin vb _ tk (by rw [<-jn];exact pb) fun b o hbw hbS e=>(Heap.get?_update_other _ _ (Ne.symm hbS)).trans (kp b o hbw e)
 | succ k ih=>
  intro j s vb c ek ej st pb eS fin
  have jl:j+1<n:=by omega
  refine codeAny_builtin PySem.F.entry_max_loop ?_
  rw [Around.under_plainId PySem.F.plain_max_loop _]
  show wpAny _ A.in1 (seqItems? (.ref S) >>= _) _ _ _
  refine wpAny_bind (wpAny_seqItems eS rfl ?_)
  show wpAny _ A.in1 (tryCatch (pyNext (.ref I)) _ >>= _) _ _ _
  refine wpAny_bind (wpAny_tryCatch (W.item (j+1) s _ _ jl st fun v h' tk pv st' kp=>?_))
  have eS':=kp S _ nw eS
  show wpAny _ A.in1 (tryCatch (holding [v,v] (richCompare .Gt v vb >>= _)) _ >>= _) _ _ _
  refine wpAny_bind (wpAny_tryCatch (wpAny_holding (wpAny_bind (cm (j+1) (argBest bt j) v vb _ _ _ pv pb ?_))))
  refine wpAny_bind (wpAny_holding (wpAny_truthy_bool ?_))
  refine wpAny_bind (wpAny_letGo (wpAny_pure ?_))
  cases hb:bt (j+1) (argBest bt j) with
  | true=>
   rw [if_pos rfl]
   refine wpAny_bind ?_
   refine wpAny_updateSeq eS' rfl (wpAny_bind (wpAny_letGo ?_))
   rw [nm]
   refine wpAny_pure ⟨plainId_quiet PySem.F.plain_max_loop _,ih (j+1) _ v _ (by omega) jl (W.frame _ _ _ st' fun b hbf o e=>?_) (by simp only [argBest,hb,if_true];exact pv) (Heap.get?_update_self _ eS' rfl) fun v' h'' tk'' pv' kp'=>?_⟩
   . exact (Heap.get?_update_other _ _ (fun z:S=b=>nf (by rw [z];exact hbf))).trans e
   . exact fin v' h'' tk'' pv' fun b o hbw hbS e=>kp' b o hbw hbS ((Heap.get?_update_other _ _ (Ne.symm hbS)).trans (kp b o hbw e))
  | false=>
   rw [if_neg Bool.false_ne_true]
   refine wpAny_bind (wpAny_letGo ?_)
   rw [nm]
   exact wpAny_pure ⟨plainId_quiet PySem.F.plain_max_loop _,ih (j+1) _ vb c (by omega) jl st' (by simp only [argBest,hb,Bool.false_eq_true,if_false];exact pb) eS' fun v' h'' tk'' pv' kp'=>fin v' h'' tk'' pv' fun b o hbw hbS e=>kp' b o hbw hbS (kp b o hbw e)⟩
theorem xI (kw:List (Str×Value)) (W:Walks prog w A.in1 I fp wr n P St) (bt:Nat->Nat->Bool) (cm:CmpOf prog w A.in1 .Gt P bt) (S:Addr) (nf:S∉fp) (n0:0<n) {s:Shared} {c:Nat} (st:St 0 s.heap)
  (eS:s.heap.get? S=some { cls:=.type "list",dict:=none,data:=.seq #[] c,slots:=#[] }) (fin:∀v h' tk,P (argBest bt (n - 1)) v->(∀b o,b∉wr->b≠S->s.heap.get? b=some o->h'.get? b=some o)->R (.ok (.ret v)) { s with heap:=h',toks:=tk }) :
  codeAny (model prog w) A (.builtin "max.loop" ⟨[.ref I,.none,.ref S],kw⟩) R s:=by
 have nw:S∉wr:=fun h=>nf (W.sub _ h)
 have nm:(toString "max"++toString ".loop":String)="max.loop":=by decide
 refine codeAny_builtin PySem.F.entry_max_loop ?_
 rw [Around.under_plainId PySem.F.plain_max_loop _]
 show wpAny _ A.in1 (seqItems? (.ref S) >>= _) _ _ _
 refine wpAny_bind (wpAny_seqItems eS rfl ?_)
 show wpAny _ A.in1 (tryCatch (pyNext (.ref I)) _ >>= _) _ _ _
 refine wpAny_bind (wpAny_tryCatch (W.item 0 s _ _ n0 st fun v h' tk pv st' kp=>?_))
 have eS':=kp S _ nw eS
 show wpAny _ A.in1 (updateSeq S (fun _=>#[v,v]) >>= _) _ _ _
 refine wpAny_bind ?_
 refine wpAny_updateSeq eS' rfl ?_
 rw [nm]
 refine wpAny_pure ⟨plainId_quiet PySem.F.plain_max_loop _,y0e kw W bt cm S nf _ 0 _ v _ rfl n0 (W.frame _ _ _ st' fun b hbf o e=>?_) pv (Heap.get?_update_self _ eS' rfl) fun v' h'' tk'' pv' kp'=>?_⟩
 . exact (Heap.get?_update_other _ _ (fun z:S=b=>nf (by rw [z];exact hbf))).trans e
 . exact fin v' h'' tk'' pv' fun b o hbw hbS e=>kp' b o hbw hbS ((Heap.get?_update_other _ _ (Ne.symm hbS)).trans (kp b o hbw e))
theorem vZ (q:Str) (dv:Value) (W:Walks prog w A.in1 I fp wr n P St) (S:Addr) (nf:S∉fp) (n0:n=0) {s:Shared} {c:Nat} (st:St 0 s.heap)
  (eS:s.heap.get? S=some { cls:=.type "list",dict:=none,data:=.seq #[] c,slots:=#[] }) (fin:∀h' tk,(∀b o,b∉wr->b≠S->s.heap.get? b=some o->h'.get? b=some o)->R (.ok (.ret dv)) { s with heap:=h',toks:=tk }) :
  codeAny (model prog w) A (.builtin "max.loop" ⟨[.ref I,.none,.ref S],[(q,dv)]⟩) R s:=by
 refine codeAny_builtin PySem.F.entry_max_loop ?_
 rw [Around.under_plainId PySem.F.plain_max_loop _]
 show wpAny _ A.in1 (seqItems? (.ref S) >>= _) _ _ _
 refine wpAny_bind (wpAny_seqItems eS rfl ?_)
 show wpAny _ A.in1 (tryCatch (pyNext (.ref I)) _ >>= _) _ _ _
 refine wpAny_bind (wpAny_tryCatch (W.done s _ _ (n0 ▸ st) fun h' tk kp=>?_))
 show wpAny _ A.in1 (rule _ >>= _) _ _ _
 exact wpAny_bind (wpAny_rule (wpAny_pure (fin h' tk fun b o hb _ e=>kp b o hb e)))
end
theorem vY (a v:Value):argsOk "max" ⟨[a],[(Str.ofString "default",v)]⟩:=by unfold argsOk;kernel_rfl
section
variable {prog:Program} {w:World} {A:Around} {E:Value->Shared->Prop} {s:Shared}
theorem vX {x dv:Value} {Q:Value->Shared->Prop}
  (h:wpAny (model prog w) A.in1 (pyIter x) (fun it s₂=>∃I fp wr n P St bt,it=.ref I/\Walks prog w A.in1 I fp wr n P St/\St 0 s₂.heap/\(∀b∈fp,b<s₂.heap.objs.size)/\CmpOf prog w A.in1 .Gt P bt /\
   ∀v h' tk,((0<n/\P (argBest bt (n - 1)) v)\/(n=0/\v=dv))->(∀b o,b∉wr->s₂.heap.get? b=some o->h'.get? b=some o)->Q v { s₂ with heap:=h',toks:=tk }) E s) :
  wpAny (model prog w) A (call (.builtin "max") [x] [(Str.ofString "default",dv)]) Q E s:=by
 have nm:(toString "max"++toString ".loop":String)="max.loop":=by decide
 refine kmk_tree PySem.F.kind_max PySem.F.plain_max PySem.F.entry_max (vY _ _) ?_
 show wpAny _ A.in1 (Builtin.Builtins.bindParams "max" ["key","default"] 0 ⟨[],[(Str.ofString "default",dv)]⟩ >>= _) _ _ s
 refine wpAny_bind (wpAny_of_eq (show Builtin.Builtins.bindParams "max" ["key","default"] 0 ⟨[],[(Str.ofString "default",dv)]⟩=pure [none,some dv] from rfl) ?_)
 refine wpAny_bind (wpAny_pure ?_)
 refine wpAny_bind (wpAny_mono h (fun it s₂ g=>?_) fun _ _ e=>e)
 obtain ⟨I,fp,wr,n,P,St,bt,rfl,W,st,bd,cm,hQ⟩:=g
 refine wpAny_bind (wpAny_newObj_type ?_)
 have nf:s₂.heap.objs.size∉fp:=fun hm=>Nat.lt_irrefl _ (bd _ hm)
 rw [nm]
 refine wpAny_pure ⟨plainId_quiet PySem.F.plain_max_loop _,?_⟩
 by_cases n0:0<n
 . exact xI _ W bt cm s₂.heap.objs.size nf n0 (W.frame _ _ _ st fun b _ o e=>Heap.get?_push_of_some _ e) (Heap.get?_push_size _ rfl) fun v h' tk pv kp=>
    hQ v h' tk (.inl ⟨n0,pv⟩) fun b o hbw e=>kp b o hbw (Nat.ne_of_lt (Heap.lt_size e)) (Heap.get?_push_of_some _ e)
 . exact vZ _ dv W s₂.heap.objs.size nf (by omega) (W.frame _ _ _ st fun b _ o e=>Heap.get?_push_of_some _ e) (Heap.get?_push_size _ rfl) fun h' tk kp=>
    hQ dv h' tk (.inr ⟨by omega,rfl⟩) fun b o hbw e=>kp b o hbw (Nat.ne_of_lt (Heap.lt_size e)) (Heap.get?_push_of_some _ e)
variable {h₀:Heap} {L:Addr} {m:Str->Option Value} {news:List (Addr×Obj)}
theorem vW {l:Addr} {vs:List Value} {ns:List Int} {dv:Value} {Q:Value->Shared->Prop} (hh:A.handled=none) (F:Fr h₀ L s.heap m) (N:News h₀ L s.heap news) (hl:s.heap.IsList l vs.toArray) (hi:IntsAre vs ns)
  (h:∀v h' tk,Fr h₀ L h' m->News h₀ L h' news->((ns=[]/\v=dv)\/∃M t,v=.int M t/\M∈ns/\∀a,a∈ns->a<=M)->Q v { s with heap:=h',toks:=tk }) :
  wpAny (model prog w) A (call (.builtin "max") [.ref l] [(Str.ofString "default",dv)]) Q E s:=by
 obtain ⟨xs,e⟩:=hi.allInts.items
 have en:ns=xs.toList.map (·.1):=by rw [<-hi.numsOf,<-nums_intItems,<-e]
 have el:ns.length=xs.size:=by rw [en,List.length_map,Array.length_toList]
 rw [e] at hl
 refine vX (iter_intList hl fun s₂ e st bd lI=>?_)
 subst e
 refine ⟨_,_,_,_,_,_,_,rfl,Walks.list (A:=A.in1) hh _ l lI (intItems xs),st,bd,CmpOf.ints_gt (numAt xs) (fun _ _=>intItems_at),fun v h' tk pv kp=>?_⟩
 have kp':=old_kept kp
 refine h v h' tk (F.grownK kp') (N.grown kp') ?_
 rcases pv with ⟨n0,pv⟩ | ⟨n0,rfl⟩
 . right;have n0':0<xs.size:=by simpa [intItems] using n0
   have pv':(intItems xs)[argBest (fun i j=>decide (numAt xs i > numAt xs j)) (xs.size - 1)]?=some v:=by simpa [intItems] using pv
   obtain ⟨t,rfl⟩:=intItems_at pv';obtain ⟨h1,h2⟩:=argBest_gt (numAt xs) (xs.size - 1);refine ⟨_,t,rfl,?_,fun a ha=>?_⟩
   . rw [en,numAt_eq];exact Jj (by rw [List.length_map,Array.length_toList];omega)
   . rw [en] at ha;obtain ⟨j,hj,rfl⟩:=mem_getD ha;rw [List.length_map,Array.length_toList] at hj;rw [<-numAt_eq];exact h2 j (by omega)
 . left;have:xs.size=0:=by simpa [intItems] using n0
   exact ⟨List.length_eq_zero_iff.mp (by omega),rfl⟩
end
noncomputable def mxD (d:Int):List Int->Int
 | []=>d
 | n::ns=>K0 n ns
noncomputable def S0:List D->Option D
 | [.lst ds,.int d]=>(p8 ds).map fun ns=>.int (mxD d ns)
 | _=>none
def Ey:List V->Hp->VK->Prop:=fun xs H Q=>∃p ns d,xs=[.ref p,.int d]/\H p=some (.lst (ns.map V.int))/\Q (.int (mxD d ns)) H
theorem TEd.mono' {K:Frag} {EX:XW} {fr:Bool} {f:DE->R D} {U:St} {H:Hp} {Q Q':VK} (h:TEd K EX fr f U H Q) (hq:∀v H',Q v H'->Q' v H'):TEd K EX fr f U H Q':=by obtain ⟨sx,ρ,H0,s,e,h⟩:=h;exact ⟨sx,ρ,H0,s,e,h.mono fun a k v H' o=>hq _ _ (k v H' o)⟩
section
variable {X:Cx} {EX:XW} {e d:Expr} {p kp pos:Pos} {x:Str} {t1 t2:TE} {f1 f2:DE->R D}
theorem vV (hc:X.calm=true) (hg:Gl X x) (hm:X.mg x=none) (hv:bootBuiltins x=some (.builtin "max")) (ha:PE X e t1) (hd:PE X d t2) (hn:x≠"__name__":=by decide) (hdb:(x==("__debug__":Str))=false:=by decide)
  (hs:starEach [e] X.env=(false,eval e X.env)::starEach [] X.env:=by rfl) :
  PE X (.Call (.Name x p) [e] [⟨some (Str.ofString "default"),d,kp⟩] pos) (tCB Ey (G5 t1 (G5 t2 N1))):=by
 intro pins s U H Q I h
 refine wpAny_Call_Name_kw (J0 I hg hm hv ?_ hn hdb)
 refine callWith_kw ?_ (by rw [hs];rfl) (by rw [hs];rfl)
 refine thn (L8 ha pa_nil hs pos pins s U H (fun vs H1=>t2 U H1 fun u H2=>Ey (vs++[u]) H2 Q) I h) fun us s1 ⟨vs,H1,I1,r1,q1⟩=>?_
 refine kws_cons (thn (hd pins s1 U H1 _ I1 q1) fun u s2 ⟨y,H2,I2,r2,q2⟩=>kws_nil ?_)
 obtain ⟨a,ns,i,e1,ea,q⟩:=q2
 obtain ⟨rfl,rfl⟩:vs=[.ref a]/\y=.int i:=by
  cases vs with
  | nil=>cases e1
  | cons b r=>
   cases r with
   | nil=>cases e1;exact ⟨rfl,rfl⟩
   | cons c r=>cases r<;>cases e1
 obtain ⟨u1,rfl,ru⟩:=t9 r1
 cases ru
 obtain ⟨t,rfl⟩:=r2
 obtain ⟨its,rv,pl,_⟩:=I2.list (.of ea)
 obtain ⟨m,hnn,_⟩:=id I2.loc
 refine vW (I2.ok.hd hc) (Att.fr_all hnn) (Jx (g:=Att.noObjs s2.heap) (L:=X.env.locals)) pl.isList (Do rv) fun v h' tk F N hM=>?_
 rcases hM with ⟨rfl,rfl⟩ | ⟨M,t,rfl,hM,hle⟩
 . exact ⟨.int i,H2,I2.frn hnn F N,⟨_,rfl⟩,q⟩
 . cases ns with
   | nil=>cases hM
   | cons n ns=>
    obtain ⟨a1,a2⟩:=Hq ns n
    have e:M=K0 n ns:=Int.le_antisymm (a2 M hM) (hle _ a1)
    exact ⟨.int M,H2,I2.frn hnn F N,⟨t,rfl⟩,by rw [e];exact q⟩
theorem vU {K:Frag}:y0 K false S0 Ey:=by
 intro H0 H xs ds z Q s r ho k;unfold S0 at ho;split at ho<;>first | cases ho | skip
 rename_i es i;cases hq:p8 es with
 | none=>rw [hq] at ho;cases ho
 | some ns=>
  rw [hq] at ho
  cases ho
  simp only [RDs] at r
  obtain ⟨x1,r1,rfl,q1,x2,r2,rfl,q2,rfl⟩:=r
  obtain ⟨a,ys,rfl,ha,ra⟩:=q1.lst
  have e:=U3 hq ra
  subst e
  cases q2.int
  exact ⟨a,ns,i,rfl,s _ _ ha,k _ H (.pure s (.mkInt _))⟩
theorem qb (hc:X.calm=true) (hg:Gl X x) (hm:X.mg x=none) (hv:bootBuiltins x=some (.builtin "max")) (ha:QE X EX false e f1) (hd:QE X EX false d f2) (hn:x≠"__name__":=by decide) (hdb:(x==("__debug__":Str))=false:=by decide)
  (hs:starEach [e] X.env=(false,eval e X.env)::starEach [] X.env:=by rfl) :
  QE X EX false (.Call (.Name x p) [e] [⟨some (Str.ofString "default"),d,kp⟩] pos) (eCB S0 (b6 f1 (b6 f2 b8))):=
 ⟨(vV hc hg hm hv ha.h hd.h hn hdb hs).imp fun _ _ _ q=>(Gp (Be vU q)).mono' fun _ _ q=>(Gp q).mono' fun _ _ q=>Nn q⟩
end
noncomputable def SR.thn (r:SR) (g:DS->SR):SR:=match r with
 | .nx ρ'=>g ρ'
 | r=>r
noncomputable def SR.out (fr:Bool) (r:SR):R D:=match r with
 | .rt d=>.ok d
 | .nx _=>if fr=true then .st else .ok .non
 | .er x=>.er x
 | _=>.st
theorem wT (g1 g2:DS->SR) (ρ:DS):c8 g1 g2 ρ=(g1 ρ).thn g2:=rfl
theorem wS (ρ:DS) (g:DS->SR):(SR.nx ρ).thn g=g ρ:=rfl
theorem zvc (d:D) (g:DS->SR):(SR.rt d).thn g=.rt d:=rfl
theorem zvd (g:DS->SR):(SR.st).thn g=.st:=rfl
theorem zrd (c:Prop) [Decidable c] (a b:SR) (g:DS->SR):(if c then a else b).thn g=if c then a.thn g else b.thn g:=by split<;>rfl
theorem G6 (fr:Bool) (n k:Nat) (g:DS->SR) (ds:List D):mOf fr n k g ds=if ds.length=n then (g (ds.map .im++List.replicate k .em)).out fr else .st:=rfl
theorem zve (fr:Bool) (d:D):(SR.rt d).out fr=.ok d:=rfl
theorem zvf (ρ:DS):(SR.nx ρ).out false=.ok .non:=rfl
theorem zvg (fr:Bool):(SR.st).out fr=.st:=rfl
theorem zre (fr:Bool) (c:Prop) [Decidable c] (a b:SR):(if c then a else b).out fr=if c then a.out fr else b.out fr:=by split<;>rfl
theorem Z0 (m:List Bool) (f:DE->R D) (ρ:DS):j5 m f ρ=(f (vis m ρ)).toS fun d=>.rt d:=rfl
theorem Sj (fr:Bool) (i:Nat) (m:List Bool) (f:DE->R D) (ρ:DS):e8 fr i m f ρ=(f (vis m ρ)).toS fun d=>.nx (F4 fr i d (k9 (keeps fr d) m ρ)):=rfl
theorem qa (t:DE->R Bool) (g1 g2:DS->SR) (ρ:DS):sIf t g1 g2 ρ=(t (see ρ)).toS fun b=>if b=true then g1 ρ else g2 ρ:=rfl
theorem J1 {α:Type} (a:α) (k:α->SR):R.toS (.ok a) k=k a:=rfl
theorem zvi {α:Type} (k:α->SR):R.toS (.st:R α) k=.st:=rfl
theorem zrf {α:Type} (c:Prop) [Decidable c] (a b:R α) (k:α->SR):R.toS (if c then a else b) k=if c then R.toS a k else R.toS b k:=by split<;>rfl
theorem Gg {α:Type} (a:α):(R.ok a).noE=.ok a:=rfl
theorem y0f (m:List Bool):vis m []=[]:=by cases m<;>rfl
theorem y0g (s:Sl) (r:DS):vis [] (s::r)=s.see false::vis [] r:=rfl
theorem y0h (b:Bool) (m:List Bool) (s:Sl) (r:DS):vis (b::m) (s::r)=s.see b::vis m r:=rfl
theorem Fq:see []=[]:=rfl
theorem Fp (s:Sl) (r:DS):see (s::r)=s.see true::see r:=rfl
theorem zvj (b:Bool):Sl.see b .em=none:=rfl
theorem Gu (b:Bool) (d:D):Sl.see b (.im d)=some d:=rfl
theorem Ji (d:D):Sl.see true (.ow d)=some d:=rfl
theorem zrg (d:D):Sl.see false (.ow d)=none:=rfl
theorem zvk (m:List Bool) (ρ:DS):k9 true m ρ=ρ:=rfl
theorem zm6 (fr:Bool) (i:Int):keeps fr (.int i)=true:=by cases fr<;>rfl
theorem Wc (fr:Bool) (ds:List D):keeps fr (.tup ds)=j4 ds:=by cases fr<;>simp only [keeps,D.noL,D.shal,if_true,Bool.false_eq_true,if_false]
theorem Dl (ds:List D):keeps true (.lst ds)=j4 ds:=rfl
theorem zvl:j4 []=true:=by simp only [j4]
theorem Si (d:D) (r:List D):j4 (d::r)=(d.noL&&j4 r):=by simp only [j4]
theorem Ab (i:Int):(D.int i).noL=true:=by simp only [D.noL]
theorem zrh (ds:List D):(D.tup ds).noL=j4 ds:=by simp only [D.noL]
theorem Uw (ds:List D):(D.lst ds).noL=false:=by simp only [D.noL]
theorem y0i (i:Nat) (d:D) (ρ:DS):F4 false i d ρ=ρ.set i (.im d):=rfl
theorem y0j (i:Nat) (d:D) (ρ:DS):F4 true i d ρ=ρ.set i (.ow d):=rfl
theorem y0k (ρ:DE):sel [] ρ=[]:=rfl
theorem y0l (j:Nat) (r:List Nat) (ρ:DE):sel (j::r) ρ=(ρ[j]?).getD none::sel r ρ:=rfl
theorem y3s (d:D) (r:DE):a9 0 (some d::r)=.ok d:=rfl
theorem y3t (i:Nat) (d:Option D) (r:DE):a9 (i+1) (d::r)=a9 i r:=rfl
theorem y0m (g:Int->Int->D) (i j:Int):dI g (.int i) (.int j)=some (g i j):=rfl
theorem Gf (C:Int->Int->Prop) [∀i j,Decidable (C i j)] (g:Int->Int->D) (i j:Int):dIC C g (.int i) (.int j)=if C i j then some (g i j) else none:=rfl
theorem y0n (b:Bool):asB (.bl b)=some b:=rfl
theorem zo6 (b:Bool):C1 (.bl b)=some b:=rfl
theorem O4 (i j:Int):(i==j)=decide (i=j):=by rw [Bool.eq_iff_iff];simp
theorem zvm (i j:Int):dEq (.int i) (.int j)=some (.bl (decide (i=j))):=by unfold dEq;rw [if_pos (by simp [D.pl,D.dep])];simp only [eqD,O4]
theorem wR (i j:Int):dNe (.int i) (.int j)=some (.bl (!decide (i=j))):=by unfold dNe;rw [if_pos (by simp [D.pl,D.dep])];simp only [eqD,O4]
theorem zvn (a b c e:Int):dEq (.tup [.int a,.int b]) (.tup [.int c,.int e])=some (.bl (decide (a=c)&&decide (b=e))):=by unfold dEq;rw [if_pos (by simp [D.pl,D.dep,pls,j2])];simp only [eqD,l0,O4,Bool.and_true]
theorem zvo (a b c e:Int):dNe (.tup [.int a,.int b]) (.tup [.int c,.int e])=some (.bl (!(decide (a=c)&&decide (b=e)))):=by unfold dNe;rw [if_pos (by simp [D.pl,D.dep,pls,j2])];simp only [eqD,l0,O4,Bool.and_true]
theorem Gs (a:D) (r:List D):dIx (.tup (a::r)) (.int 0)=some a:=by simp only [dIx,dOr,B3,y3c]
theorem wQ (a b:D) (r:List D):dIx (.tup (a::b::r)) (.int 1)=some b:=by simp only [dIx,dOr,B3,y3d]
theorem kZ {ds:List D} {j:Nat} {d:D} (h:ds[j]?=some d):dIx (.lst ds) (.int (j:Int))=some d:=by simp only [dIx,dOr,B3,Jc h]
theorem wP (ns:List D):o8 [.lst ns]=some (.int ns.length):=rfl
theorem zvq (ns:List D):o8 [.tup ns]=some (.int ns.length):=rfl
theorem y0o (b c:Bool):(if b=true then R.ok true else R.ok c)=R.ok (b||c):=by cases b<;>rfl
theorem zvr (b c:Bool):(if b=true then R.ok c else R.ok false)=R.ok (b&&c):=by cases b<;>rfl
theorem zri (b c:Bool):(if b=true then R.ok (D.bl c) else R.ok (D.bl false))=R.ok (D.bl (b&&c)):=by cases b<;>rfl
theorem zvs (i:Int):r8 "int" (.int i)=some (.bl true):=by simp [r8,B8,D5,C7]
theorem zvt (i:Int):r8 "bool" (.int i)=some (.bl false):=by simp [r8,B8,D5,C7]
theorem wO (ds:List D):r8 "tuple" (.tup ds)=some (.bl true):=by simp [r8,B8,D5,C7]
theorem zvu (ds:List D):r8 "list" (.lst ds)=some (.bl true):=by simp [r8,B8,D5,C7]
noncomputable def SR.itr (r:SR) (k:DS->SR):SR:=match r with
 | .nx ρ2=>k ρ2
 | .ct ρ2=>k ρ2
 | .bk ρ2=>.nx ρ2
 | .rt d=>.rt d
 | .er x=>.er x
 | .st=>.st
theorem Sf (ρ:DS) (k:DS->SR):(SR.nx ρ).itr k=k ρ:=rfl
theorem J4 {bn:D->Option (List D)} {f:DE->R D} {cs:DE} {α:Type} {en:α->D} {bs:α->List D} {g:α->D} (xs:List α) (hb:∀x∈xs,bn (en x)=some (bs x)) (hf:∀x∈xs,f ((bs x).map some++cs)=.ok (g x)):x9 bn k6 f cs (xs.map en)=.ok (xs.map g):=by
 induction xs with
 | nil=>rfl
 | cons x xs ih=>
  simp only [List.map_cons,x9,hb x (by simp),k6,R.of_some,R.bind_ok,Gg,if_true,hf x (by simp),ih (fun y hy=>hb y (by simp [hy])) (fun y hy=>hf y (by simp [hy]))]
theorem P0 {bn:D->Option (List D)} {t:DE->R Bool} {f:DE->R D} {cs:DE} {α:Type} {en:α->D} {bs:α->List D} {p:α->Bool} {g:α->D} (xs:List α) (hb:∀x∈xs,bn (en x)=some (bs x)) (ht:∀x∈xs,t ((bs x).map some++cs)=.ok (p x)) (hf:∀x∈xs,p x=true->f ((bs x).map some++cs)=.ok (g x)):x9 bn t f cs (xs.map en)=.ok ((xs.filter p).map g):=by
 induction xs with
 | nil=>rfl
 | cons x xs ih=>
  have ih':=ih (fun y hy=>hb y (by simp [hy])) (fun y hy=>ht y (by simp [hy])) (fun y hy=>hf y (by simp [hy]))
  simp only [List.map_cons,x9,hb x (by simp),ht x (by simp),R.of_some,R.bind_ok,Gg,ih']
  cases e:p x with
  | true=>simp only [if_true,hf x (by simp) e,Gg,R.bind_ok,List.filter_cons,e,List.map_cons]
  | false=>simp only [Bool.false_eq_true,if_false,List.filter_cons,e]
theorem O8 {tg:Tg} {g:DS->SR} {α:Type} {en:α->D} (P:List α->DS->Prop) (xs:List α) (ρ:DS) (h0:P xs ρ) (hs:∀x r ρ,P (x::r) ρ->∃ρ1 ρ2,N5 tg (en x) ρ=some ρ1/\(g ρ1=.nx ρ2\/g ρ1=.ct ρ2)/\P r ρ2):∃ρ',B4 tg g (xs.map en) ρ=.nx ρ'/\P [] ρ':=by
 induction xs generalizing ρ with
 | nil=>exact ⟨ρ,rfl,h0⟩
 | cons x r ih=>
  obtain ⟨ρ1,ρ2,e1,e2,q⟩:=hs x r ρ h0
  obtain ⟨ρ',e',p'⟩:=ih ρ2 q
  refine ⟨ρ',?_,p'⟩
  rcases e2 with e2 | e2<;>simp only [List.map_cons,B4,e1,e2,e']
noncomputable def L (ns:List Int):D:=.lst (ns.map .int)
theorem y8 {α:Type} (f:α->D) (xs:List α) (h:∀x∈xs,(f x).noL=true):j4 (xs.map f)=true:=by
 induction xs with
 | nil=>simp only [List.map_nil,j4]
 | cons a r ih=>simp only [List.map_cons,j4,h a (by simp),ih fun x hx=>h x (by simp [hx]),Bool.and_self]
theorem zvv (ns:List Int):keeps true (L ns)=true:=by unfold L;rw [Dl];exact y8 _ _ fun x _=>Ab x
theorem y0p (ns:List Int):o8 [L ns]=some (.int ns.length):=by unfold L;rw [wP,List.length_map]
theorem zvw (ns:List Int):G3 [L ns]=some (L ns):=rfl
theorem zrj (ns:List Int):items (L ns)=some (ns.map .int):=rfl
theorem Md {ns:List Int} {x:Int} (h0:0<=x) (h1:x.toNat<ns.length):dIx (L ns) (.int x)=some (.int (ns.getD x.toNat 0)):=by
 have e:(ns.map D.int)[x.toNat]?=some (.int (ns.getD x.toNat 0)):=by rw [List.getElem?_map,List.getElem?_eq_getElem h1,List.getD_eq_getElem?_getD,List.getElem?_eq_getElem h1];rfl
 have:=kZ e;rwa [show ((x.toNat:Nat):Int)=x by omega] at this
theorem Mc {ns:List Int} {k:Nat} (h1:k<ns.length):dIx (L ns) (.int (k:Int))=some (.int (ns.getD k 0)):=Md (x:=(k:Int)) (by omega) (by simpa using h1)
theorem Ng {ns:List Int} {x:Int} (h:ns.length<100000):r6 (L ns) [.int x]=some (L (ns++[x])):=by simp only [L,r6,List.length_map,h,if_true,List.map_append,List.map_cons,List.map_nil]
theorem kY {n:Nat} {x:Int} (h0:0<=x) (h1:x<n):ixN n x=some x.toNat:=by unfold ixN;rw [if_pos h0,if_pos h1]
theorem map_set {α β:Type} (f:α->β) (xs:List α) (j:Nat) (a:α):(xs.map f).set j (f a)=(xs.set j a).map f:=by rw [List.map_set]
theorem Ew {ns:List Int} {x y:Int} (h0:0<=x) (h1:x<ns.length):C6 (L ns) (.int x) (.int y)=some (L (ns.set x.toNat y)):=by simp only [L,C6,List.length_map,kY h0 h1,Option.map_some,map_set]
theorem y0s {ns:List Int} {x y:Int} (h0:0<=x) (h1:x<=ns.length) (h:ns.length<100000):V0 (L ns) [.int x,.int y]=some (L (ns.take x.toNat++y::ns.drop x.toNat)):=by simp only [L,V0,List.length_map];rw [if_pos (by refine ⟨by omega,?_,h⟩;have:ns.length<2 ^ 63:=(by omega);omega)];congr 2;simp only [v8,V1,List.length_map,if_neg (show ¬x<0 by omega),List.map_append,List.map_take,List.map_cons,List.map_drop];rw [Nat.min_eq_left (by omega)]
theorem zvz (ns:List Int) (lo hi:Option Int):dSl (.scr ns) lo hi=some (L (B2 ns lo hi)):=rfl
theorem y0t (ns:List Int):V3 [L ns]=some (.int ns.sum):=by simp only [L,V3,Ah,Option.map_some]
theorem all_map {α:Type} (xs:List α) (f:α->Bool):M7 [.lst (xs.map fun x=>D.bl (f x))]=some (.bl (xs.all f)):=by
 have:xs.map (fun x=>D.bl (f x))=(xs.map f).map D.bl:=by rw [List.map_map];rfl
 rw [this];simp only [M7,Xa,Option.map_some,List.all_map];rfl
theorem R9 (ns:List Int):(L ns).dep<=1/\(L ns).pl=true:=by
 have:∀ns:List Int,j2 (ns.map D.int)=0/\pls (ns.map D.int)=true:=fun ns=>by
  induction ns with
  | nil=>simp only [List.map_nil,j2,pls,and_self]
  | cons a r ih=>simp only [List.map_cons,j2,pls,D.dep,D.pl,ih.1,ih.2,Bool.and_self,Nat.max_self,and_self]
 simp only [L,D.dep,D.pl,this];exact ⟨by omega,trivial⟩
theorem Ge:∀(a b:List Int),l0 (a.map D.int) (b.map D.int)=decide (a=b)
 | [],[]=>by simp [l0]
 | [],_::_=>by simp [l0]
 | _::_,[]=>by simp [l0]
 | x::a,y::b=>by simp only [List.map_cons,l0,eqD,Ge a b,List.cons.injEq,Bool.decide_and,O4]
theorem y41 (a b:List Int):dEq (L a) (L b)=some (.bl (decide (a=b))):=by unfold dEq;rw [if_pos ⟨(R9 a).2,(R9 b).2,by have:=(R9 a).1;omega⟩];simp only [L,eqD,Ge]
theorem y2y (a b:List Int):dNe (L a) (L b)=some (.bl (!decide (a=b))):=by unfold dNe;rw [if_pos ⟨(R9 a).2,(R9 b).2,by have:=(R9 a).1;omega⟩];simp only [L,eqD,Ge]
theorem Uf {tg:Tg} {g:DS->SR} (n:Nat) (en:Nat->D) (P:Nat->DS->Prop) (ρ:DS) (h0:P 0 ρ)
  (hs:∀i,i<n->∀ρ,P i ρ->∃ρ1 ρ2,N5 tg (en i) ρ=some ρ1/\(g ρ1=.nx ρ2\/g ρ1=.ct ρ2)/\P (i+1) ρ2) :
  ∃ρ',B4 tg g ((List.range n).map en) ρ=.nx ρ'/\P n ρ':=by
 have key:∀k s ρ,s+k=n->P s ρ->∃ρ',B4 tg g ((List.range' s k).map en) ρ=.nx ρ'/\P n ρ':=by
  intro k;induction k with
  | zero=>intro s ρ e h;exact ⟨ρ,rfl,by rwa [<-e]⟩
  | succ k ih=>
   intro s ρ e h
   obtain ⟨ρ1,ρ2,e1,e2,q⟩:=hs s (by omega) ρ h
   obtain ⟨ρ',e',p'⟩:=ih (s+1) ρ2 (by omega) q
   refine ⟨ρ',?_,p'⟩
   rw [List.range'_succ,List.map_cons]
   rcases e2 with e2 | e2<;>simp only [B4,e1,e2,e']
 rw [List.range_eq_range']
 exact key n 0 ρ (by omega) h0
theorem xH (n:Nat) (g:Nat->D):((zD 0 ((List.range n).map g).length).zip ((List.range n).map g)).map (fun p=>D.tup [p.1,p.2])=(List.range n).map fun (i:Nat)=>D.tup [.int (i:Int),g i]:=by
 simp only [zD,List.length_map,List.length_range];have:∀(l:List Nat),((l.map fun (i:Nat)=>D.int (0+i)).zip (l.map g)).map (fun p=>D.tup [p.1,p.2])=l.map fun (i:Nat)=>D.tup [.int (i:Int),g i]:=fun l=>by
  induction l with
  | nil=>rfl
  | cons a r ih=>simp only [Int.zero_add] at ih ⊢;simp only [List.map_cons,List.zip_cons_cons,ih]
 exact this _
theorem kX {α:Type} (xs:List α) (d:α):xs=(List.range xs.length).map fun i=>xs.getD i d:=by
 apply List.ext_getElem?;intro i;by_cases h:i<xs.length
 . rw [List.getElem?_map,List.getElem?_range h,Option.map_some,List.getD_eq_getElem?_getD,List.getElem?_eq_getElem h];rfl
 . rw [List.getElem?_eq_none (by omega),List.getElem?_eq_none (by simp;omega)]
theorem y0u (ns:List Int):isT "list" (L ns)=true:=by simp only [L,isT,beq_self_eq_true]
theorem zw1 (m:List Bool) (ρ:DS):k9 false m ρ=frz m ρ:=rfl
theorem y0v (ρ:DS):frz [] ρ=ρ:=by cases ρ<;>rfl
theorem y0w (m:List Bool):frz m []=[]:=by cases m<;>rfl
theorem y0x (b:Bool) (m:List Bool) (s:Sl) (r:DS):frz (b::m) (s::r)=s.frz b::frz m r:=rfl
theorem zw2 (b:Bool) (d:D):Sl.frz b (.im d)=.im d:=rfl
theorem zrl (d:D):Sl.frz false (.ow d)=.ow d:=rfl
theorem y0y {i j:Int} (h:-(2 ^ 64)<i/\i<2 ^ 64):Bc (.int i) (.int j)=some (.int (i * j)):=by unfold Bc;rw [Gf,if_pos (show CMul i j from Or.inl h)]
theorem G0 {i j:Int} (h:0<j):v4 (.int i) (.int j)=some (.int (i % j)):=by unfold v4;rw [Gf,if_pos h]
theorem Ev {i j:Int} (h:0<j/\j<1073741824):N0 (.int i) (.int j)=some (.int (i / j)):=by unfold N0;rw [Gf,if_pos (show N2 i j from h)]
theorem vT {i j:Int} (hi:-100000<=i/\i<=100000) (hj:-100000<=j/\j<=100000):-(2 ^ 62)<=i/\i<2 ^ 62/\-(2 ^ 62)<=j/\j<2 ^ 62:=by omega
theorem vS {j:Int} (hj:-100000<=j/\j<=100000):-(2 ^ 62)<=j/\j<2 ^ 62:=by omega
theorem Nf {fs:DE->R (List D)} {ρ:DE} (i j:Int) (hi:-100000<=i/\i<=100000) (hj:-100000<=j/\j<=100000) (h:fs ρ=.ok [.int i,.int j]):Q7 fs ρ=.ok (zD i (j - i).toNat):=by unfold Q7;rw [h,R.bind_ok];show R.of (if _ then _ else _)=_;rw [if_pos (vT hi hj)];rfl
theorem Eu {fs:DE->R (List D)} {ρ:DE} (j:Int) (hj:-100000<=j/\j<=100000) (h:fs ρ=.ok [.int j]):M5 fs ρ=.ok (zD 0 j.toNat):=by unfold M5;rw [h,R.bind_ok];show R.of (if _ then _ else _)=_;rw [if_pos (vS hj)];rfl
theorem zrq (ds:List D):items (.lst ds)=some ds:=rfl
theorem zrr (ds:List D):items (.tup ds)=some ds:=rfl
noncomputable def T2 (p:Int×Int):D:=.tup [.int p.1,.int p.2]
noncomputable def T3 (p:Int×Int×Int):D:=.tup [.int p.1,.int p.2.1,.int p.2.2]
theorem Kb {l l':List D} (h:ois l'=true) (p:l.Perm l'):l7 l=l7 l':=
 J3 (O9 ((y9 l).trans p) h) (((y9 l).trans p).trans (y9 l').symm) (E6 (O9 p h)) (E6 h)
noncomputable def Q6 {α:Type} (lt:α->α->Bool) (d:α):List α->List α
 | []=>[d]
 | e::r=>if lt e d=true then e::Q6 lt d r else d::e::r
noncomputable def F9 {α:Type} (lt:α->α->Bool):List α->List α
 | []=>[]
 | d::r=>Q6 lt d (F9 lt r)
section
variable {α:Type} (f:α->D)
theorem Ue (d:α):∀l:List α,F1 (f d) (l.map f)=(Q6 (fun a b=>ltT (f a) (f b)) d l).map f
 | []=>rfl
 | e::r=>by
  simp only [List.map_cons,F1,Q6];split
  . rw [List.map_cons,Ue d r]
  . rfl
theorem Ag:∀l:List α,l7 (l.map f)=(F9 (fun a b=>ltT (f a) (f b)) l).map f
 | []=>rfl
 | d::r=>by simp only [List.map_cons,l7,F9,Ag r,Ue]
variable (lt:α->α->Bool)
theorem Vn (d:α):∀l:List α,(Q6 lt d l).Perm (d::l)
 | []=>.refl _
 | e::r=>by
  unfold Q6;split
  . exact ((Vn d r).cons e).trans (.swap d e r)
  . exact .refl _
theorem Dn:∀l:List α,(F9 lt l).Perm l
 | []=>.refl _
 | d::r=>(Vn lt d (F9 lt r)).trans ((Dn r).cons d)
end
noncomputable def so2 (ls:List (Int×Int)):List (Int×Int):=F9 (fun a b=>ltT (T2 a) (T2 b)) ls
noncomputable def so3 (ls:List (Int×Int×Int)):List (Int×Int×Int):=F9 (fun a b=>ltT (T3 a) (T3 b)) ls
noncomputable def soI (ls:List Int):List Int:=F9 (fun a b=>ltT (.int a) (.int b)) ls
theorem Cs (ls:List (Int×Int)):l7 (ls.map T2)=(so2 ls).map T2:=Ag _ _
theorem Z6 (ls:List (Int×Int×Int)):l7 (ls.map T3)=(so3 ls).map T3:=Ag _ _
theorem Ho (ls:List Int):l7 (ls.map D.int)=(soI ls).map D.int:=Ag _ _
theorem u9 (ls:List (Int×Int)):(so2 ls).Perm ls:=Dn _ _
theorem t6 (ls:List (Int×Int×Int)):(so3 ls).Perm ls:=Dn _ _
theorem xG (ls:List Int):(soI ls).Perm ls:=Dn _ _
theorem G7 {α:Type} (xs:List α) (f:α->D) (p:D->Bool) (h:∀x,p (f x)=true):(xs.map f).all p=true:=by rw [List.all_eq_true];intro d hd;obtain ⟨x,_,rfl⟩:=List.mem_map.mp hd;exact h x
theorem y6 {α:Type} (xs:List α) (f:α->D) (h:∀x,(f x).oi=true):ois (xs.map f)=true:=
 ois_mem.mpr fun d hd=>by obtain ⟨x,_,rfl⟩:=List.mem_map.mp hd;exact h x
theorem E3 {α:Type} (xs:List α) (f:α->D) (n:Nat) (h:∀x,(f x).dep<=n):j2 (xs.map f)<=n:=by
 induction xs with
 | nil=>simp only [List.map_nil,j2,Nat.zero_le]
 | cons a r ih=>simp only [List.map_cons,j2];have:=h a;omega
theorem pls_of {α:Type} (xs:List α) (f:α->D) (h:∀x,(f x).pl=true):pls (xs.map f)=true:=by
 induction xs with
 | nil=>simp only [List.map_nil,pls]
 | cons a r ih=>simp only [List.map_cons,pls,h a,ih,Bool.and_self]
theorem Et (p:Int×Int):(T2 p).oi=true:=by simp [T2,D.oi,ois]
theorem W4 (p:Int×Int×Int):(T3 p).oi=true:=by simp [T3,D.oi,ois]
theorem Au (p:Int):(D.int p).oi=true:=by simp [D.oi]
theorem Y1 (p:Int×Int):(T2 p).dep<=1:=by simp [T2,D.dep,j2]
theorem kW (p:Int×Int×Int):(T3 p).dep<=1:=by simp [T3,D.dep,j2]
theorem K5 (p:Int×Int):(T2 p).pl=true:=by simp [T2,D.pl,pls]
theorem Y9 (p:Int×Int):(T2 p).noL=true:=by simp [T2,D.noL,j4]
theorem wN (p:Int×Int×Int):(T3 p).noL=true:=by simp [T3,D.noL,j4]
theorem kU (p q:Int×Int):(e7 (T2 p) (T2 q)).isSome=true:=by simp only [T2,e7,k7];repeat (first | rfl | split)
theorem kR (p q:Int×Int×Int):(e7 (T3 p) (T3 q)).isSome=true:=by simp only [T3,e7,k7];repeat (first | rfl | split)
theorem y0z (p q:Int):(e7 (.int p) (.int q)).isSome=true:=by simp only [e7];rfl
theorem yE (ls:List (Int×Int)) (h:ls.length<64):G8 (ls.map T2)=true:=by unfold G8;rw [List.length_map,decide_eq_true h,y6 _ _ Et,decide_eq_true (Nat.le_trans (E3 ls T2 1 Y1) (by decide)),G7 ls T2 (fun d=>(ls.map T2).all fun e=>(e7 d e).isSome) (fun x=>G7 _ _ _ fun y=>kU x y),G7 ls T2 K1 (fun x=>rfl)];simp
theorem yD (ls:List (Int×Int×Int)) (h:ls.length<64):G8 (ls.map T3)=true:=by unfold G8;rw [List.length_map,decide_eq_true h,y6 _ _ W4,decide_eq_true (Nat.le_trans (E3 ls T3 1 kW) (by decide)),G7 ls T3 (fun d=>(ls.map T3).all fun e=>(e7 d e).isSome) (fun x=>G7 _ _ _ fun y=>kR x y),G7 ls T3 K1 (fun x=>rfl)];simp
theorem Ka (ls:List (Int×Int)) (h:ls.length<64):l6 [.lst (ls.map T2)]=some (.lst ((so2 ls).map T2)):=by simp only [l6,yE ls h,if_true,Cs]
theorem Vm (ls:List (Int×Int×Int)) (h:ls.length<64):l6 [.lst (ls.map T3)]=some (.lst ((so3 ls).map T3)):=by simp only [l6,yD ls h,if_true,Z6]
theorem Gd {p q:Int×Int×Int} (h:T3 p=T3 q):p=q:=by obtain ⟨a,b,c⟩:=p;obtain ⟨a',b',c'⟩:=q;simp only [T3,D.tup.injEq,List.cons.injEq,D.int.injEq,and_true] at h;simp only [Prod.mk.injEq];exact h
theorem Pp {p q:Int×Int} (h:T2 p=T2 q):p=q:=by obtain ⟨a,b⟩:=p;obtain ⟨a',b'⟩:=q;simp only [T2,D.tup.injEq,List.cons.injEq,D.int.injEq,and_true] at h;simp only [Prod.mk.injEq];exact h
theorem O7 {α β:Type} {f:α->β} (hf:∀x y,f x=f y->x=y):∀{a b:List α},a.map f=b.map f->a=b
 | [],[],_=>rfl
 | [],_::_,h=>by simp at h
 | _::_,[],h=>by simp at h
 | x::a,y::b,h=>by simp only [List.map_cons,List.cons.injEq] at h;rw [hf _ _ h.1,O7 hf h.2]
theorem Di {a b:List (Int×Int×Int)} (p:a.Perm b):so3 a=so3 b:=by have:=Kb (y6 b T3 W4) (p.map T3);rw [Z6,Z6] at this;exact O7 (fun _ _=>Gd) this
theorem Ud {a b:List (Int×Int)} (p:a.Perm b):so2 a=so2 b:=by have:=Kb (y6 b T2 Et) (p.map T2);rw [Cs,Cs] at this;exact O7 (fun _ _=>Pp) this
theorem Gc {d m:Int} {ys:List Int} (h1:∀y∈ys,y<=m) (h2:m∈ys\/(ys=[]/\d=m)):mxD d ys=m:=by
 cases ys with
 | nil=>
  rcases h2 with h2 | h2
  . cases h2
  . exact h2.2
 | cons n ns=>
  rcases h2 with h2 | h2
  . obtain ⟨a,b⟩:=Hq ns n;exact Int.le_antisymm (h1 _ a) (b _ h2)
  . cases h2.1
theorem y10 (ds:List D):isT "list" (.lst ds)=true:=by simp only [isT,beq_self_eq_true]
theorem y11 (b:Bool):M6 [.bl b]=some (.int (if b then 1 else 0)):=rfl
theorem zw7 (ds:List D):G3 [.tup ds]=some (.lst ds):=rfl
theorem zw8 (ds:List D):G3 [.lst ds]=some (.lst ds):=rfl
theorem zrt (ds:List D):D9 [.lst ds]=some (.tup ds):=rfl
theorem zm9 (ls:List (Int×Int)):j4 (ls.map T2)=true:=y8 _ _ fun x _=>Y9 x
theorem Po {ls:List (Int×Int)} {a b:Int} (h:ls.length<100000):r6 (.lst (ls.map T2)) [.tup [.int a,.int b]]=some (.lst ((ls++[(a,b)]).map T2)):=by simp only [r6,List.length_map,h,if_true,List.map_append,List.map_cons,List.map_nil];rfl
theorem app_T3 {ls:List (Int×Int×Int)} {a b c:Int} (h:ls.length<100000):r6 (.lst (ls.map T3)) [.tup [.int a,.int b,.int c]]=some (.lst ((ls++[(a,b,c)]).map T3)):=by simp only [r6,List.length_map,h,if_true,List.map_append,List.map_cons,List.map_nil];rfl
theorem Y0 (p q:Int×Int):eqD (T2 p) (T2 q)=decide (p=q):=by obtain ⟨a,b⟩:=p;obtain ⟨c,d⟩:=q;simp only [T2,eqD,l0,O4,Bool.and_true,Prod.mk.injEq,Bool.decide_and]
theorem kQ (p:Int×Int) (ls:List (Int×Int)):dIn false (T2 p) (.tup (ls.map T2))=some (.bl (decide (p∈ls))):=by
 have h1:=E3 ls T2 1 Y1;have e:(ls.map T2).any (fun e=>eqD e (T2 p))=decide (p∈ls):=by
  rw [List.any_map,Bool.eq_iff_iff,List.any_eq_true,decide_eq_true_eq];constructor
  . rintro ⟨x,hx,h⟩;simp only [Function.comp,Y0,decide_eq_true_eq] at h;rw [<-h];exact hx
  . intro h;exact ⟨p,h,by simp only [Function.comp,Y0,decide_true]⟩
 unfold dIn dOr M9;simp only [K5,pls_of ls T2 K5,true_and,if_pos (show j2 (ls.map T2)<=20 by omega),e,Bool.false_eq_true,if_false]
theorem y12 (x:Int) (t:Int×Int×Int):dIn false (.int x) (T3 t)=some (.bl (decide (x=t.1)||(decide (x=t.2.1)||decide (x=t.2.2)))):=by unfold dIn dOr M9;simp only [T3,D.pl,pls,j2,D.dep,Bool.and_self,Nat.max_self,true_and,Nat.zero_le,if_true,List.any_cons,List.any_nil,Bool.or_false,eqD,O4,Bool.false_eq_true,if_false];simp only [show ∀a b:Int,decide (a=b)=decide (b=a) from fun a b=>by rw [Bool.eq_iff_iff];simp [eq_comm]]
theorem y13 (t:Int×Int):dIx (T2 t) (.int 0)=some (.int t.1):=Gs _ _
theorem zma (t:Int×Int×Int):items (T3 t)=some [.int t.1,.int t.2.1,.int t.2.2]:=rfl
theorem cat_T2 (a b:List (Int×Int)) (h:a.length+b.length<=100000):x0 (.lst (a.map T2)) (.lst (b.map T2))=some (.lst ((a++b).map T2)):=by simp only [x0,List.length_map,h,if_true,List.map_append]
def Nd (i j:Int):Prop:=0<j/\j<2 ^ 200
instance (i j:Int):Decidable (Nd i j):=by unfold Nd;infer_instance
mutual
noncomputable def nkD:D->Option NK
 | .int n=>some (.i n)
 | .tup ds=>(z9 ds).map .t
 | _=>none
noncomputable def z9:List D->Option (List NK)
 | []=>some []
 | d::ds=>match nkD d,z9 ds with
  | some k,some ks=>some (k::ks)
  | _,_=>none
end
mutual
theorem Gb {K:Frag} {H:Hp}:∀{d:D} {k:NK} {x:V},nkD d=some k->RD K H d x->NKr H k x
 | .int n,k,x,e,r=>by simp only [nkD,Option.some.injEq] at e;subst e;cases r.int;simp only [NKr]
 | .tup ds,k,x,e,r=>by simp only [nkD,Option.map_eq_some_iff] at e;obtain ⟨ks,e,rfl⟩:=e;obtain ⟨a,xs,rfl,ha,ra⟩:=r.tup;simp only [NKr];exact ⟨a,xs,rfl,ha,Hm e ra⟩
 | .non,_,_,e,_=>by simp [nkD] at e
 | .bl _,_,_,e,_=>by simp [nkD] at e
 | .str _,_,_,e,_=>by simp [nkD] at e
 | .lst _,_,_,e,_=>by simp [nkD] at e
 | .dk _ _,_,_,e,_=>by simp [nkD] at e
 | .dt _ _,_,_,e,_=>by simp [nkD] at e
 | .dn _ _,_,_,e,_=>by simp [nkD] at e
 | .scr _,_,_,e,_=>by simp [nkD] at e
 | .exc _ _,_,_,e,_=>by simp [nkD] at e
theorem Hm {K:Frag} {H:Hp}:∀{ds:List D} {ks:List NK} {xs:List V},z9 ds=some ks->RDs K H ds xs->NKrs H ks xs
 | [],ks,xs,e,r=>by simp only [z9,Option.some.injEq] at e;subst e;simp only [RDs] at r;subst r;simp only [NKrs]
 | d::ds,ks,xs,e,r=>by
  simp only [RDs] at r;obtain ⟨x,r,rfl,r1,r2⟩:=r;simp only [z9] at e;split at e
  . rename_i k ks' e1 e2;cases e;simp only [NKrs];exact ⟨x,_,rfl,Gb e1 r1,Hm e2 r2⟩
  . cases e
end
noncomputable def putQ (qs:List (NK×Addr)) (k:NK) (b:Addr):List (NK×Addr):=if k∈qs.map (·.1) then qs else qs++[(k,b)]
noncomputable def z3 (qs:List (NK×Addr)) (vs:List Value):List (NK×Addr×Value):=(qs.zip vs).map fun q=>(q.1.1,q.1.2,q.2)
theorem Ga:∀(qs:List (NK×Addr)) (vs:List Value),qs.length=vs.length->(z3 qs vs).map (·.1)=qs.map (·.1)
 | [],_,_=>rfl
 | q::qs,[],h=>by simp at h
 | q::qs,v::vs,h=>by have:=Ga qs vs (by simpa using h);simp only [z3,List.zip_cons_cons,List.map_cons] at this ⊢;rw [this]
theorem Pn (qs:List (NK×Addr)) (vs:List Value) (h:qs.length=vs.length):(z3 qs vs).length=qs.length:=by simp only [z3,List.length_map,List.length_zip];omega
theorem vR {α:Type} (xs:List (NK×Addr×α)) (k:NK):((xs.find? fun x=>decide (x.1=k)).map (·.2)).isSome=decide (k∈xs.map (·.1)):=by
 rw [Option.isSome_map,Bool.eq_iff_iff,List.find?_isSome,decide_eq_true_eq,List.mem_map];constructor
 . rintro ⟨x,hx,e⟩;exact ⟨x,hx,by simpa using e⟩
 . rintro ⟨x,hx,e⟩;exact ⟨x,hx,by simpa using e⟩
theorem kP (qs:List (NK×Addr)) (vs:List Value) (h:qs.length=vs.length) (k:NK) (b:Addr) (u:Value):storedH (z3 qs vs) k b u=z3 (putQ qs k b) (m8 (qs.map (·.1)) vs k u)/\(putQ qs k b).length=(m8 (qs.map (·.1)) vs k u).length:=by
 unfold storedH putQ m8;have e:=vR (z3 qs vs) k;rw [Ga qs vs h] at e;rw [show (atKey (z3 qs vs) k).isSome=decide (k∈qs.map (·.1)) from e];by_cases hk:k∈qs.map (·.1)
 . rw [if_pos (decide_eq_true hk),if_pos hk,if_pos hk];have go:∀(qs:List (NK×Addr)) (vs:List Value),qs.length=vs.length->(z3 qs vs).map (putAt k u)=z3 qs (List.zipWith (fun k' d'=>if k'=k then u else d') (qs.map (·.1)) vs)/\qs.length=(List.zipWith (fun k' d'=>if k'=k then u else d') (qs.map (·.1)) vs).length:=by
    intro qs;induction qs with
    | nil=>intro vs _;exact ⟨rfl,rfl⟩
    | cons q qs ih=>
     intro vs h
     cases vs with
     | nil=>simp at h
     | cons v vs=>
      obtain ⟨i1,i2⟩:=ih vs (by simpa using h)
      simp only [z3,List.zip_cons_cons,List.map_cons,List.zipWith_cons_cons,List.length_cons] at i1 i2 ⊢
      refine ⟨?_,by omega⟩
      rw [i1]
      congr 1
      unfold putAt
      by_cases z:q.1=k
      . simp only [if_pos z]
      . simp only [if_neg z]
   exact go qs vs h
 . rw [if_neg (by simpa using hk),if_neg hk,if_neg hk];refine ⟨?_,by simp;omega⟩;unfold z3;rw [List.zip_append h,List.map_append];rfl
section
variable {X:Cx} {pins:List (Addr×Obj)} {U:St} {H:Hp} {s:Shared}
theorem yC {ks:List NK} {k:NK} {v:V} {u:Value} (ru:RelV v u) {xs:List V} {vs:List Value} (r:Vals xs vs):Vals (m8 ks xs k v) (m8 ks vs k u):=by
 unfold m8;split
 . have go:∀(ks:List NK) (xs:List V) (vs:List Value),Vals xs vs->Vals (List.zipWith (fun k' d'=>if k'=k then v else d') ks xs) (List.zipWith (fun k' d'=>if k'=k then u else d') ks vs):=by
    intro ks
    induction ks with
    | nil=>intro xs vs _;exact .nil
    | cons k' ks ih=>
     intro xs vs r
     cases r with
     | nil=>exact .nil
     | cons a1 a2=>
      simp only [List.zipWith_cons_cons]
      refine .cons ?_ (ih _ _ a2)
      split
      . exact ru
      . exact a1
   exact go ks xs vs r
 . exact r.append (.cons ru .nil)
theorem Hl (I:Inv X pins U H s) {a:Addr} {qs:List (NK×Addr)} {xs:List V} {ob:Obj} (e:H a=some (.ext (dnP a qs xs ob))) (n:DN H a qs):s.heap.get? a=some ob/\∃vs,Vals xs vs/\qs.length=vs.length/\Heap.DictOfH (deepKind X.prog X.w) s.heap a (z3 qs vs):=by obtain ⟨p,_,_⟩:=(show ObjOk X.prog X.w H s.heap a (.ext (dnP a qs xs ob)) from I.hok a _ e);obtain ⟨p3,vs,es,ep,p1,p2,p4,p5,p6⟩:=p;refine ⟨p3,vs,p1,p2,ob,es,ep,p3,p4,p5,p6,fun x hx=>?_,by rw [Ga qs vs p2];exact n.1⟩;obtain ⟨q,hq,rfl⟩:=List.mem_map.mp hx;have hq':=(List.of_mem_zip hq).1;exact ⟨X0 I (n.2.1 _ hq').1 rfl,(n.2.1 _ hq').2⟩
end
noncomputable def Nc:N4:=fun o i v H Q=>∃(a:Addr) (qs:List (NK×Addr)) (xs:List V) (k:NK) (b:Addr) (ob:Obj),o=.ref a/\i=.ref b/\H a=some (.ext (dnP a qs xs ob))/\DN H a qs/\NKr H k (.ref b)/\k.dep<=8/\qs.length<sizeLine/\∀ob',Q (upd H a (.ext (dnP a (putQ qs k b) (m8 (qs.map (·.1)) xs k v) ob')))
theorem y14 {X:Cx} (hu:X.A.units+64<cLine):Bk X Nc:=by
 intro pins s U H o i v ov iv u Q I ro ri rv h;obtain ⟨a,qs,xs,k,b,ob,rfl,rfl,e,n,hk,hd,hl,q⟩:=h;cases ro;cases ri;obtain ⟨_,vs,p1,p2,dd⟩:=Hl I e n;have hz:(z3 qs vs).length<=sizeLine:=by rw [Pn qs vs p2];omega
 refine wpAny_setItem_heap (knd:=deepKind X.prog X.w) (hsz:=hz) (by show X.A.units+1+8<cLine;omega) ⟨X0 I hk rfl,hd⟩ dd fun h' dd' hs=>?_
 obtain ⟨e1,e2⟩:=kP qs vs p2 k b u;rw [e1] at dd';obtain ⟨o',es,ep,d1,d2,d3,d4,_⟩:=dd';refine ⟨_,?_,q o'⟩;exact Ja I (by rw [e];exact True.intro) hs ⟨o',d1⟩ ⟨⟨d1,_,es,ep,yC rv p1,e2,d2,d3,d4⟩,⟨o',d1⟩,dnP.stay⟩
noncomputable def dSetN:D->D->D->Option D
 | .dn ks ds,.tup es,v=>match nkD (.tup es) with
  | some k=>if ks.length<100000/\k.dep<=8 then some (.dn (C3 ks k) (m8 ks ds k v)) else none
  | none=>none
 | _,_,_=>none
theorem vQ {K:Frag}:Ea K dSetN Nc:=by
 intro H0 H a d d' dk dv y v Q s h0 ob rk rv hm k;cases d<;>simp only [dSetN] at hm<;>first | cases hm | skip
 cases dk<;>simp only [dSetN] at hm<;>first | cases hm | skip
 rename_i ks ds es;split at hm
 . rename_i kk hkk;split at hm
   . rename_i hl;cases hm;simp only [OB] at ob;obtain ⟨qs,xs,ob0,hx,hk,n,rx⟩:=ob;have rk':=rk;obtain ⟨b,ys,rfl,hb,rb⟩:=rk.tup;have nk:=Gb hkk rk';have hlen:qs.length=ks.length:=by rw [<-hk,List.length_map]
     have mono:∀a ys,H0 a=some (.tup ys)->H a=some (.tup ys):=fun c ys q=>s _ _ q
     refine ⟨a,qs,xs,kk,b,ob0,rfl,rfl,hx,n.tk mono,NKr.mono mono nk,hl.2,by rw [hlen];exact P5 hl.1,fun ob'=>k _ ?_⟩;simp only [OB];refine ⟨_,_,ob',m7,?_,?_,by rw [hk];exact Ht kk rv rx⟩
     . unfold putQ C3;rw [hk];split
       . exact hk
       . rw [List.map_append,hk];rfl
     . obtain ⟨n1,n2,n3,n4⟩:=n;unfold putQ;split
       . exact ⟨n1,n2,n3,n4⟩
       . rename_i hn;refine ⟨?_,fun q hq=>?_,n3,?_⟩
         . rw [List.map_append,List.map_cons,List.map_nil];exact List.nodup_append.mpr ⟨n1,by simp,fun x hx y hy e=>hn (by rw [List.mem_singleton.mp hy] at e;have e':x=kk:=e;rw [<-e'];exact hx)⟩
         . rcases List.mem_append.mp hq with z | z
           . exact n2 q z
           . rw [List.mem_singleton.mp z];exact ⟨nk,hl.2⟩
         . have:=P5 hl.1;rw [List.length_append,List.length_singleton];omega
   . cases hm
 . cases hm
section
variable {X:Cx} {EX:XW} {fr:Bool} {m:List Bool} {pos:Pos} {e:Expr} {fk fv:DE->R D}
theorem Pm {i:Nat} {o ix:Expr} {tpos:Pos} (hu:X.A.units+64<cLine) (ho:PE X o (B5 i)) (hk:QE X EX false ix fk) (hv:QE X EX false e fv)
 (ha:∀v,assign (.Subscript o ix tpos) X.env v=(do
  let ov <-holding [v] (eval o X.env)
  let iv <-holding [v,ov] (eval ix X.env)
  standAt tpos
  holding [v,ov,iv] (setItem ov iv v)
  release [v,ov,iv] []):=by intro _;rfl) (hs:swapsWithSole [.Subscript o ix tpos] e pos.line X.env=pure false:=by rfl) (hw:swappedStores [.Subscript o ix tpos] e X.env=pure none:=by rfl)
 (h1:(assignEach [.Subscript o ix tpos] X.env).map (·.2)=[assign (.Subscript o ix tpos) X.env]:=by rfl):QS X EX fr (.Assign [.Subscript o ix tpos] e pos) (F6 dSetN i m fk fv):=⟨(Gq hv.h (Ql ho hk.h (y14 hu) ha) hs hw h1).imp fun _ _ _ q=>Nm vQ q⟩
noncomputable def W3:DE->R D:=fun _=>.ok (.dn [] [])
theorem pe_dnewN:PE X (.Dict [] [] pos) (fun _ H Q=>∀p ob,H p=none->(p==sysModules)=false->Q (.ref p) (upd H p (.ext (dnP p [] [] ob)))):=fun pins s U H Q I h=>
 wpAny_Dict_empty ⟨.ref s.heap.objs.size,_,I.laid (a:=s.heap.objs.size) (o:=.ext (dnP s.heap.objs.size [] [] { cls:=.type "dict",data:=.dict #[] })) (t':=s.toks) (fun _ _ q=>Heap.get?_push_of_some _ q) (Nat.le_refl _) ⟨⟨Heap.get?_push_size _ rfl,[],#[],0,.nil,rfl,⟨rfl,rfl,rfl⟩,rfl,rfl⟩,⟨_,Heap.get?_push_size _ rfl⟩,dnP.stay⟩,rfl,h _ _ (I.hok.fresh (Nat.le_refl _)) (beq_eq_false_iff_ne.mpr (Ne.symm (Nat.ne_of_lt I.big)))⟩
theorem Pl:QE X EX true (.Dict [] [] pos) W3:=⟨pe_dnewN.imp fun U H Q ⟨sx,ρ,H0,s,e,h⟩ p ob hp hq=>h _ _ (.new s hp fun H' hH=>by simp only [OB];exact ⟨[],[],ob,hH,rfl,⟨List.nodup_nil,fun q hq=>(by simp at hq),hq,Nat.zero_le _⟩,.nil⟩)⟩
end
def Nb (i j:Int):Prop:=Builtin.Int.intBits i<=2 ^ 20/\Builtin.Int.intBits j<=2 ^ 20
instance (i j:Int):Decidable (Nb i j):=by unfold Nb;infer_instance
section
open PySem.SeqAt
open PySem.AutoSeq1 (wpAny_loadPart')
open PySem.MeetsSeq PySem.MeetsSeq2 PySem.MeetsSeq3
end
noncomputable def TuI (ns:List Int):D:=.tup (ns.map .int)
end L2
namespace L2
open PySem PySem.Spec PyProof.Rows
section
variable {X:Cx}
noncomputable def R8:D->D->Option D
 | .tup ds,.tup es=>if ds.length+es.length<=100000 then some (.tup (ds++es)) else none
 | _,_=>none
noncomputable def Na (K:Frag):R2:=fun x y H Q=>∃a b xs ys,x=.ref a/\y=.ref b/\SqT K H a xs/\SqT K H b ys/\xs.length+ys.length<=sizeLine /\
 (xs=[]->Q (.ref b) H)/\(xs≠[]->ys=[]->Q (.ref a) H)/\(xs≠[]->ys≠[]->∀p,H p=none->Q (.ref p) (upd H p (.tup (xs++ys))))
theorem vP:OpR X (binaryOp .Add) (Na X.K):=by
 intro pins s U H x y v u Q I rx ry h;obtain ⟨a,b,xs,ys,rfl,rfl,ha,hb,hz,q0,q1,q2⟩:=h;by_cases hx:xs=[]
 . cases rx;cases ry;obtain ⟨its,r1,p1,_⟩:=I.tuple ha;obtain ⟨its2,r2,p2,_⟩:=I.tuple hb;obtain ⟨⟨cls,dd,data,sl⟩,ho,hc,n,hd⟩:=id p1;obtain ⟨⟨cls2,dd2,data2,sl2⟩,ho2,hc2,n2,hd2⟩:=id p2;simp only at hc hd hc2 hd2;subst hc hd hc2 hd2;have he:its=[]:=r1.nil_iff.mpr hx;exact concat_meets ⟨_,ho,rfl⟩ ⟨_,ho2,rfl⟩ noFill_tuple_add seq_tuple_add PySem.F.slot_tuple_add PySem.F.entry_tuple_add (PySem.F.args_tuple_add_2 _ _)
    (tuple_addW0 a b its.toArray its2.toArray n n2 dd dd2 sl sl2 (by simp [he])) ⟨ho,ho2,⟨.ref b,H,I,rfl,q0 hx⟩⟩
 . exact wE pins s U H _ _ v u Q I rx ry ⟨a,b,xs,ys,rfl,rfl,ha,hb,hx,hz,q1 hx,q2 hx⟩
theorem vO {K:Frag}:OpD K false R8 (Na K):=by
 intro H0 H x y d e z Q s rx ry ho k;cases d<;>simp only [R8] at ho<;>first | cases ho | skip
 cases e<;>simp only [R8] at ho<;>first | cases ho | skip
 rename_i ds es;split at ho<;>cases ho;rename_i hl;obtain ⟨a,xs,rfl,ha,ra⟩:=rx.tup;obtain ⟨b,ys,rfl,hb,rb⟩:=ry.tup;refine ⟨a,b,xs,ys,rfl,rfl,.of (s _ _ ha),.of (s _ _ hb),by rw [<-ra.length,<-rb.length];exact Q8 hl,fun e=>?_,fun _ e=>?_,fun _ _ p hp=>?_⟩
 . have:ds=[]:=by have:=ra.length;rw [e] at this;exact List.eq_nil_of_length_eq_zero this
   subst this;refine k _ _ (.pure s ?_);simp only [RD,List.nil_append];exact ⟨b,ys,rfl,hb,rb⟩
 . have:es=[]:=by have:=rb.length;rw [e] at this;exact List.eq_nil_of_length_eq_zero this
   subst this;refine k _ _ (.pure s ?_);simp only [RD,List.append_nil];exact ⟨a,xs,rfl,ha,ra⟩
 . refine k _ _ (.val (Same.upd_new hp) (.new s hp) ?_);simp only [RD];have s0:Same H0 (upd H0 p (.tup (xs++ys))):=Same.upd_new (s.none hp);exact ⟨p,xs++ys,rfl,m7,(ra.append rb).mono s0⟩
end
noncomputable def Z5:D->D->Option D
 | .lst ds,d=>if pls ds=true/\d.pl=true/\j2 ds<=20/\ds.length<=100000/\ds.findIdx (fun e=>eqD e d)<ds.length then some (.int (ds.findIdx (fun e=>eqD e d):Int)) else none
 | _,_=>none
def Mz (K:Frag):V->List V->Hp->VK->Prop:=fun x vs H Q=>∃(l:Addr) (xs:List V) (ds:List D) (y:V) (d:D),x=.ref l/\vs=[y]/\H l=some (.lst xs)/\RDs K H ds xs/\RD K H d y/\pls ds=true/\d.pl=true/\j2 ds<=20/\ds.length<=100000/\ds.findIdx (fun e=>eqD e d)<ds.length/\Q (.int (ds.findIdx (fun e=>eqD e d):Int)) H
theorem yB {X:Cx} (hu:X.A.units+64<cLine):MtM X "list.index" (Mz X.K):=by
 intro pins s U H x vs v us Q I rx rv h;obtain ⟨l,xs,ds,y,d,rfl,rfl,hH,rds,rd,pl,pd,hd,hn,hj0,q⟩:=h;cases rx;obtain ⟨u,rfl,ru⟩:=rv.one;obtain ⟨z,its,n,r,hl,e⟩:=I.lstM hH;have hlen:its.length=ds.length:=by rw [<-hl,<-rds.length]
 have hit:=L6 (A:=X.A) I (by omega) pd rd ru pl rds r hd;have at':∀m (hm:m<its.toArray.size),hitD X.K H d its.toArray[m]=eqD (ds[m]'(by simpa [hlen] using hm)) d:=fun m hm=>by
  have hm':m<ds.length:=by simpa [hlen] using hm
  obtain ⟨x,hx,rx'⟩:=rds.get' (i:=m) (d:=ds[m]) (List.getElem?_eq_getElem hm');obtain ⟨w,hw,rw'⟩:=r.get hx;have e2:its.toArray[m]=w:=by
   have:its[m]?=some its.toArray[m]:=by simp [List.getElem?_eq_getElem (show m<its.length by omega)]
   rw [hw] at this;exact (Option.some.inj this).symm
  rw [e2];exact Dd (Df pl (List.getElem_mem hm')) rw' rx'
 have hj:ds.findIdx (fun e=>eqD e d)<its.toArray.size:=by simpa [hlen] using hj0
 refine call_meets F.slot_list_index ⟨_,e,rfl⟩ F.entry_list_index (F.args_list_index_2 _ _)
  (SeqAt.list_indexAt l its.toArray n none #[] u (hitD X.K H d) (ds.findIdx (fun e=>eqD e d)) hj (by omega) ?_ ?_) ⟨e,fun y hy=>hit y (by simpa using hy),?_⟩
 . rw [at' _ hj];exact List.findIdx_getElem (w:=hj0)
 . intro m hm hlt;rw [at' _ hm];have:=List.not_of_lt_findIdx hlt;simpa using this
 . exact ⟨.int _,H,I.tok _,⟨_,rfl⟩,q⟩
noncomputable def W2 (fa fb:DE->R D):DE->R D:=fun ρ=>(fa ρ).bind fun x=>match x with
 | .lst ds=>(fb ρ).bind fun y=>R.of (Z5 (.lst ds) y)
 | _=>.st
section
variable {X:Cx} {EX:XW} {U:St} {H:Hp} {Q:VK}
theorem xF {K:Frag} {fa fb:DE->R D} (h:TEd K EX false (W2 fa fb) U H Q):tBM K "list" (Mz K) (TEd K EX false fa) (G5 (TEd K EX false fb) N1) U H Q:=by
 obtain ⟨sx,ρ,H0,s,e,h⟩:=h;unfold W2 at h;rw [Rk.bind] at h;refine TEd.go sx s e h fun d h v H1 H1' s1 e1 r1=>?_
 cases d<;>first | (exact h.elim) | skip
 rename_i ds;simp only at h;obtain ⟨a,xs,rfl,ha,rs⟩:=r1.lst;refine ⟨.inl ⟨rfl,xs,.of (e1.2.1 _ _ ha)⟩,?_⟩;rw [Rk.bind] at h;refine TEd.go (sx.trans s1) e1.2.1 (e.mono e1.1) h fun d2 h v2 H2 H2' s2 e2 r2=>?_
 obtain ⟨z,hz,h⟩:=h.of;simp only [Z5] at hz;split at hz<;>first | (cases hz;done) | skip
 rename_i hc;cases hz;refine ⟨a,xs,ds,v2,d2,rfl,rfl,s2 _ _ (e1.2.1 _ _ ha),rs.mono (e2.1.trans e2.2.1),r2.mono e2.2.1,hc.1,hc.2.1,hc.2.2.1,hc.2.2.2.1,hc.2.2.2.2,h _ H2 ?_⟩;exact .val (s1.trans s2) (e1.trans s1 e2) (.mkInt _)
variable {o e:Expr} {apos cpos:Pos} {fa fb:DE->R D}
theorem xE (hu:X.A.units+64<cLine) (ho:QE X EX false o fa) (ha:QE X EX false e fb) (hbase:attributeBase o "index" X.env (eval o X.env)=eval o X.env:=by rfl)
  (hfew:((backTo cpos (starEach [e] X.env)).all (fun x=>!x.1)&&(backToKw cpos (keywordEach [] X.env)).all (fun x=>x.1.isSome)
   && decide ([e].length+([]:List Keyword).length+(if ([]:List Keyword).isEmpty then 0 else 1)<30))=true:=by rfl)
  (hline:(apos.endLine==cpos.line)=true:=by rfl) (hs:starEach [e] X.env=(false,eval e X.env)::starEach [] X.env:=by rfl) (hplain:(backTo cpos (starEach [] X.env)).any (·.1)=false:=by rfl) :
  QE X EX false (.Call (.Attribute o "index" apos) [e] [] cpos) (W2 fa fb):=
 ⟨(Fn PySem.F.plainAttrs_list PySem.F.slot_list_index PySem.F.type_list_index (yB hu) ho.h (L8 ha.h pa_nil hs) hbase hfew hline hs hplain).imp fun _ _ _ q=>xF q⟩
end
noncomputable def y15 (T:String) (mt:D->List D->Option D) (i:Nat) (m:List Bool) (f:DE->R D):DS->SR:=fun ρ=>match ρ[i]? with
 | some (.ow d0)=>if isT T d0=true then (f (vis m ρ)).toS fun d=>match (k9 (keeps true d) m ρ)[i]? with
  | some (.ow dx)=>(R.of (mt dx [d])).toS fun d'=>.nx ((k9 (keeps true d) m ρ).set i (.ow d'))
  | _=>.st
  else .st
 | _=>.st
noncomputable def p7 (es:Array DictEntry) (ep:Nat):Obj:={ cls:=.type "dict",data:=.dict es ep }
section
open PySem.SeqAt
open PySem.AutoSeq1 (wpAny_loadPart')
end
mutual
noncomputable def v7:NK->D
 | .i n=>.int n
 | .t ks=>.tup (L3 ks)
noncomputable def L3:List NK->List D
 | []=>[]
 | k::ks=>v7 k::L3 ks
end
mutual
theorem My {K:Frag} {H:Hp}:∀{k:NK} {x:V},NKr H k x->RD K H (v7 k) x
 | .i n,x,h=>by simp only [NKr] at h;subst h;simp only [v7,RD]
 | .t ks,x,h=>by simp only [NKr] at h;obtain ⟨a,xs,rfl,ha,hs⟩:=h;simp only [v7,RD];exact ⟨a,xs,rfl,ha,Pk hs⟩
theorem Pk {K:Frag} {H:Hp}:∀{ks:List NK} {xs:List V},NKrs H ks xs->RDs K H (L3 ks) xs
 | [],xs,h=>by simp only [NKrs] at h;subst h;simp only [L3,RDs]
 | k::ks,xs,h=>by simp only [NKrs] at h;obtain ⟨x,r,rfl,h1,h2⟩:=h;simp only [L3,RDs];exact ⟨x,r,rfl,My h1,Pk h2⟩
end
end L2
namespace L2
open PySem PySem.Spec PyProof.Rows
noncomputable def i9 (TI TO:Addr) (f0:Value):Obj:={ cls:=.type "zip",data:=.fields #[f0,.bool false,.bool false,.ref TI,.ref TO] }
noncomputable def c6 (a b:Value):Obj:={ cls:=.type "tuple",data:=.seq #[a,b] }
noncomputable def d9 (l:Addr) (i:Nat):Obj:={ cls:=.type "tuple_iterator",data:=.fields #[.ref l,.int i 0] }
noncomputable def d8 (l:Addr) (i:Nat):Obj:={ cls:=.type "list_iterator",data:=.fields #[.ref l,.int i 0] }
abbrev up1 (i:Nat):Obj->Obj:=Obj.mapFields (·.setIfInBounds 1 (rawInt ((i:Int)+1)))
def K4 (i:Addr) (x:Value) (f:Obj->Obj) (A:Around) (s:Shared):Prop:=∀(prog:Program) (w:World) (E:Value->Shared->Prop) (Q:Value->Shared->Prop),Q x { s with heap:=s.heap.update i f }->wpAny (model prog w) A (Builtin.SmallTypes.nextOf (.ref i)) Q E s
def W1 (i:Addr) (A:Around) (s:Shared):Prop:=∀(prog:Program) (w:World) (E:Value->Shared->Prop) (Q:Value->Shared->Prop),
 (∀h' e,(∀c o,c≠i->s.heap.get? c=some o->h'.get? c=some o)->(∃o,h'.get? e=some o/\o.cls=.type "StopIteration")->E (.ref e) { s with heap:=h' })->wpAny (model prog w) A (Builtin.SmallTypes.nextOf (.ref i)) Q E s
section
open PySem.SeqAt
open PySem.AutoSeq1 (wpAny_loadPart')
theorem yA (it l:Addr) (items:Array Value) (i n:Nat) (dd:Option Addr) (sl:Array (Option Value)) (x:Value) (hx:items[i]?=some x) :
  Meets (Builtin.«tuple_iterator.__next__» ⟨[.ref it],[]⟩) (fun _ R s=>s.heap.get? it=some (d9 l i)/\s.heap.get? l=some { cls:=.type "tuple",dict:=dd,data:=.seq items n,slots:=sl }/\R (.ok (.ret x)) { s with heap:=s.heap.update it (up1 i) }):=
 .of_wp fun prog w A R s h=>by
  obtain ⟨hp,g,dr,tk,os⟩:=s;obtain ⟨hl,hd,h⟩:=h;unfold d9 at hl;have hat:items[((i:Nat):Int).toNat]?=some x:=by simpa using hx
  wp_walk using wpAny_loadPart' hl,wpAny_loadPart' hd
  rw [hat]
  wp_walk using wpAny_loadPart' hl,wpAny_loadPart' hd
  exact ⟨_,rfl,h⟩
theorem yz (it l:Addr) (items:Array Value) (i n:Nat) (dd:Option Addr) (sl:Array (Option Value)) (x:Value) (hx:items[i]?=some x) :
  Meets (Builtin.«list_iterator.__next__» ⟨[.ref it],[]⟩) (fun _ R s=>s.heap.get? it=some (d8 l i)/\s.heap.get? l=some { cls:=.type "list",dict:=dd,data:=.seq items n,slots:=sl }/\R (.ok (.ret x)) { s with heap:=s.heap.update it (up1 i) }):=
 .of_wp fun prog w A R s h=>by
  obtain ⟨hp,g,dr,tk,os⟩:=s;obtain ⟨hl,hd,h⟩:=h;unfold d8 at hl;have hat:items[((i:Nat):Int).toNat]?=some x:=by simpa using hx
  wp_walk using wpAny_loadPart' hl,wpAny_loadPart' hd
  rw [hat]
  wp_walk using wpAny_loadPart' hl,wpAny_loadPart' hd
  exact ⟨_,rfl,h⟩
theorem xD (it l:Addr) (items:Array Value) (i n:Nat) (dd:Option Addr) (sl:Array (Option Value)) (hx:items[i]?=none) :
  Meets (Builtin.«tuple_iterator.__next__» ⟨[.ref it],[]⟩) (fun A R s=>s.heap.get? it=some (d9 l i)/\s.heap.get? l=some { cls:=.type "tuple",dict:=dd,data:=.seq items n,slots:=sl }/\A.in1.handled=none /\
   ∀h' e,(∀c o,c≠it->s.heap.get? c=some o->h'.get? c=some o)->(∃o,h'.get? e=some o/\o.cls=.type "StopIteration")->R (.error (.ref e)) { s with heap:=h' }):=
 .of_wp fun prog w A R s h=>by
  obtain ⟨hp,g,dr,tk,os⟩:=s;obtain ⟨hl,hd,hh,h⟩:=h;unfold d9 at hl;have hat:items[((i:Nat):Int).toNat]?=none:=by simpa using hx
  wp_walk using wpAny_loadPart' hl,wpAny_loadPart' hd
  rw [hat]
  wp_walk using wpAny_loadPart' hl,wpAny_loadPart' hd
  unfold raiseNew;refine wpAny_bind (wpAny_handled ?_);rw [hh];refine wpAny_bind (wpAny_pure (wpAny_throw (h _ _ (fun c o hc e=>?_) ⟨_,Heap.get?_push_size _ rfl,rfl⟩)));refine Heap.get?_push_of_some _ (Heap.get?_push_of_some _ ?_);rw [Heap.get?_update_ne _ _ _ _ hc];exact e
theorem Vl {it l:Addr} {items:Array Value} {i:Nat} {x:Value} {A:Around} {s:Shared} (hit:s.heap.get? it=some (d9 l i)) (hl:s.heap.IsTuple l items) (hx:items[i]?=some x):K4 it x (up1 i) A s:=fun prog w E Q q=>by obtain ⟨⟨cl,dd,da,sl⟩,ho,hc,n,hd⟩:=hl;simp only at hc hd;subst hc hd;unfold Builtin.SmallTypes.nextOf;exact wpAny_bind (wpAny_callSpecial?_slot (name:=Str.ofString "__next__") ⟨_,hit,rfl⟩ F.slot_tuple_iterator_next (call_meets F.slot_tuple_iterator_next ⟨_,hit,rfl⟩ F.entry_tuple_iterator_next (F.args_tuple_iterator_next_1 _) (yA it l items i n dd sl x hx) ⟨hit,ho,wpAny_pure q⟩))
theorem Vk {it l:Addr} {items:Array Value} {i:Nat} {x:Value} {A:Around} {s:Shared} (hit:s.heap.get? it=some (d8 l i)) (hl:s.heap.IsList l items) (hx:items[i]?=some x):K4 it x (up1 i) A s:=fun prog w E Q q=>by obtain ⟨⟨cl,dd,da,sl⟩,ho,hc,n,hd⟩:=hl;simp only at hc hd;subst hc hd;unfold Builtin.SmallTypes.nextOf;exact wpAny_bind (wpAny_callSpecial?_slot (name:=Str.ofString "__next__") ⟨_,hit,rfl⟩ slot_listiter_next (call_meets slot_listiter_next ⟨_,hit,rfl⟩ entry_listiter_next (args_listiter_next _) (yz it l items i n dd sl x hx) ⟨hit,ho,wpAny_pure q⟩))
theorem xC {it l:Addr} {items:Array Value} {i:Nat} {A:Around} {s:Shared} (hh:A.handled=none) (hit:s.heap.get? it=some (d9 l i)) (hl:s.heap.IsTuple l items) (hx:items[i]?=none):W1 it A s:=fun prog w E Q q=>by obtain ⟨⟨cl,dd,da,sl⟩,ho,hc,n,hd⟩:=hl;simp only at hc hd;subst hc hd;unfold Builtin.SmallTypes.nextOf;exact wpAny_bind (wpAny_callSpecial?_slot (name:=Str.ofString "__next__") ⟨_,hit,rfl⟩ F.slot_tuple_iterator_next (call_meets F.slot_tuple_iterator_next ⟨_,hit,rfl⟩ F.entry_tuple_iterator_next (F.args_tuple_iterator_next_1 _) (xD it l items i n dd sl hx) ⟨hit,ho,hh,q⟩))
noncomputable def zH1 (hp:Heap) (z:Addr):Heap:=hp.update z (Obj.mapFields (·.setIfInBounds 0 .ellipsis))
noncomputable def zH4 (hp:Heap) (z TO i1 i2:Addr) (x:Value) (f1 f2:Obj->Obj):Heap:=(((zH1 hp z).update i1 f1).update TO (Obj.mapSeq (·.setIfInBounds 0 x))).update i2 f2
noncomputable def zHF (hp:Heap) (z TO i1 i2:Addr) (x y:Value) (f1 f2:Obj->Obj):Heap:=((((zH4 hp z TO i1 i2 x f1 f2).update TO (Obj.mapSeq (·.setIfInBounds 1 y))).push (c6 x y)).update z (Obj.mapFields (·.setIfInBounds 0 (rawInt hp.objs.size)))).update z (Obj.mapFields (·.setIfInBounds 1 (.bool false)))
def Q5 (p:Prop):Prop:=p
theorem Vj (z TI TO i1 i2:Addr) (a b x y:Value) (f1 f2:Obj->Obj) (n2:TO≠z) (n3:TO≠i1) (n4:TO≠i2) (n5:i1≠z) (n6:i2≠z) :
  Meets (Builtin.«zip.__next__» ⟨[.ref z],[]⟩) (fun A R s=>s.heap.get? z=some (i9 TI TO .none)/\s.heap.get? TI=some (c6 (.ref i1) (.ref i2))/\s.heap.get? TO=some (c6 a b) /\
   K4 i1 x f1 A.in1 { s with heap:=zH1 s.heap z }/\K4 i2 y f2 A.in1 { s with heap:=((zH1 s.heap z).update i1 f1).update TO (Obj.mapSeq (·.setIfInBounds 0 x)) } /\
   R (.ok (.ret (.ref s.heap.objs.size))) { s with heap:=zHF s.heap z TO i1 i2 x y f1 f2 }):=
 .of_wp fun prog w A R s h=>by
  obtain ⟨hp,g,dr,tk,os⟩:=s;obtain ⟨hz,hTI,hTO,g1,g2,h⟩:=h;unfold i9 at hz;unfold c6 at hTI hTO;have g1':=g1 prog w;have g2':=g2 prog w;simp only [zH1] at g1' g2';have g1s:∀(E:Value->Shared->Prop) (Q:Value->Shared->Prop),Q5 (Q x { heap:=(hp.update z (Obj.mapFields (·.setIfInBounds 0 .ellipsis))).update i1 f1,gens:=g,drawn:=dr,toks:=tk,os:=os })->wpAny (model prog w) A.in1 (Builtin.SmallTypes.nextOf (.ref i1)) Q E { heap:=hp.update z (Obj.mapFields (·.setIfInBounds 0 .ellipsis)),gens:=g,drawn:=dr,toks:=tk,os:=os }:=fun E Q h=>g1' E Q h
  wp_walk using wpAny_onRaise,wpAny_loadPart' hz,wpAny_loadPart' hTI,wpAny_loadPart' hTO,(g1s _ _)
  unfold Q5;have hTO2:((hp.update z (Obj.mapFields (·.setIfInBounds 0 .ellipsis))).update i1 f1).get? TO=some { cls:=.type "tuple",data:=.seq #[a,b] }:=by rw [Heap.get?_update_ne _ _ _ _ n3,Heap.get?_update_ne _ _ _ _ n2];exact hTO
  have hTO3:(((hp.update z (Obj.mapFields (·.setIfInBounds 0 .ellipsis))).update i1 f1).update TO (Obj.mapSeq (·.setIfInBounds 0 x))).get? TO=some { cls:=.type "tuple",data:=.seq #[x,b] }:=by rw [Heap.get?_update_self _ hTO2 rfl];rfl
  have g2s:∀(E:Value->Shared->Prop) (Q:Value->Shared->Prop),Q5 (Q y { heap:=(((hp.update z (Obj.mapFields (·.setIfInBounds 0 .ellipsis))).update i1 f1).update TO (Obj.mapSeq (·.setIfInBounds 0 x))).update i2 f2,gens:=g,drawn:=dr,toks:=tk,os:=os })->wpAny (model prog w) A.in1 (Builtin.SmallTypes.nextOf (.ref i2)) Q E { heap:=((hp.update z (Obj.mapFields (·.setIfInBounds 0 .ellipsis))).update i1 f1).update TO (Obj.mapSeq (·.setIfInBounds 0 x)),gens:=g,drawn:=dr,toks:=tk,os:=os }:=fun E Q h=>g2' E Q h
  wp_walk using wpAny_onRaise,(g2s _ _),wpAny_loadPart' (s:={ heap:=(hp.update z (Obj.mapFields (·.setIfInBounds 0 .ellipsis))).update i1 f1,gens:=g,drawn:=dr,toks:=tk,os:=os }) hTO2,(wpAny_updateSeq (s:={ heap:=(hp.update z (Obj.mapFields (·.setIfInBounds 0 .ellipsis))).update i1 f1,gens:=g,drawn:=dr,toks:=tk,os:=os }) hTO2 rfl)
  unfold Q5;have e4:zH4 hp z TO i1 i2 x f1 f2=((((hp.update z (Obj.mapFields (·.setIfInBounds 0 .ellipsis))).update i1 f1).update TO (Obj.mapSeq (·.setIfInBounds 0 x))).update i2 f2):=rfl;unfold zHF at h;rw [e4] at h;generalize hH4:((((hp.update z (Obj.mapFields (·.setIfInBounds 0 .ellipsis))).update i1 f1).update TO (Obj.mapSeq (·.setIfInBounds 0 x))).update i2 f2)=H4 at h;have hTO4:H4.get? TO=some { cls:=.type "tuple",data:=.seq #[x,b] }:=by rw [<-hH4,Heap.get?_update_ne _ _ _ _ n4];exact hTO3
  have hTO5:(H4.update TO (Obj.mapSeq (·.setIfInBounds 1 y))).get? TO=some { cls:=.type "tuple",data:=.seq #[x,y] }:=by rw [Heap.get?_update_self _ hTO4 rfl];rfl
  have hz5:(H4.update TO (Obj.mapSeq (·.setIfInBounds 1 y))).get? z=some { cls:=.type "zip",data:=.fields #[.ellipsis,.bool false,.bool false,.ref TI,.ref TO] }:=by rw [Heap.get?_update_ne _ _ _ _ n2.symm,<-hH4,Heap.get?_update_ne _ _ _ _ n6.symm,Heap.get?_update_ne _ _ _ _ n2.symm,Heap.get?_update_ne _ _ _ _ n5.symm,Heap.get?_update_self _ hz rfl];rfl
  wp_walk using wpAny_loadPart' (s:={ heap:=H4,gens:=g,drawn:=dr,toks:=tk,os:=os }) hTO4,(wpAny_updateSeq (s:={ heap:=H4,gens:=g,drawn:=dr,toks:=tk,os:=os }) hTO4 rfl),wpAny_loadPart' (s:={ heap:=H4.update TO (Obj.mapSeq (·.setIfInBounds 1 y)),gens:=g,drawn:=dr,toks:=tk,os:=os }) hTO5
  have hsz:(H4.update TO (Obj.mapSeq (·.setIfInBounds (0+1) y))).objs.size=hp.objs.size:=by rw [Heap.size_update,<-hH4,Heap.size_update,Heap.size_update,Heap.size_update,Heap.size_update]
  refine ⟨_,rfl,?_⟩;show R (.ok (.ret (.ref (H4.update TO (Obj.mapSeq (·.setIfInBounds (0+1) y))).objs.size))) { heap:=(((H4.update TO (Obj.mapSeq (·.setIfInBounds (0+1) y))).push { cls:=.type "tuple",data:=.seq #[x,y].toList.toArray }).update z (Obj.mapFields (·.setIfInBounds 0 (rawInt ((H4.update TO (Obj.mapSeq (·.setIfInBounds (0+1) y))).objs.size:Nat))))).update z (Obj.mapFields (·.setIfInBounds 1 (.bool false))),gens:=g,drawn:=dr,toks:=tk,os:=os };rw [hsz];exact h
theorem Uc (z TI TO i1 i2:Addr) (a b:Value) (n5:i1≠z) :
  Meets (Builtin.«zip.__next__» ⟨[.ref z],[]⟩) (fun A R s=>s.heap.get? z=some (i9 TI TO .none)/\s.heap.get? TI=some (c6 (.ref i1) (.ref i2))/\s.heap.get? TO=some (c6 a b) /\
   W1 i1 A.in1 { s with heap:=zH1 s.heap z }/\∀h' e,(∀c o,c≠z->c≠i1->s.heap.get? c=some o->h'.get? c=some o)->(∃o,h'.get? e=some o/\o.cls=.type "StopIteration")->R (.error (.ref e)) { s with heap:=h' }):=
 .of_wp fun prog w A R s h=>by
  obtain ⟨hp,g,dr,tk,os⟩:=s;obtain ⟨hz,hTI,hTO,g1,h⟩:=h;unfold i9 at hz;unfold c6 at hTI hTO;have g1':=g1 prog w;simp only [zH1] at g1';have g1s:∀(E:Value->Shared->Prop) (Q:Value->Shared->Prop),Q5 (∀h' e,(∀c o,c≠i1->(hp.update z (Obj.mapFields (·.setIfInBounds 0 .ellipsis))).get? c=some o->h'.get? c=some o)->(∃o,h'.get? e=some o/\o.cls=.type "StopIteration")->E (.ref e) { heap:=h',gens:=g,drawn:=dr,toks:=tk,os:=os })->wpAny (model prog w) A.in1 (Builtin.SmallTypes.nextOf (.ref i1)) Q E { heap:=hp.update z (Obj.mapFields (·.setIfInBounds 0 .ellipsis)),gens:=g,drawn:=dr,toks:=tk,os:=os }:=fun E Q h=>g1' E Q h
  wp_walk using wpAny_onRaise,wpAny_loadPart' hz,wpAny_loadPart' hTI,wpAny_loadPart' hTO,(g1s _ _)
  unfold Q5;intro h' e kp he;obtain ⟨oe,hoe,hce⟩:=he;have hz':h'.get? z=some { cls:=.type "zip",data:=.fields #[.ellipsis,.bool false,.bool false,.ref TI,.ref TO] }:=kp z _ n5.symm (by rw [Heap.get?_update_self _ hz rfl];rfl);have hez:e≠z:=fun q=>by rw [q,hz'] at hoe;cases hoe;simp at hce
  refine wpAny_setField hz' rfl (by simp) (h _ e (fun c o c1 c2 q=>?_) ⟨oe,by rw [Heap.get?_update_ne _ _ _ _ hez];exact hoe,hce⟩);rw [Heap.get?_update_ne _ _ _ _ c1];exact kp c o c2 (by rw [Heap.get?_update_ne _ _ _ _ c1];exact q)
end
end L2
namespace L2
open PySem PySem.Spec PyProof.Rows
section
variable {hp:Heap} {z TI TO i1 i2 l1 l2:Addr} {a b x y:Value} {k:Nat}
theorem e9 {h:Heap} {c e:Addr} {f:Obj->Obj} (n:c≠e):(h.update e f).get? c=h.get? c:=Heap.get?_update_ne _ _ _ _ n
theorem Mx {H4:Heap} {o1 o2:Obj} (D:ZipApart z TI TO i1 i2 l1 l2) (u1:H4.get? i1=some o1) (u2:H4.get? i2=some o2) (u3:H4.get? TO=some (c6 x b)) (u4:H4.get? z=some (i9 TI TO .ellipsis))
  (u5:∀c o,c≠z->c≠TO->c≠i1->c≠i2->hp.get? c=some o->H4.get? c=some o) (sz:(H4.update TO (Obj.mapSeq (·.setIfInBounds 1 y))).objs.size=hp.objs.size) (nz:hp.objs.size≠z) :
  (((((H4.update TO (Obj.mapSeq (·.setIfInBounds 1 y))).push (c6 x y)).update z (Obj.mapFields (·.setIfInBounds 0 (rawInt hp.objs.size)))).update z (Obj.mapFields (·.setIfInBounds 1 (.bool false)))).get? z=some (i9 TI TO (rawInt hp.objs.size))) /\
  (((((H4.update TO (Obj.mapSeq (·.setIfInBounds 1 y))).push (c6 x y)).update z (Obj.mapFields (·.setIfInBounds 0 (rawInt hp.objs.size)))).update z (Obj.mapFields (·.setIfInBounds 1 (.bool false)))).get? TO=some (c6 x y)) /\
  (((((H4.update TO (Obj.mapSeq (·.setIfInBounds 1 y))).push (c6 x y)).update z (Obj.mapFields (·.setIfInBounds 0 (rawInt hp.objs.size)))).update z (Obj.mapFields (·.setIfInBounds 1 (.bool false)))).get? hp.objs.size=some (c6 x y)) /\
  (((((H4.update TO (Obj.mapSeq (·.setIfInBounds 1 y))).push (c6 x y)).update z (Obj.mapFields (·.setIfInBounds 0 (rawInt hp.objs.size)))).update z (Obj.mapFields (·.setIfInBounds 1 (.bool false)))).get? i1=some o1) /\
  (((((H4.update TO (Obj.mapSeq (·.setIfInBounds 1 y))).push (c6 x y)).update z (Obj.mapFields (·.setIfInBounds 0 (rawInt hp.objs.size)))).update z (Obj.mapFields (·.setIfInBounds 1 (.bool false)))).get? i2=some o2) /\
  ∀c o,c≠z->c≠TO->c≠i1->c≠i2->hp.get? c=some o->((((H4.update TO (Obj.mapSeq (·.setIfInBounds 1 y))).push (c6 x y)).update z (Obj.mapFields (·.setIfInBounds 0 (rawInt hp.objs.size)))).update z (Obj.mapFields (·.setIfInBounds 1 (.bool false)))).get? c=some o:=by
 have t5:(H4.update TO (Obj.mapSeq (·.setIfInBounds 1 y))).get? TO=some (c6 x y):=by rw [Heap.get?_update_self _ u3 rfl];rfl
 have z5:(H4.update TO (Obj.mapSeq (·.setIfInBounds 1 y))).get? z=some (i9 TI TO .ellipsis):=by rw [e9 D.TOz.symm];exact u4
 have a5:(H4.update TO (Obj.mapSeq (·.setIfInBounds 1 y))).get? i1=some o1:=by rw [e9 D.TOi1.symm];exact u1
 have b5:(H4.update TO (Obj.mapSeq (·.setIfInBounds 1 y))).get? i2=some o2:=by rw [e9 D.TOi2.symm];exact u2
 have c5:∀c o,c≠z->c≠TO->c≠i1->c≠i2->hp.get? c=some o->(H4.update TO (Obj.mapSeq (·.setIfInBounds 1 y))).get? c=some o:=fun c o c1 c2 c3 c4 e=>by rw [e9 c2];exact u5 c o c1 c2 c3 c4 e
 generalize H4.update TO (Obj.mapSeq (·.setIfInBounds 1 y))=H5 at *
 have z6:(H5.push (c6 x y)).get? z=some (i9 TI TO .ellipsis):=Heap.get?_push_of_some _ z5
 have z7:((H5.push (c6 x y)).update z (Obj.mapFields (·.setIfInBounds 0 (rawInt hp.objs.size)))).get? z=some (i9 TI TO (rawInt hp.objs.size)):=by rw [Heap.get?_update_self _ z6 rfl];rfl
 have two:∀{c:Addr},c≠z->(((H5.push (c6 x y)).update z (Obj.mapFields (·.setIfInBounds 0 (rawInt hp.objs.size)))).update z (Obj.mapFields (·.setIfInBounds 1 (.bool false)))).get? c=(H5.push (c6 x y)).get? c:=fun n=>by rw [e9 n,e9 n]
 refine ⟨?_,?_,?_,?_,?_,fun c o c1 c2 c3 c4 e=>?_⟩
 . rw [Heap.get?_update_self _ z7 rfl];rfl
 . rw [two D.TOz];exact Heap.get?_push_of_some _ t5
 . rw [two nz,<-sz];exact Heap.get?_push_size _ rfl
 . rw [two D.i1z];exact Heap.get?_push_of_some _ a5
 . rw [two D.i2z];exact Heap.get?_push_of_some _ b5
 . rw [two c1];exact Heap.get?_push_of_some _ (c5 c o c1 c2 c3 c4 e)
theorem kM (D:ZipApart z TI TO i1 i2 l1 l2) (hz:hp.get? z=some (i9 TI TO .none)) (hTO:hp.get? TO=some (c6 a b)) (h1:hp.get? i1=some (d9 l1 k)) (h2:hp.get? i2=some (d8 l2 k)) :
  (zHF hp z TO i1 i2 x y (up1 k) (up1 k)).get? z=some (i9 TI TO (rawInt hp.objs.size))/\(zHF hp z TO i1 i2 x y (up1 k) (up1 k)).get? TO=some (c6 x y)/\(zHF hp z TO i1 i2 x y (up1 k) (up1 k)).get? hp.objs.size=some (c6 x y) /\
  (zHF hp z TO i1 i2 x y (up1 k) (up1 k)).get? i1=some (d9 l1 (k+1))/\(zHF hp z TO i1 i2 x y (up1 k) (up1 k)).get? i2=some (d8 l2 (k+1)) /\
  ∀c o,c≠z->c≠TO->c≠i1->c≠i2->hp.get? c=some o->(zHF hp z TO i1 i2 x y (up1 k) (up1 k)).get? c=some o:=by
 have z1:(zH1 hp z).get? z=some (i9 TI TO .ellipsis):=by unfold zH1;rw [Heap.get?_update_self _ hz rfl];rfl
 have zn:∀{c},c≠z->(zH1 hp z).get? c=hp.get? c:=fun n=>e9 n
 have t2:((zH1 hp z).update i1 (up1 k)).get? TO=some (c6 a b):=by rw [e9 D.TOi1,zn D.TOz];exact hTO
 have t3:(((zH1 hp z).update i1 (up1 k)).update TO (Obj.mapSeq (·.setIfInBounds 0 x))).get? TO=some (c6 x b):=by rw [Heap.get?_update_self _ t2 rfl];rfl
 have i2':(((zH1 hp z).update i1 (up1 k)).update TO (Obj.mapSeq (·.setIfInBounds 0 x))).get? i2=some (d8 l2 k):=by rw [e9 D.TOi2.symm,e9 D.i12.symm,zn D.i2z];exact h2
 have u2:(zH4 hp z TO i1 i2 x (up1 k) (up1 k)).get? i2=some (d8 l2 (k+1)):=by unfold zH4;rw [Heap.get?_update_self _ i2' rfl];simp [d8,Obj.mapFields,rawInt]
 have u1:(zH4 hp z TO i1 i2 x (up1 k) (up1 k)).get? i1=some (d9 l1 (k+1)):=by unfold zH4;rw [e9 D.i12,e9 D.TOi1.symm,Heap.get?_update_self _ (show (zH1 hp z).get? i1=some (d9 l1 k) by rw [zn D.i1z];exact h1) rfl];simp [d9,Obj.mapFields,rawInt]
 have u3:(zH4 hp z TO i1 i2 x (up1 k) (up1 k)).get? TO=some (c6 x b):=by unfold zH4;rw [e9 D.TOi2];exact t3
 have u4:(zH4 hp z TO i1 i2 x (up1 k) (up1 k)).get? z=some (i9 TI TO .ellipsis):=by unfold zH4;rw [e9 D.i2z.symm,e9 D.TOz.symm,e9 D.i1z.symm];exact z1
 have u5:∀c o,c≠z->c≠TO->c≠i1->c≠i2->hp.get? c=some o->(zH4 hp z TO i1 i2 x (up1 k) (up1 k)).get? c=some o:=fun c o c1 c2 c3 c4 e=>by unfold zH4;rw [e9 c4,e9 c2,e9 c3,zn c1];exact e
 have sz:((zH4 hp z TO i1 i2 x (up1 k) (up1 k)).update TO (Obj.mapSeq (·.setIfInBounds 1 y))).objs.size=hp.objs.size:=by unfold zH4 zH1;rw [Heap.size_update,Heap.size_update,Heap.size_update,Heap.size_update,Heap.size_update]
 have nz:hp.objs.size≠z:=Nat.ne_of_gt (Heap.lt_size hz)
 exact Mx D u1 u2 u3 u4 u5 sz nz
end
section
variable {prog:Program} {w:World} {A:Around} {E:Value->Shared->Prop} {s:Shared} {z TI TO i1 i2 l1 l2:Addr} {a b x y:Value} {k:Nat} {xs ys:Array Value}
theorem xB {Q:Option Value->Shared->Prop} (D:ZipApart z TI TO i1 i2 l1 l2) (hz:s.heap.get? z=some (i9 TI TO .none)) (hTI:s.heap.get? TI=some (c6 (.ref i1) (.ref i2))) (hTO:s.heap.get? TO=some (c6 a b))
  (h1:s.heap.get? i1=some (d9 l1 k)) (h2:s.heap.get? i2=some (d8 l2 k)) (hl1:s.heap.IsTuple l1 xs) (hl2:s.heap.IsList l2 ys) (hx:xs[k]?=some x) (hy:ys[k]?=some y)
  (hQ:Q (some (.ref s.heap.objs.size)) { s with heap:=zHF s.heap z TO i1 i2 x y (up1 k) (up1 k) }):wpAny (model prog w) A (pyNext (.ref z)) Q E s:=by
 have hT:s.TypeIs (.ref z) "zip":=⟨_,hz,rfl⟩
 have k1:∀{c o},c≠z->s.heap.get? c=some o->(zH1 s.heap z).get? c=some o:=fun n e=>by unfold zH1;rw [e9 n];exact e
 have g1:K4 i1 x (up1 k) A.in1 { s with heap:=zH1 s.heap z }:=Vl (k1 D.i1z h1) (let ⟨o,ho,r⟩:=hl1;⟨o,k1 D.l1z ho,r⟩) hx
 have k3:∀{c o},c≠z->c≠i1->c≠TO->s.heap.get? c=some o->(((zH1 s.heap z).update i1 (up1 k)).update TO (Obj.mapSeq (·.setIfInBounds 0 x))).get? c=some o:=fun n1 n2 n3 e=>by rw [e9 n3,e9 n2];exact k1 n1 e
 have g2:K4 i2 y (up1 k) A.in1 { s with heap:=((zH1 s.heap z).update i1 (up1 k)).update TO (Obj.mapSeq (·.setIfInBounds 0 x)) }:=Vk (k3 D.i2z D.i12.symm D.TOi2.symm h2) (let ⟨o,ho,r⟩:=hl2;⟨o,k3 D.l2z D.l2i1 D.l2TO ho,r⟩) hy
 unfold pyNext
 exact wpAny_bind (wpAny_attempt (wpAny_callSpecial?_slot (name:=Str.ofString "__next__") hT F.slot_zip_next
  (call_meets F.slot_zip_next hT F.entry_zip_next (F.args_zip_next_1 _) (Vj z TI TO i1 i2 a b x y (up1 k) (up1 k) D.TOz D.TOi1 D.TOi2 D.i1z D.i2z) ⟨hz,hTI,hTO,g1,g2,wpAny_pure hQ⟩)))
theorem vN {Q:Option Value->Shared->Prop} (hh:A.handled=none) (D:ZipApart z TI TO i1 i2 l1 l2) (hz:s.heap.get? z=some (i9 TI TO .none)) (hTI:s.heap.get? TI=some (c6 (.ref i1) (.ref i2))) (hTO:s.heap.get? TO=some (c6 a b))
  (h1:s.heap.get? i1=some (d9 l1 k)) (hl1:s.heap.IsTuple l1 xs) (hx:xs[k]?=none) (hQ:∀h',(∀c o,c≠z->c≠i1->s.heap.get? c=some o->h'.get? c=some o)->Q none { s with heap:=h' }):wpAny (model prog w) A (pyNext (.ref z)) Q E s:=by
 have hT:s.TypeIs (.ref z) "zip":=⟨_,hz,rfl⟩
 have k1:∀{c o},c≠z->s.heap.get? c=some o->(zH1 s.heap z).get? c=some o:=fun n e=>by unfold zH1;rw [e9 n];exact e
 have g1:W1 i1 A.in1 { s with heap:=zH1 s.heap z }:=xC hh (k1 D.i1z h1) (let ⟨o,ho,r⟩:=hl1;⟨o,k1 D.l1z ho,r⟩) hx
 unfold pyNext
 refine wpAny_bind (wpAny_attempt (wpAny_callSpecial?_slot (name:=Str.ofString "__next__") hT F.slot_zip_next
  (call_meets F.slot_zip_next hT F.entry_zip_next (F.args_zip_next_1 _) (Uc z TI TO i1 i2 a b D.i1z) ⟨hz,hTI,hTO,g1,fun h' e kp he=>?_⟩)))
 obtain ⟨o,ho,hc⟩:=he
 exact wpAny_bind (wpAny_isInstance (T:="StopIteration") (b:=true) ⟨o,ho,hc⟩ isSubtype_stop (wpAny_pure (hQ h' kp)))
end
theorem yy {P:Program} {w:World} {K:Frag} {elts:List Expr} {k:Nat} {pos:Pos} {z TI TO i1 i2 l1 l2:Addr} {xs ys:List V} (D:ZipApart z TI TO i1 i2 l1 l2) (hlen:xs.length=ys.length) :
  Turn P w K (.Tuple elts k pos) (ItP (fun H=>Rd H l1 (.tup xs)/\Rd H l2 (.lst ys)) (xs.zip ys)) [z,TI,TO,i1,i2] z
   (fun i h=>h.get? z=some (i9 TI TO .none)/\h.get? TI=some (c6 (.ref i1) (.ref i2))/\(∃a b,h.get? TO=some (c6 a b))/\h.get? i1=some (d9 l1 i)/\h.get? i2=some (d8 l2 i)) where
 mem:=by simp
 obj:=fun i h ⟨hz,hTI,⟨a,b,hTO⟩,h1,h2⟩ c hc=>by
  have hc':c=z\/c=TI\/c=TO\/c=i1\/c=i2:=by simpa using hc
  rcases hc' with rfl | rfl | rfl | rfl | rfl
  . exact ⟨_,hz,fun v e=>by cases e⟩
  . exact ⟨_,hTI,fun v e=>by cases e⟩
  . exact ⟨_,hTO,fun v e=>by cases e⟩
  . exact ⟨_,h1,fun v e=>by cases e⟩
  . exact ⟨_,h2,fun v e=>by cases e⟩
 keep:=fun i h h' ⟨hz,hTI,⟨a,b,hTO⟩,h1,h2⟩ kp=>⟨kp z (by simp) _ hz,kp TI (by simp) _ hTI,⟨a,b,kp TO (by simp) _ hTO⟩,kp i1 (by simp) _ h1,kp i2 (by simp) _ h2⟩
 item:=by
  intro X hP hw hK hc i pins s U H E I hf st hg;subst hP hw hK;obtain ⟨⟨hS1,hS2⟩,hlt⟩:=hg;obtain ⟨hz,hTI,⟨a0,b0,hTO⟩,h1,h2⟩:=st;obtain ⟨its1,r1,p1,z1⟩:=I.tuple (.inl hS1);obtain ⟨its2,r2,p2,z2⟩:=I.list (.inl hS2);have le1:=r1.length;have le2:=r2.length;rw [List.length_zip] at hlt;obtain ⟨a,ea⟩:∃a,xs[i]?=some a:=⟨xs[i]'(by omega),by simp⟩;obtain ⟨b,eb⟩:∃b,ys[i]?=some b:=⟨ys[i]'(by omega),by simp⟩;obtain ⟨x,q1,ru1⟩:=r1.get ea;obtain ⟨y,q2,ru2⟩:=r2.get eb;obtain ⟨f1,f2,f3,f4,f5,f6⟩:=kM (x:=x) (y:=y) D hz hTO h1 h2;refine xB D hz hTI hTO h1 h2 p1 p2.isList (by simpa using q1) (by simpa using q2) ⟨.ref s.heap.objs.size,rfl,?_⟩;generalize zHF s.heap z TO i1 i2 x y (up1 i) (up1 i)=HF at f1 f2 f3 f4 f5 f6;refine wpAny_letOwnedTupleGo_zip (TI:=TI) (TO:=TO) f1 fun h' hz' hs'=>?_
  have nT:∀{c o},s.heap.get? c=some o->s.heap.objs.size≠c:=fun e=>Nat.ne_of_gt (Heap.lt_size e)
  have up:∀{c o},c≠z->HF.get? c=some o->h'.get? c=some o:=fun n e=>hs'.extBut _ _ n e
  have ht:IsTp h' s.heap.objs.size ([x,y]:List Value).toArray:=.mk' (up (nT hz) f3);have sub:∀c∈[z,TO,i1,i2],o4 X pins H c:=fun c hc'=>hf c (by
   have:c=z\/c=TO\/c=i1\/c=i2:=by simpa using hc'
   rcases this with rfl | rfl | rfl | rfl<;>simp)
  have I2:=I.turnedT (tk:=s.toks) (h':=h') (xs:=[a,b]) (its:=[x,y]) sub (fun c o hcw e=>by
   have hc':c≠z/\c≠TO/\c≠i1/\c≠i2:=by simpa using hcw
   exact up hc'.1 (f6 c o hc'.1 hc'.2.1 hc'.2.2.1 hc'.2.2.2 e)) (Nat.le_refl _) ht (.cons ru1 (.cons ru2 .nil)) Ck
  have HT:H s.heap.objs.size=none:=I.hok.fresh (Nat.le_refl _);refine ⟨.ref s.heap.objs.size,upd H s.heap.objs.size (.tup [a,b]),I2,rfl,⟨s.heap.objs.size,a,b,rfl,HT,rfl,?_⟩,⟨hz',up D.TIz (f6 _ _ D.TIz D.TITO D.TIi1 D.TIi2 hTI),⟨x,y,up D.TOz f2⟩,up D.i1z f4,up D.i2z f5⟩,fun c hc'=>?_⟩
  . rw [List.getElem?_zip_eq_some];exact ⟨ea,eb⟩
  . rw [h8]
    . exact (hf c hc').1
    . intro e;have hc'':c=z\/c=TI\/c=TO\/c=i1\/c=i2:=by simpa using hc'
      rcases hc'' with q | q | q | q | q<;>rw [q] at e
      . exact nT hz e.symm
      . exact nT hTI e.symm
      . exact nT hTO e.symm
      . exact nT h1 e.symm
      . exact nT h2 e.symm
 done:=by
  intro X hP hw hK hc i pins s U H E I hf st hg;subst hP hw hK;obtain ⟨⟨hS1,hS2⟩,hle⟩:=hg;obtain ⟨hz,hTI,⟨a0,b0,hTO⟩,h1,h2⟩:=st;obtain ⟨its1,r1,p1,z1⟩:=I.tuple (.inl hS1);have le1:=r1.length;rw [List.length_zip] at hle;have sub:∀c∈[z,i1],o4 X pins H c:=fun c hc'=>hf c (by
   have:c=z\/c=i1:=by simpa using hc'
   rcases this with rfl | rfl<;>simp)
  refine vN (I.ok.hd hc) D hz hTI hTO h1 p1 (by simp;omega) fun h' kp=>⟨rfl,?_⟩
  exact I.turnedN (tk:=s.toks) sub fun c o hcw e=>by
   have hc':c≠z/\c≠i1:=by simpa using hcw
   exact kp c o hc'.1 hc'.2 e
 self:=fun A i s Q E st h=>wpAny_pyIter_zip (TI:=TI) (TO:=TO) (f0:=.none) st.1 h
noncomputable def zN (h:Heap) (os:List Obj):Heap:=os.foldl Heap.push h
theorem Se:∀(os:List Obj) (h:Heap),(zN h os).objs.size=h.objs.size+os.length
 | [],h=>rfl
 | o::os,h=>by show (zN (h.push o) os).objs.size=_;rw [Se os,Heap.size_push,List.length_cons];omega
theorem Cr:∀(os:List Obj) {h:Heap} {c:Addr} {o:Obj},h.get? c=some o->(zN h os).get? c=some o
 | [],_,_,_,e=>e
 | o::os,h,c,u,e=>Cr os (h:=h.push o) (Heap.get?_push_of_some _ e)
theorem D2 (os:List Obj) (o:Obj) (rest:List Obj) (h:Heap) (hf:o.isFreed=false):(zN h (os++o::rest)).get? (h.objs.size+os.length)=some o:=by
 have e:zN h (os++o::rest)=zN ((zN h os).push o) rest:=by unfold zN;rw [List.foldl_append];rfl
 rw [e,<-Se];exact Cr rest (Heap.get?_push_size _ hf)
noncomputable def zOs (n:Nat) (l1 l2:Addr):List Obj:=[d9 l1 0,d8 l2 0,c6 (.ref n) (.ref (n+1)),c6 .none .none,i9 (n+2) (n+3) .none]
section
open PySem.SeqAt
open PySem.AutoSeq1 (wpAny_loadPart')
theorem xA (l1 l2:Addr) (xs ys:Array Value) :
  Meets (Builtin.«zip.__new__» ⟨[.type "zip",.ref l1,.ref l2],[]⟩) (fun _ R s=>s.heap.IsTuple l1 xs/\s.heap.IsList l2 ys/\R (.ok (.ret (.ref (s.heap.objs.size+4)))) { s with heap:=zN s.heap (zOs s.heap.objs.size l1 l2) }):=
 .of_wp fun prog w A R s h=>by
  obtain ⟨hp,g,dr,tk,os⟩:=s;obtain ⟨q1,q2,h⟩:=h;have f0:=sub_zip;have a1:Heap.IsTuple (Shared.heap ⟨hp,g,dr,tk,os⟩) l1 xs:=q1;have a2:Heap.IsList (Shared.heap ⟨hp.push { cls:=.type "tuple_iterator",data:=.fields #[.ref l1,.int 0 0] },g,dr,tk,os⟩) l2 ys:=Heap.IsList.push q2 _
  wp_walk using wpAny_pyIter_tuple a1,wpAny_pyIter_list a2
  refine ⟨_,rfl,?_⟩;have s1:(hp.push (d9 l1 0)).objs.size=hp.objs.size+1:=Heap.size_push ..;have s2:((hp.push (d9 l1 0)).push (d8 l2 0)).objs.size=hp.objs.size+2:=by rw [Heap.size_push,s1]
  have s3:(((hp.push (d9 l1 0)).push (d8 l2 0)).push (c6 (.ref hp.objs.size) (.ref (hp.push (d9 l1 0)).objs.size))).objs.size=hp.objs.size+3:=by rw [Heap.size_push,s2]
  have s4:((((hp.push (d9 l1 0)).push (d8 l2 0)).push (c6 (.ref hp.objs.size) (.ref (hp.push (d9 l1 0)).objs.size))).push (c6 .none .none)).objs.size=hp.objs.size+4:=by rw [Heap.size_push,s3]
  show R (.ok (.ret (.ref ((((hp.push (d9 l1 0)).push (d8 l2 0)).push (c6 (.ref hp.objs.size) (.ref (hp.push (d9 l1 0)).objs.size))).push (c6 .none .none)).objs.size))) { heap:=((((hp.push (d9 l1 0)).push (d8 l2 0)).push (c6 (.ref hp.objs.size) (.ref (hp.push (d9 l1 0)).objs.size))).push (c6 .none .none)).push (i9 ((hp.push (d9 l1 0)).push (d8 l2 0)).objs.size (((hp.push (d9 l1 0)).push (d8 l2 0)).push (c6 (.ref hp.objs.size) (.ref (hp.push (d9 l1 0)).objs.size))).objs.size .none),gens:=g,drawn:=dr,toks:=tk,os:=os };rw [s4,s3,s2,s1];exact h
end
noncomputable def y16 (ta:TA):TI:=fun U H R=>ta U H fun vs H1=>match vs with
 | [.ref l1,.ref l2]=>∃xs ys,Rd H1 l1 (.tup xs)/\Rd H1 l2 (.lst ys)/\xs.length=ys.length/\R (ItP (fun H=>Rd H l1 (.tup xs)/\Rd H l2 (.lst ys)) (xs.zip ys)) H1
 | _=>False
section
variable {X:Cx} {a b:Expr} {ta:TA} {p pos tpos:Pos} {elts:List Expr} {k:Nat}
theorem vM (hg:Gl X "zip") (hm:X.mg "zip"=none) (ha:PA X [a,b] ta) (hs:starEach [a,b] X.env=[(false,eval a X.env),(false,eval b X.env)]:=by rfl) (hs2:starEach [b] X.env=[(false,eval b X.env)]:=by rfl) :
  PI X (.Tuple elts k tpos) (.Call (.Name "zip" p) [a,b] [] pos) (y16 ta):=by
 intro pins s U H R I h
 refine Call_ (J0 I hg hm boot_zip (PyProof.Rows.callWith_type1 (thn (ha pos pins s U H _ I h) fun us s1 ⟨vs,H1,I1,r1,q1⟩=>?_) (by rw [hs,hs2]) (by rw [hs2];rfl)))
 dsimp only at q1
 split at q1
 . rename_i l1 l2;obtain ⟨xs,ys,e1,e2,hlen,q⟩:=q1;obtain ⟨u,w',rfl,ru,rw'⟩:=Bt r1;cases ru;cases rw';obtain ⟨its1,rr1,p1,_⟩:=I1.tuple (.inl e1);obtain ⟨its2,rr2,p2,_⟩:=I1.list (.inl e2);have lt1:l1<s1.heap.objs.size:=by obtain ⟨o,ho,_⟩:=p1;exact Heap.lt_size ho
   have lt2:l2<s1.heap.objs.size:=by obtain ⟨o,ho,_⟩:=p2.isList;exact Heap.lt_size ho
   refine callType_new F.called_zip (by decide) (F.typeCall_zip_2 _ _) (F.newCall_zip_2 _ _) (fun obj=>F.args_object_init_3 obj _ _) F.entry_zip_new (xA l1 l2 its1.toArray its2.toArray) ⟨p1,p2.isList,?_⟩;have g4:=D2 [d9 l1 0,d8 l2 0,c6 (.ref s1.heap.objs.size) (.ref (s1.heap.objs.size+1)),c6 .none .none] (i9 (s1.heap.objs.size+2) (s1.heap.objs.size+3) .none) [] s1.heap rfl;have g3:=D2 [d9 l1 0,d8 l2 0,c6 (.ref s1.heap.objs.size) (.ref (s1.heap.objs.size+1))] (c6 .none .none) [i9 (s1.heap.objs.size+2) (s1.heap.objs.size+3) .none] s1.heap rfl;have g2:=D2 [d9 l1 0,d8 l2 0] (c6 (.ref s1.heap.objs.size) (.ref (s1.heap.objs.size+1))) [c6 .none .none,i9 (s1.heap.objs.size+2) (s1.heap.objs.size+3) .none] s1.heap rfl;have g1:=D2 [d9 l1 0] (d8 l2 0) [c6 (.ref s1.heap.objs.size) (.ref (s1.heap.objs.size+1)),c6 .none .none,i9 (s1.heap.objs.size+2) (s1.heap.objs.size+3) .none] s1.heap rfl;have g0:=D2 [] (d9 l1 0) [d8 l2 0,c6 (.ref s1.heap.objs.size) (.ref (s1.heap.objs.size+1)),c6 .none .none,i9 (s1.heap.objs.size+2) (s1.heap.objs.size+3) .none] s1.heap rfl;have kp:∀c o,s1.heap.get? c=some o->(zN s1.heap (zOs s1.heap.objs.size l1 l2)).get? c=some o:=fun c o e=>Cr _ e
   refine ⟨⟨_,g4,rfl⟩,?_⟩;refine wpAny_pyIter_zip (TI:=s1.heap.objs.size+2) (TO:=s1.heap.objs.size+3) (f0:=.none) g4 ⟨s1.heap.objs.size+4,[s1.heap.objs.size+4,s1.heap.objs.size+2,s1.heap.objs.size+3,s1.heap.objs.size,s1.heap.objs.size+1],_,_,H1,rfl,I1.kept (t':=s1.toks) kp,yy (Vr lt1 lt2) hlen,⟨g4,g2,⟨_,_,g3⟩,g0,g1⟩,fun c hc=>?_,q⟩;have hc':s1.heap.objs.size<=c:=by
    have:c=s1.heap.objs.size+4\/c=s1.heap.objs.size+2\/c=s1.heap.objs.size+3\/c=s1.heap.objs.size\/c=s1.heap.objs.size+1:=by simpa using hc
    rcases this with q | q | q | q | q<;>rw [q]<;>first | exact Nat.le_add_right _ _ | exact Nat.le_refl _
   exact I1.fpOk hc' (I1.hok.fresh hc')
 . exact q1.elim
end
noncomputable def z8 (fs:DE->R (List D)):DE->R (List D):=fun ρ=>(fs ρ).bind fun ds=>R.of (match ds with
 | [.tup es,.lst gs]=>if es.length=gs.length then some ((es.zip gs).map fun p=>D.tup [p.1,p.2]) else none
 | _=>none)
theorem Mw {X:Cx} {EX:XW} {elts:List Expr} {k:Nat} {a b:Expr} {p pos tpos:Pos} {fs:DE->R (List D)} (hg:Gl X "zip") (hm:X.mg "zip"=none) (ha:QA X EX [a,b] fs) (hs:starEach [a,b] X.env=[(false,eval a X.env),(false,eval b X.env)]:=by rfl) (hs2:starEach [b] X.env=[(false,eval b X.env)]:=by rfl) :
  QI X EX false (.Tuple elts k tpos) (.Call (.Name "zip" p) [a,b] [] pos) (z8 fs):=⟨(vM hg hm ha.h hs hs2).imp fun U H Q ⟨sx,ρ,H0,s,e,h⟩=>by
 unfold z8 at h
 rw [Rk.bind] at h
 refine TAd.go sx s e h fun ds h vs H1 H1' s1 e1 r1=>?_
 obtain ⟨es,hd,h⟩:=h.of
 split at hd<;>first | cases hd | skip
 split at hd<;>cases hd
 rename_i hl0
 obtain ⟨x,y,rfl,q1,q2⟩:=r1.duo
 obtain ⟨l,xs,rfl,hl,rl⟩:=q1.tup
 obtain ⟨l',ys,rfl,hl',rl'⟩:=q2.lst
 exact ⟨xs,ys,.inl (e1.2.1 _ _ hl),.inl (e1.2.1 _ _ hl'),by rw [<-rl.length,<-rl'.length];exact hl0,h _ H1 H1' s1 e1 (Ce (fun H s=>⟨.inl (s _ _ hl),.inl (s _ _ hl')⟩) rl rl')⟩⟩
end L2
namespace L2
open PySem PySem.Spec PyProof.Rows
section
open PySem.SeqAt
open PySem.AutoSeq1 (wpAny_loadPart')
theorem xz (it l:Addr) (items:Array Value) (i n:Nat) (dd:Option Addr) (sl:Array (Option Value)) (hx:items[i]?=none) :
  Meets (Builtin.«list_iterator.__next__» ⟨[.ref it],[]⟩) (fun A R s=>s.heap.get? it=some (d8 l i)/\s.heap.get? l=some { cls:=.type "list",dict:=dd,data:=.seq items n,slots:=sl }/\A.in1.handled=none /\
   ∀h' e,(∀c o,c≠it->s.heap.get? c=some o->h'.get? c=some o)->(∃o,h'.get? e=some o/\o.cls=.type "StopIteration")->R (.error (.ref e)) { s with heap:=h' }):=
 .of_wp fun prog w A R s h=>by
  obtain ⟨hp,g,dr,tk,os⟩:=s;obtain ⟨hl,hd,hh,h⟩:=h;unfold d8 at hl;have hat:items[((i:Nat):Int).toNat]?=none:=by simpa using hx
  wp_walk using wpAny_loadPart' hl,wpAny_loadPart' hd
  rw [hat]
  wp_walk using wpAny_loadPart' hl,wpAny_loadPart' hd
  unfold raiseNew;refine wpAny_bind (wpAny_handled ?_);rw [hh];refine wpAny_bind (wpAny_pure (wpAny_throw (h _ _ (fun c o hc e=>?_) ⟨_,Heap.get?_push_size _ rfl,rfl⟩)));refine Heap.get?_push_of_some _ (Heap.get?_push_of_some _ ?_);rw [Heap.get?_update_ne _ _ _ _ hc];exact e
theorem xy {it l:Addr} {items:Array Value} {i:Nat} {A:Around} {s:Shared} (hh:A.handled=none) (hit:s.heap.get? it=some (d8 l i)) (hl:s.heap.IsList l items) (hx:items[i]?=none):W1 it A s:=fun prog w E Q q=>by obtain ⟨⟨cl,dd,da,sl⟩,ho,hc,n,hd⟩:=hl;simp only at hc hd;subst hc hd;unfold Builtin.SmallTypes.nextOf;exact wpAny_bind (wpAny_callSpecial?_slot (name:=Str.ofString "__next__") ⟨_,hit,rfl⟩ slot_listiter_next (call_meets slot_listiter_next ⟨_,hit,rfl⟩ entry_listiter_next (args_listiter_next _) (xz it l items i n dd sl hx) ⟨hit,ho,hh,q⟩))
end
section
variable {hp:Heap} {z TI TO i1 i2 l1 l2:Addr} {a b x y:Value} {k:Nat}
theorem vL (D:ZipApart z TI TO i1 i2 l1 l2) (hz:hp.get? z=some (i9 TI TO .none)) (hTO:hp.get? TO=some (c6 a b)) (h1:hp.get? i1=some (d8 l1 k)) (h2:hp.get? i2=some (d9 l2 k)) :
  (zHF hp z TO i1 i2 x y (up1 k) (up1 k)).get? z=some (i9 TI TO (rawInt hp.objs.size))/\(zHF hp z TO i1 i2 x y (up1 k) (up1 k)).get? TO=some (c6 x y)/\(zHF hp z TO i1 i2 x y (up1 k) (up1 k)).get? hp.objs.size=some (c6 x y) /\
  (zHF hp z TO i1 i2 x y (up1 k) (up1 k)).get? i1=some (d8 l1 (k+1))/\(zHF hp z TO i1 i2 x y (up1 k) (up1 k)).get? i2=some (d9 l2 (k+1)) /\
  ∀c o,c≠z->c≠TO->c≠i1->c≠i2->hp.get? c=some o->(zHF hp z TO i1 i2 x y (up1 k) (up1 k)).get? c=some o:=by
 have z1:(zH1 hp z).get? z=some (i9 TI TO .ellipsis):=by unfold zH1;rw [Heap.get?_update_self _ hz rfl];rfl
 have zn:∀{c},c≠z->(zH1 hp z).get? c=hp.get? c:=fun n=>e9 n
 have t2:((zH1 hp z).update i1 (up1 k)).get? TO=some (c6 a b):=by rw [e9 D.TOi1,zn D.TOz];exact hTO
 have t3:(((zH1 hp z).update i1 (up1 k)).update TO (Obj.mapSeq (·.setIfInBounds 0 x))).get? TO=some (c6 x b):=by rw [Heap.get?_update_self _ t2 rfl];rfl
 have i2':(((zH1 hp z).update i1 (up1 k)).update TO (Obj.mapSeq (·.setIfInBounds 0 x))).get? i2=some (d9 l2 k):=by rw [e9 D.TOi2.symm,e9 D.i12.symm,zn D.i2z];exact h2
 have u2:(zH4 hp z TO i1 i2 x (up1 k) (up1 k)).get? i2=some (d9 l2 (k+1)):=by unfold zH4;rw [Heap.get?_update_self _ i2' rfl];simp [d9,Obj.mapFields,rawInt]
 have u1:(zH4 hp z TO i1 i2 x (up1 k) (up1 k)).get? i1=some (d8 l1 (k+1)):=by unfold zH4;rw [e9 D.i12,e9 D.TOi1.symm,Heap.get?_update_self _ (show (zH1 hp z).get? i1=some (d8 l1 k) by rw [zn D.i1z];exact h1) rfl];simp [d8,Obj.mapFields,rawInt]
 have u3:(zH4 hp z TO i1 i2 x (up1 k) (up1 k)).get? TO=some (c6 x b):=by unfold zH4;rw [e9 D.TOi2];exact t3
 have u4:(zH4 hp z TO i1 i2 x (up1 k) (up1 k)).get? z=some (i9 TI TO .ellipsis):=by unfold zH4;rw [e9 D.i2z.symm,e9 D.TOz.symm,e9 D.i1z.symm];exact z1
 have u5:∀c o,c≠z->c≠TO->c≠i1->c≠i2->hp.get? c=some o->(zH4 hp z TO i1 i2 x (up1 k) (up1 k)).get? c=some o:=fun c o c1 c2 c3 c4 e=>by unfold zH4;rw [e9 c4,e9 c2,e9 c3,zn c1];exact e
 have sz:((zH4 hp z TO i1 i2 x (up1 k) (up1 k)).update TO (Obj.mapSeq (·.setIfInBounds 1 y))).objs.size=hp.objs.size:=by unfold zH4 zH1;rw [Heap.size_update,Heap.size_update,Heap.size_update,Heap.size_update,Heap.size_update]
 have nz:hp.objs.size≠z:=Nat.ne_of_gt (Heap.lt_size hz)
 exact Mx D u1 u2 u3 u4 u5 sz nz
end
section
variable {prog:Program} {w:World} {A:Around} {E:Value->Shared->Prop} {s:Shared} {z TI TO i1 i2 l1 l2:Addr} {a b x y:Value} {k:Nat} {xs ys:Array Value}
theorem yx {Q:Option Value->Shared->Prop} (D:ZipApart z TI TO i1 i2 l1 l2) (hz:s.heap.get? z=some (i9 TI TO .none)) (hTI:s.heap.get? TI=some (c6 (.ref i1) (.ref i2))) (hTO:s.heap.get? TO=some (c6 a b))
  (h1:s.heap.get? i1=some (d8 l1 k)) (h2:s.heap.get? i2=some (d9 l2 k)) (hl1:s.heap.IsList l1 xs) (hl2:s.heap.IsTuple l2 ys) (hx:xs[k]?=some x) (hy:ys[k]?=some y)
  (hQ:Q (some (.ref s.heap.objs.size)) { s with heap:=zHF s.heap z TO i1 i2 x y (up1 k) (up1 k) }):wpAny (model prog w) A (pyNext (.ref z)) Q E s:=by
 have hT:s.TypeIs (.ref z) "zip":=⟨_,hz,rfl⟩
 have k1:∀{c o},c≠z->s.heap.get? c=some o->(zH1 s.heap z).get? c=some o:=fun n e=>by unfold zH1;rw [e9 n];exact e
 have g1:K4 i1 x (up1 k) A.in1 { s with heap:=zH1 s.heap z }:=Vk (k1 D.i1z h1) (let ⟨o,ho,r⟩:=hl1;⟨o,k1 D.l1z ho,r⟩) hx
 have k3:∀{c o},c≠z->c≠i1->c≠TO->s.heap.get? c=some o->(((zH1 s.heap z).update i1 (up1 k)).update TO (Obj.mapSeq (·.setIfInBounds 0 x))).get? c=some o:=fun n1 n2 n3 e=>by rw [e9 n3,e9 n2];exact k1 n1 e
 have g2:K4 i2 y (up1 k) A.in1 { s with heap:=((zH1 s.heap z).update i1 (up1 k)).update TO (Obj.mapSeq (·.setIfInBounds 0 x)) }:=Vl (k3 D.i2z D.i12.symm D.TOi2.symm h2) (let ⟨o,ho,r⟩:=hl2;⟨o,k3 D.l2z D.l2i1 D.l2TO ho,r⟩) hy
 unfold pyNext
 exact wpAny_bind (wpAny_attempt (wpAny_callSpecial?_slot (name:=Str.ofString "__next__") hT F.slot_zip_next
  (call_meets F.slot_zip_next hT F.entry_zip_next (F.args_zip_next_1 _) (Vj z TI TO i1 i2 a b x y (up1 k) (up1 k) D.TOz D.TOi1 D.TOi2 D.i1z D.i2z) ⟨hz,hTI,hTO,g1,g2,wpAny_pure hQ⟩)))
theorem xx {Q:Option Value->Shared->Prop} (hh:A.handled=none) (D:ZipApart z TI TO i1 i2 l1 l2) (hz:s.heap.get? z=some (i9 TI TO .none)) (hTI:s.heap.get? TI=some (c6 (.ref i1) (.ref i2))) (hTO:s.heap.get? TO=some (c6 a b))
  (h1:s.heap.get? i1=some (d8 l1 k)) (hl1:s.heap.IsList l1 xs) (hx:xs[k]?=none) (hQ:∀h',(∀c o,c≠z->c≠i1->s.heap.get? c=some o->h'.get? c=some o)->Q none { s with heap:=h' }):wpAny (model prog w) A (pyNext (.ref z)) Q E s:=by
 have hT:s.TypeIs (.ref z) "zip":=⟨_,hz,rfl⟩
 have k1:∀{c o},c≠z->s.heap.get? c=some o->(zH1 s.heap z).get? c=some o:=fun n e=>by unfold zH1;rw [e9 n];exact e
 have g1:W1 i1 A.in1 { s with heap:=zH1 s.heap z }:=xy hh (k1 D.i1z h1) (let ⟨o,ho,r⟩:=hl1;⟨o,k1 D.l1z ho,r⟩) hx
 unfold pyNext
 refine wpAny_bind (wpAny_attempt (wpAny_callSpecial?_slot (name:=Str.ofString "__next__") hT F.slot_zip_next
  (call_meets F.slot_zip_next hT F.entry_zip_next (F.args_zip_next_1 _) (Uc z TI TO i1 i2 a b D.i1z) ⟨hz,hTI,hTO,g1,fun h' e kp he=>?_⟩)))
 obtain ⟨o,ho,hc⟩:=he
 exact wpAny_bind (wpAny_isInstance (T:="StopIteration") (b:=true) ⟨o,ho,hc⟩ isSubtype_stop (wpAny_pure (hQ h' kp)))
end
theorem zl {P:Program} {w:World} {K:Frag} {elts:List Expr} {k:Nat} {pos:Pos} {z TI TO i1 i2 l1 l2:Addr} {xs ys:List V} (D:ZipApart z TI TO i1 i2 l1 l2) (hlen:xs.length=ys.length) :
  Turn P w K (.Tuple elts k pos) (ItP (fun H=>Rd H l1 (.lst xs)/\Rd H l2 (.tup ys)) (xs.zip ys)) [z,TI,TO,i1,i2] z
   (fun i h=>h.get? z=some (i9 TI TO .none)/\h.get? TI=some (c6 (.ref i1) (.ref i2))/\(∃a b,h.get? TO=some (c6 a b))/\h.get? i1=some (d8 l1 i)/\h.get? i2=some (d9 l2 i)) where
 mem:=by simp
 obj:=fun i h ⟨hz,hTI,⟨a,b,hTO⟩,h1,h2⟩ c hc=>by
  have hc':c=z\/c=TI\/c=TO\/c=i1\/c=i2:=by simpa using hc
  rcases hc' with rfl | rfl | rfl | rfl | rfl
  . exact ⟨_,hz,fun v e=>by cases e⟩
  . exact ⟨_,hTI,fun v e=>by cases e⟩
  . exact ⟨_,hTO,fun v e=>by cases e⟩
  . exact ⟨_,h1,fun v e=>by cases e⟩
  . exact ⟨_,h2,fun v e=>by cases e⟩
 keep:=fun i h h' ⟨hz,hTI,⟨a,b,hTO⟩,h1,h2⟩ kp=>⟨kp z (by simp) _ hz,kp TI (by simp) _ hTI,⟨a,b,kp TO (by simp) _ hTO⟩,kp i1 (by simp) _ h1,kp i2 (by simp) _ h2⟩
 item:=by
  intro X hP hw hK hc i pins s U H E I hf st hg;subst hP hw hK;obtain ⟨⟨hS1,hS2⟩,hlt⟩:=hg;obtain ⟨hz,hTI,⟨a0,b0,hTO⟩,h1,h2⟩:=st;obtain ⟨its1,r1,p1,z1⟩:=I.list (.inl hS1);obtain ⟨its2,r2,p2,z2⟩:=I.tuple (.inl hS2);have le1:=r1.length;have le2:=r2.length;rw [List.length_zip] at hlt;obtain ⟨a,ea⟩:∃a,xs[i]?=some a:=⟨xs[i]'(by omega),by simp⟩;obtain ⟨b,eb⟩:∃b,ys[i]?=some b:=⟨ys[i]'(by omega),by simp⟩;obtain ⟨x,q1,ru1⟩:=r1.get ea;obtain ⟨y,q2,ru2⟩:=r2.get eb;obtain ⟨f1,f2,f3,f4,f5,f6⟩:=vL (x:=x) (y:=y) D hz hTO h1 h2;refine yx D hz hTI hTO h1 h2 p1.isList p2 (by simpa using q1) (by simpa using q2) ⟨.ref s.heap.objs.size,rfl,?_⟩;generalize zHF s.heap z TO i1 i2 x y (up1 i) (up1 i)=HF at f1 f2 f3 f4 f5 f6;refine wpAny_letOwnedTupleGo_zip (TI:=TI) (TO:=TO) f1 fun h' hz' hs'=>?_
  have nT:∀{c o},s.heap.get? c=some o->s.heap.objs.size≠c:=fun e=>Nat.ne_of_gt (Heap.lt_size e)
  have up:∀{c o},c≠z->HF.get? c=some o->h'.get? c=some o:=fun n e=>hs'.extBut _ _ n e
  have ht:IsTp h' s.heap.objs.size ([x,y]:List Value).toArray:=.mk' (up (nT hz) f3);have sub:∀c∈[z,TO,i1,i2],o4 X pins H c:=fun c hc'=>hf c (by
   have:c=z\/c=TO\/c=i1\/c=i2:=by simpa using hc'
   rcases this with rfl | rfl | rfl | rfl<;>simp)
  have I2:=I.turnedT (tk:=s.toks) (h':=h') (xs:=[a,b]) (its:=[x,y]) sub (fun c o hcw e=>by
   have hc':c≠z/\c≠TO/\c≠i1/\c≠i2:=by simpa using hcw
   exact up hc'.1 (f6 c o hc'.1 hc'.2.1 hc'.2.2.1 hc'.2.2.2 e)) (Nat.le_refl _) ht (.cons ru1 (.cons ru2 .nil)) Ck
  have HT:H s.heap.objs.size=none:=I.hok.fresh (Nat.le_refl _);refine ⟨.ref s.heap.objs.size,upd H s.heap.objs.size (.tup [a,b]),I2,rfl,⟨s.heap.objs.size,a,b,rfl,HT,rfl,?_⟩,⟨hz',up D.TIz (f6 _ _ D.TIz D.TITO D.TIi1 D.TIi2 hTI),⟨x,y,up D.TOz f2⟩,up D.i1z f4,up D.i2z f5⟩,fun c hc'=>?_⟩
  . rw [List.getElem?_zip_eq_some];exact ⟨ea,eb⟩
  . rw [h8]
    . exact (hf c hc').1
    . intro e;have hc'':c=z\/c=TI\/c=TO\/c=i1\/c=i2:=by simpa using hc'
      rcases hc'' with q | q | q | q | q<;>rw [q] at e
      . exact nT hz e.symm
      . exact nT hTI e.symm
      . exact nT hTO e.symm
      . exact nT h1 e.symm
      . exact nT h2 e.symm
 done:=by
  intro X hP hw hK hc i pins s U H E I hf st hg;subst hP hw hK;obtain ⟨⟨hS1,hS2⟩,hle⟩:=hg;obtain ⟨hz,hTI,⟨a0,b0,hTO⟩,h1,h2⟩:=st;obtain ⟨its1,r1,p1,z1⟩:=I.list (.inl hS1);have le1:=r1.length;rw [List.length_zip] at hle;have sub:∀c∈[z,i1],o4 X pins H c:=fun c hc'=>hf c (by
   have:c=z\/c=i1:=by simpa using hc'
   rcases this with rfl | rfl<;>simp)
  refine xx (I.ok.hd hc) D hz hTI hTO h1 p1.isList (by simp;omega) fun h' kp=>⟨rfl,?_⟩
  exact I.turnedN (tk:=s.toks) sub fun c o hcw e=>by
   have hc':c≠z/\c≠i1:=by simpa using hcw
   exact kp c o hc'.1 hc'.2 e
 self:=fun A i s Q E st h=>wpAny_pyIter_zip (TI:=TI) (TO:=TO) (f0:=.none) st.1 h
noncomputable def Yt (n:Nat) (l1 l2:Addr):List Obj:=[d8 l1 0,d9 l2 0,c6 (.ref n) (.ref (n+1)),c6 .none .none,i9 (n+2) (n+3) .none]
section
open PySem.SeqAt
open PySem.AutoSeq1 (wpAny_loadPart')
theorem yw (l1 l2:Addr) (xs ys:Array Value) :
  Meets (Builtin.«zip.__new__» ⟨[.type "zip",.ref l1,.ref l2],[]⟩) (fun _ R s=>s.heap.IsList l1 xs/\s.heap.IsTuple l2 ys/\R (.ok (.ret (.ref (s.heap.objs.size+4)))) { s with heap:=zN s.heap (Yt s.heap.objs.size l1 l2) }):=
 .of_wp fun prog w A R s h=>by
  obtain ⟨hp,g,dr,tk,os⟩:=s;obtain ⟨q1,q2,h⟩:=h;have f0:=sub_zip;have a1:Heap.IsList (Shared.heap ⟨hp,g,dr,tk,os⟩) l1 xs:=q1;have a2:Heap.IsTuple (Shared.heap ⟨hp.push { cls:=.type "list_iterator",data:=.fields #[.ref l1,.int 0 0] },g,dr,tk,os⟩) l2 ys:=Heap.IsTuple.push q2 _
  wp_walk using wpAny_pyIter_list a1,wpAny_pyIter_tuple a2
  refine ⟨_,rfl,?_⟩;have s1:(hp.push (d8 l1 0)).objs.size=hp.objs.size+1:=Heap.size_push ..;have s2:((hp.push (d8 l1 0)).push (d9 l2 0)).objs.size=hp.objs.size+2:=by rw [Heap.size_push,s1]
  have s3:(((hp.push (d8 l1 0)).push (d9 l2 0)).push (c6 (.ref hp.objs.size) (.ref (hp.push (d8 l1 0)).objs.size))).objs.size=hp.objs.size+3:=by rw [Heap.size_push,s2]
  have s4:((((hp.push (d8 l1 0)).push (d9 l2 0)).push (c6 (.ref hp.objs.size) (.ref (hp.push (d8 l1 0)).objs.size))).push (c6 .none .none)).objs.size=hp.objs.size+4:=by rw [Heap.size_push,s3]
  show R (.ok (.ret (.ref ((((hp.push (d8 l1 0)).push (d9 l2 0)).push (c6 (.ref hp.objs.size) (.ref (hp.push (d8 l1 0)).objs.size))).push (c6 .none .none)).objs.size))) { heap:=((((hp.push (d8 l1 0)).push (d9 l2 0)).push (c6 (.ref hp.objs.size) (.ref (hp.push (d8 l1 0)).objs.size))).push (c6 .none .none)).push (i9 ((hp.push (d8 l1 0)).push (d9 l2 0)).objs.size (((hp.push (d8 l1 0)).push (d9 l2 0)).push (c6 (.ref hp.objs.size) (.ref (hp.push (d8 l1 0)).objs.size))).objs.size .none),gens:=g,drawn:=dr,toks:=tk,os:=os };rw [s4,s3,s2,s1];exact h
end
noncomputable def kK (ta:TA):TI:=fun U H R=>ta U H fun vs H1=>match vs with
 | [.ref l1,.ref l2]=>∃xs ys,Rd H1 l1 (.lst xs)/\Rd H1 l2 (.tup ys)/\xs.length=ys.length/\R (ItP (fun H=>Rd H l1 (.lst xs)/\Rd H l2 (.tup ys)) (xs.zip ys)) H1
 | _=>False
section
variable {X:Cx} {a b:Expr} {ta:TA} {p pos tpos:Pos} {elts:List Expr} {k:Nat}
theorem xw (hg:Gl X "zip") (hm:X.mg "zip"=none) (ha:PA X [a,b] ta) (hs:starEach [a,b] X.env=[(false,eval a X.env),(false,eval b X.env)]:=by rfl) (hs2:starEach [b] X.env=[(false,eval b X.env)]:=by rfl) :
  PI X (.Tuple elts k tpos) (.Call (.Name "zip" p) [a,b] [] pos) (kK ta):=by
 intro pins s U H R I h
 refine Call_ (J0 I hg hm boot_zip (PyProof.Rows.callWith_type1 (thn (ha pos pins s U H _ I h) fun us s1 ⟨vs,H1,I1,r1,q1⟩=>?_) (by rw [hs,hs2]) (by rw [hs2];rfl)))
 dsimp only at q1
 split at q1
 . rename_i l1 l2;obtain ⟨xs,ys,e1,e2,hlen,q⟩:=q1;obtain ⟨u,w',rfl,ru,rw'⟩:=Bt r1;cases ru;cases rw';obtain ⟨its1,rr1,p1,_⟩:=I1.list (.inl e1);obtain ⟨its2,rr2,p2,_⟩:=I1.tuple (.inl e2);have lt1:l1<s1.heap.objs.size:=by obtain ⟨o,ho,_⟩:=p1.isList;exact Heap.lt_size ho
   have lt2:l2<s1.heap.objs.size:=by obtain ⟨o,ho,_⟩:=p2;exact Heap.lt_size ho
   refine callType_new F.called_zip (by decide) (F.typeCall_zip_2 _ _) (F.newCall_zip_2 _ _) (fun obj=>F.args_object_init_3 obj _ _) F.entry_zip_new (yw l1 l2 its1.toArray its2.toArray) ⟨p1.isList,p2,?_⟩;have g4:=D2 [d8 l1 0,d9 l2 0,c6 (.ref s1.heap.objs.size) (.ref (s1.heap.objs.size+1)),c6 .none .none] (i9 (s1.heap.objs.size+2) (s1.heap.objs.size+3) .none) [] s1.heap rfl;have g3:=D2 [d8 l1 0,d9 l2 0,c6 (.ref s1.heap.objs.size) (.ref (s1.heap.objs.size+1))] (c6 .none .none) [i9 (s1.heap.objs.size+2) (s1.heap.objs.size+3) .none] s1.heap rfl;have g2:=D2 [d8 l1 0,d9 l2 0] (c6 (.ref s1.heap.objs.size) (.ref (s1.heap.objs.size+1))) [c6 .none .none,i9 (s1.heap.objs.size+2) (s1.heap.objs.size+3) .none] s1.heap rfl;have g1:=D2 [d8 l1 0] (d9 l2 0) [c6 (.ref s1.heap.objs.size) (.ref (s1.heap.objs.size+1)),c6 .none .none,i9 (s1.heap.objs.size+2) (s1.heap.objs.size+3) .none] s1.heap rfl;have g0:=D2 [] (d8 l1 0) [d9 l2 0,c6 (.ref s1.heap.objs.size) (.ref (s1.heap.objs.size+1)),c6 .none .none,i9 (s1.heap.objs.size+2) (s1.heap.objs.size+3) .none] s1.heap rfl;have kp:∀c o,s1.heap.get? c=some o->(zN s1.heap (Yt s1.heap.objs.size l1 l2)).get? c=some o:=fun c o e=>Cr _ e
   refine ⟨⟨_,g4,rfl⟩,?_⟩;refine wpAny_pyIter_zip (TI:=s1.heap.objs.size+2) (TO:=s1.heap.objs.size+3) (f0:=.none) g4 ⟨s1.heap.objs.size+4,[s1.heap.objs.size+4,s1.heap.objs.size+2,s1.heap.objs.size+3,s1.heap.objs.size,s1.heap.objs.size+1],_,_,H1,rfl,I1.kept (t':=s1.toks) kp,zl (Vr lt1 lt2) hlen,⟨g4,g2,⟨_,_,g3⟩,g0,g1⟩,fun c hc=>?_,q⟩;have hc':s1.heap.objs.size<=c:=by
    have:c=s1.heap.objs.size+4\/c=s1.heap.objs.size+2\/c=s1.heap.objs.size+3\/c=s1.heap.objs.size\/c=s1.heap.objs.size+1:=by simpa using hc
    rcases this with q | q | q | q | q<;>rw [q]<;>first | exact Nat.le_add_right _ _ | exact Nat.le_refl _
   exact I1.fpOk hc' (I1.hok.fresh hc')
 . exact q1.elim
end
noncomputable def R7 (fs:DE->R (List D)):DE->R (List D):=fun ρ=>(fs ρ).bind fun ds=>R.of (match ds with
 | [.lst es,.tup gs]=>if es.length=gs.length then some ((es.zip gs).map fun p=>D.tup [p.1,p.2]) else none
 | _=>none)
theorem kJ {X:Cx} {EX:XW} {elts:List Expr} {k:Nat} {a b:Expr} {p pos tpos:Pos} {fs:DE->R (List D)} (hg:Gl X "zip") (hm:X.mg "zip"=none) (ha:QA X EX [a,b] fs) (hs:starEach [a,b] X.env=[(false,eval a X.env),(false,eval b X.env)]:=by rfl) (hs2:starEach [b] X.env=[(false,eval b X.env)]:=by rfl) :
  QI X EX false (.Tuple elts k tpos) (.Call (.Name "zip" p) [a,b] [] pos) (R7 fs):=⟨(xw hg hm ha.h hs hs2).imp fun U H Q ⟨sx,ρ,H0,s,e,h⟩=>by
 unfold R7 at h
 rw [Rk.bind] at h
 refine TAd.go sx s e h fun ds h vs H1 H1' s1 e1 r1=>?_
 obtain ⟨es,hd,h⟩:=h.of
 split at hd<;>first | cases hd | skip
 split at hd<;>cases hd
 rename_i hl0
 obtain ⟨x,y,rfl,q1,q2⟩:=r1.duo
 obtain ⟨l,xs,rfl,hl,rl⟩:=q1.lst
 obtain ⟨l',ys,rfl,hl',rl'⟩:=q2.tup
 exact ⟨xs,ys,.inl (e1.2.1 _ _ hl),.inl (e1.2.1 _ _ hl'),by rw [<-rl.length,<-rl'.length];exact hl0,h _ H1 H1' s1 e1 (Ce (fun H s=>⟨.inl (s _ _ hl),.inl (s _ _ hl')⟩) rl rl')⟩⟩
end L2
namespace L2
open PySem PySem.Spec PyProof.Rows
def y17 (i j:Int):Prop:=0<j/\j.natAbs<2 ^ 9000
noncomputable instance (i j:Int):Decidable (y17 i j):=Classical.propDecidable _
noncomputable def B9 (d:Addr):Obj:={ cls:=.type "dict_items",data:=.fields #[.ref d] }
noncomputable def o6 (f0:Value) (d:Addr) (i n ep:Nat) (ok ov:Value):Obj:={ cls:=.type "dict_itemiterator",data:=.fields #[f0,.bool false,.ref d,.int i 0,.int n 0,.int ep 0,ok,ov] }
noncomputable def itH (hp:Heap) (it:Addr) (i:Nat) (k v:Value):Heap:=
 (((((hp.update it (Obj.mapFields (·.setIfInBounds (2+1) (rawInt ((i:Int)+1))))).push (c6 k v)).update it (Obj.mapFields (·.setIfInBounds 6 k))).update it (Obj.mapFields (·.setIfInBounds (6+1) v))).update it (Obj.mapFields (·.setIfInBounds 0 (rawInt hp.objs.size)))).update it (Obj.mapFields (·.setIfInBounds 1 (.bool false)))
theorem kH {hp:Heap} {it d:Addr} {i n ep:Nat} {ok ov k v:Value} (hl:hp.get? it=some (o6 .none d i n ep ok ov)) :
  (itH hp it i k v).get? it=some (o6 (rawInt hp.objs.size) d (i+1) n ep k v)/\(itH hp it i k v).get? hp.objs.size=some (c6 k v)/\∀c o,c≠it->hp.get? c=some o->(itH hp it i k v).get? c=some o:=by
 have e1:(hp.update it (Obj.mapFields (·.setIfInBounds (2+1) (rawInt ((i:Int)+1))))).get? it=some (o6 .none d (i+1) n ep ok ov):=by rw [Heap.get?_update_self _ hl rfl];simp [o6,Obj.mapFields,rawInt]
 have s1:(hp.update it (Obj.mapFields (·.setIfInBounds (2+1) (rawInt ((i:Int)+1))))).objs.size=hp.objs.size:=Heap.size_update ..
 have k1:∀c o,c≠it->hp.get? c=some o->(hp.update it (Obj.mapFields (·.setIfInBounds (2+1) (rawInt ((i:Int)+1))))).get? c=some o:=fun c o n e=>by rw [e9 n];exact e
 have ne:hp.objs.size≠it:=Nat.ne_of_gt (Heap.lt_size hl)
 unfold itH
 generalize hp.update it (Obj.mapFields (·.setIfInBounds (2+1) (rawInt ((i:Int)+1))))=H1 at *
 have e2:(H1.push (c6 k v)).get? it=some (o6 .none d (i+1) n ep ok ov):=Heap.get?_push_of_some _ e1
 have t2:(H1.push (c6 k v)).get? hp.objs.size=some (c6 k v):=by rw [<-s1];exact Heap.get?_push_size _ rfl
 have e3:((H1.push (c6 k v)).update it (Obj.mapFields (·.setIfInBounds 6 k))).get? it=some (o6 .none d (i+1) n ep k ov):=by rw [Heap.get?_update_self _ e2 rfl];rfl
 have e4:(((H1.push (c6 k v)).update it (Obj.mapFields (·.setIfInBounds 6 k))).update it (Obj.mapFields (·.setIfInBounds (6+1) v))).get? it=some (o6 .none d (i+1) n ep k v):=by rw [Heap.get?_update_self _ e3 rfl];rfl
 have e5:((((H1.push (c6 k v)).update it (Obj.mapFields (·.setIfInBounds 6 k))).update it (Obj.mapFields (·.setIfInBounds (6+1) v))).update it (Obj.mapFields (·.setIfInBounds 0 (rawInt hp.objs.size)))).get? it=some (o6 (rawInt hp.objs.size) d (i+1) n ep k v):=by rw [Heap.get?_update_self _ e4 rfl];rfl
 refine ⟨by rw [Heap.get?_update_self _ e5 rfl];rfl,by rw [e9 ne,e9 ne,e9 ne,e9 ne];exact t2,fun c o n e=>?_⟩
 rw [e9 n,e9 n,e9 n,e9 n]
 exact Heap.get?_push_of_some _ (k1 c o n e)
section
open PySem.SeqAt
open PySem.AutoSeq1 (wpAny_loadPart')
theorem vK (d:Addr) (es:Array DictEntry) (ep:Nat) (hd:(d==sysModules)=false) :
  Meets (Builtin.«dict.items» ⟨[.ref d],[]⟩) (fun _ R s=>s.heap.get? d=some (p7 es ep)/\R (.ok (.ret (.ref s.heap.objs.size))) { s with heap:=s.heap.push (B9 d) }):=
 .of_wp fun prog w A R s h=>by
  obtain ⟨hp,g,dr,tk,os⟩:=s;obtain ⟨hl,h⟩:=h;unfold p7 at hl
  wp_walk using wpAny_loadPart' hl
  exact ⟨_,rfl,h⟩
theorem xv (v d:Addr) (es:Array DictEntry) (ep:Nat) :
  Meets (Builtin.«dict_items.__iter__» ⟨[.ref v],[]⟩) (fun _ R s=>s.heap.get? v=some (B9 d)/\s.heap.get? d=some (p7 es ep)/\R (.ok (.ret (.ref s.heap.objs.size))) { s with heap:=s.heap.push (o6 .none d 0 es.size ep .none .none) }):=
 .of_wp fun prog w A R s h=>by
  obtain ⟨hp,g,dr,tk,os⟩:=s;obtain ⟨hl,hd,h⟩:=h;unfold p7 at hd;unfold B9 at hl
  wp_walk using wpAny_loadPart' hl,wpAny_loadPart' hd
  exact ⟨_,rfl,h⟩
theorem xu (it d:Addr) (es:Array DictEntry) (ep i:Nat) (ok ov:Value) (hi:i<es.size) :
  Meets (Builtin.«dict_itemiterator.__next__» ⟨[.ref it],[]⟩) (fun _ R s=>s.heap.get? it=some (o6 .none d i es.size ep ok ov)/\s.heap.get? d=some (p7 es ep) /\
   R (.ok (.ret (.ref s.heap.objs.size))) { s with heap:=itH s.heap it i es[i].key es[i].val }):=
 .of_wp fun prog w A R s h=>by
  obtain ⟨hp,g,dr,tk,os⟩:=s;obtain ⟨hl,hd,h⟩:=h;unfold p7 at hd;unfold o6 at hl;have hsz:(((es.size:Int) != (es.size:Int))=true)=False:=by simp
  have hep:(((ep:Int) != (ep:Int))=true)=False:=by simp
  have hat:(if (i:Int)<0 then none else es[((i:Nat):Int).toNat]?)=some es[i]:=by rw [if_neg (by omega)];simp [hi]
  wp_walk using wpAny_loadPart' hl,wpAny_loadPart' hd
  rw [hat]
  wp_walk using wpAny_loadPart' hl,wpAny_loadPart' hd
  have hown:Builtin.Dict_items.ownsTuple ((Manifest.find? "dict_itemiterator").elim "dict_itemiterator" fun x=>x.tpName)=true:=by decide +kernel
  refine ⟨_,rfl,?_⟩;rw [if_pos hown,if_neg (by decide +kernel),Heap.size_update];exact h
theorem vJ (it d:Addr) (es:Array DictEntry) (ep i:Nat) (ok ov:Value) (hi:es.size<=i) :
  Meets (Builtin.«dict_itemiterator.__next__» ⟨[.ref it],[]⟩) (fun A R s=>s.heap.get? it=some (o6 .none d i es.size ep ok ov)/\s.heap.get? d=some (p7 es ep)/\A.in1.handled=none /\
   ∀h' e,(∀c o,c≠it->s.heap.get? c=some o->h'.get? c=some o)->(∃o,h'.get? e=some o/\o.cls=.type "StopIteration")->R (.error (.ref e)) { s with heap:=h' }):=
 .of_wp fun prog w A R s h=>by
  obtain ⟨hp,g,dr,tk,os⟩:=s;obtain ⟨hl,hd,hh,h⟩:=h;unfold p7 at hd;unfold o6 at hl;have hsz:(((es.size:Int) != (es.size:Int))=true)=False:=by simp
  have hep:(((ep:Int) != (ep:Int))=true)=False:=by simp
  have hat:(if (i:Int)<0 then none else es[((i:Nat):Int).toNat]?)=none:=by rw [if_neg (by omega)];simp [hi]
  wp_walk using wpAny_loadPart' hl,wpAny_loadPart' hd
  rw [hat]
  wp_walk using wpAny_loadPart' hl,wpAny_loadPart' hd
  unfold raiseNew;refine wpAny_bind (wpAny_handled ?_);rw [hh];refine wpAny_bind (wpAny_pure (wpAny_throw (h _ _ (fun c o hc e=>?_) ⟨_,Heap.get?_push_size _ rfl,rfl⟩)));refine Heap.get?_push_of_some _ (Heap.get?_push_of_some _ ?_);rw [Heap.get?_update_ne _ _ _ _ hc];exact e
end
end L2
namespace L2
open PySem PySem.Spec PyProof.Rows
section
variable {prog:Program} {w:World} {A:Around} {E:Value->Shared->Prop} {s:Shared} {d it v:Addr} {es:Array DictEntry} {ep i:Nat} {ok ov:Value}
theorem zX:entryFor table "dict_itemiterator.__iter__"=some Builtin.«dict_keyiterator.__iter__»:=entryFor_alias (id':="dict_keyiterator.__iter__") (by kernel_rfl) rfl (by decide +kernel) (by kernel_rfl)
theorem zj {Q:Value->Shared->Prop} (hit:s.heap.get? it=some (o6 .none d i es.size ep ok ov)) (h:Q (.ref it) s):wpAny (model prog w) A (pyIter (.ref it)) Q E s:=by refine wpAny_pyIter_slot ⟨_,hit,rfl⟩ F.slot_dict_itemiterator_iter (wpAny_call_entry F.slot_dict_itemiterator_iter ⟨_,hit,rfl⟩ zX ?_ (F.args_dict_itemiterator_iter_1 _));show wpAny _ _ (ret (.ref it)) _ _ s;exact wpAny_pure ⟨_,rfl,"dict_itemiterator",_,⟨_,hit,rfl⟩,F.slot_dict_itemiterator_next.lookup,h⟩
theorem zi {Q:Value->Shared->Prop} (hv:s.heap.get? v=some (B9 d)) (hm:s.heap.get? d=some (p7 es ep)) (hQ:Q (.ref s.heap.objs.size) { s with heap:=s.heap.push (o6 .none d 0 es.size ep .none .none) }) :
  wpAny (model prog w) A (pyIter (.ref v)) Q E s:=
 wpAny_pyIter_slot ⟨_,hv,rfl⟩ F.slot_dict_items_iter (call_meets F.slot_dict_items_iter ⟨_,hv,rfl⟩ F.entry_dict_items_iter (F.args_dict_items_iter_1 _) (xv v d es ep)
  ⟨hv,hm,⟨"dict_itemiterator",_,⟨_,Heap.get?_push_size _ rfl,rfl⟩,F.slot_dict_itemiterator_next.lookup,hQ⟩⟩)
theorem zh {Q:Option Value->Shared->Prop} (hit:s.heap.get? it=some (o6 .none d i es.size ep ok ov)) (hm:s.heap.get? d=some (p7 es ep)) (hi:i<es.size)
  (hQ:Q (some (.ref s.heap.objs.size)) { s with heap:=itH s.heap it i es[i].key es[i].val }):wpAny (model prog w) A (pyNext (.ref it)) Q E s:=by
 unfold pyNext
 exact wpAny_bind (wpAny_attempt (wpAny_callSpecial?_slot (name:=Str.ofString "__next__") ⟨_,hit,rfl⟩ F.slot_dict_itemiterator_next
  (call_meets F.slot_dict_itemiterator_next ⟨_,hit,rfl⟩ F.entry_dict_itemiterator_next (F.args_dict_itemiterator_next_1 _) (xu it d es ep i ok ov hi) ⟨hit,hm,wpAny_pure hQ⟩)))
theorem yv {Q:Option Value->Shared->Prop} (hh:A.handled=none) (hit:s.heap.get? it=some (o6 .none d i es.size ep ok ov)) (hm:s.heap.get? d=some (p7 es ep)) (hi:es.size<=i)
  (hQ:∀h',(∀c o,c≠it->s.heap.get? c=some o->h'.get? c=some o)->Q none { s with heap:=h' }):wpAny (model prog w) A (pyNext (.ref it)) Q E s:=by
 unfold pyNext
 refine wpAny_bind (wpAny_attempt (wpAny_callSpecial?_slot (name:=Str.ofString "__next__") ⟨_,hit,rfl⟩ F.slot_dict_itemiterator_next
  (call_meets F.slot_dict_itemiterator_next ⟨_,hit,rfl⟩ F.entry_dict_itemiterator_next (F.args_dict_itemiterator_next_1 _) (vJ it d es ep i ok ov hi) ⟨hit,hm,hh,fun h' e kp he=>?_⟩)))
 obtain ⟨o,ho,hc⟩:=he
 exact wpAny_bind (wpAny_isInstance (T:="StopIteration") (b:=true) ⟨o,ho,hc⟩ isSubtype_stop (wpAny_pure (hQ h' kp)))
end
theorem Ca {X:Cx} {pins:List (Addr×Obj)} {U:St} {H:Hp} {s:Shared} (I:Inv X pins U H s) {a:Addr} {qs:List (NK×Addr)} {xs:List V} {ob:Obj} (e:H a=some (.ext (dnP a qs xs ob))) (n:DN H a qs) :
  ∃vs es ep,ob=p7 es ep/\s.heap.get? a=some (p7 es ep)/\Vals xs vs/\qs.length=vs.length/\es.toList=(z3 qs vs).map dnE:=by
 obtain ⟨g0,vs,p1,p2,o,es,ep,d1,d2,d3,d4,_⟩:=Hl I e n
 rw [g0] at d1;cases d1
 have eo:ob=p7 es ep:=by obtain ⟨cl,di,da,sl⟩:=ob;obtain ⟨q1,q2,q3⟩:=d2;simp only at q1 q2 q3 d3;subst q1 q2 q3 d3;rfl
 exact ⟨vs,es,ep,eo,by rw [g0,eo],p1,p2,d4⟩
theorem Ub {es es':Array DictEntry} {ep ep':Nat} (h:p7 es ep=p7 es' ep'):es=es'/\ep=ep':=by unfold p7 at h;injection h with _ _ h;injection h with h1 h2;exact ⟨h1,h2⟩
theorem zg {P:Program} {w:World} {K:Frag} {elts:List Expr} {k:Nat} {pos:Pos} {it d:Addr} {qs:List (NK×Addr)} {ys:List V} {es:Array DictEntry} {ep:Nat} (hl:qs.length=ys.length) (hes:es.size=qs.length) :
  Turn P w K (.Tuple elts k pos) (ItP (fun H=>H d=some (.ext (dnP d qs ys (p7 es ep)))/\DN H d qs) ((qs.map fun q=>V.ref q.2).zip ys)) [it] it
   (fun i h=>∃ok ov,h.get? it=some (o6 .none d i es.size ep ok ov)) where
 mem:=by simp
 obj:=fun i h ⟨ok,ov,hz⟩ c hc=>by
  have hc':c=it:=by simpa using hc
  subst hc';exact ⟨_,hz,fun v e=>by cases e⟩
 keep:=fun i h h' ⟨ok,ov,hz⟩ kp=>⟨ok,ov,kp it (by simp) _ hz⟩
 item:=by
  intro X hP hw hK hc i pins s U H E I hf st hg;subst hP hw hK;obtain ⟨⟨hS,n⟩,hlt⟩:=hg;obtain ⟨ok,ov,hz⟩:=st;obtain ⟨vs,es',ep',eo,ed,p1,p2,d4⟩:=Ca I hS n;obtain ⟨rfl,rfl⟩:=Ub eo;rw [List.length_zip,List.length_map] at hlt;have hi:i<es.size:=by omega
  have hiq:i<qs.length:=by omega
  obtain ⟨y,ey⟩:∃y,ys[i]?=some y:=⟨ys[i]'(by omega),by simp⟩;obtain ⟨u,hu,ru⟩:=p1.get ey;have hz3:(z3 qs vs)[i]?=some (qs[i].1,qs[i].2,u):=by unfold z3;have hzz:(qs.zip vs)[i]?=some (qs[i],u):=List.getElem?_zip_eq_some.mpr ⟨List.getElem?_eq_getElem hiq,hu⟩;rw [List.getElem?_map,hzz];rfl
  have he:es[i]=dnE (qs[i].1,qs[i].2,u):=by
   have h1:es.toList[i]?=some (dnE (qs[i].1,qs[i].2,u)):=by rw [d4,List.getElem?_map,hz3];rfl
   rw [Array.getElem?_toList,Array.getElem?_eq_getElem hi] at h1;exact Option.some.inj h1
  obtain ⟨f1,f2,f3⟩:=kH (k:=es[i].key) (v:=es[i].val) hz;refine zh hz ed hi ⟨.ref s.heap.objs.size,rfl,?_⟩;generalize itH s.heap it i es[i].key es[i].val=HF at f1 f2 f3;rw [he] at f1 f2;refine wpAny_letOwnedTupleGo_items f1 fun h' hz' hs'=>?_
  have nT:s.heap.objs.size≠it:=Nat.ne_of_gt (Heap.lt_size hz);have up:∀{c o},c≠it->HF.get? c=some o->h'.get? c=some o:=fun n e=>hs'.extBut _ _ n e
  have ht:IsTp h' s.heap.objs.size ([Value.ref qs[i].2,u]:List Value).toArray:=.mk' (up nT f2);have sub:∀c∈[it],o4 X pins H c:=hf;have I2:=I.turnedT (tk:=s.toks) (h':=h') (xs:=[V.ref qs[i].2,y]) (its:=[Value.ref qs[i].2,u]) sub (fun c o hcw e=>by
   have hc':c≠it:=by simpa using hcw
   exact up hc' (f3 c o hc' e)) (Nat.le_refl _) ht (.cons rfl (.cons ru .nil)) Ck
  have HT:H s.heap.objs.size=none:=I.hok.fresh (Nat.le_refl _);refine ⟨.ref s.heap.objs.size,upd H s.heap.objs.size (.tup [V.ref qs[i].2,y]),I2,rfl,⟨s.heap.objs.size,_,_,rfl,HT,rfl,?_⟩,⟨_,_,hz'⟩,fun c hc'=>?_⟩
  . rw [List.getElem?_zip_eq_some];exact ⟨by rw [List.getElem?_map,List.getElem?_eq_getElem hiq];rfl,ey⟩
  . rw [h8]
    . exact (hf c hc').1
    . intro e;have hc'':c=it:=by simpa using hc'
      rw [hc''] at e;exact nT e.symm
 done:=by
  intro X hP hw hK hc i pins s U H E I hf st hg;subst hP hw hK;obtain ⟨⟨hS,n⟩,hle⟩:=hg;obtain ⟨ok,ov,hz⟩:=st;obtain ⟨vs,es',ep',eo,ed,p1,p2,d4⟩:=Ca I hS n;obtain ⟨rfl,rfl⟩:=Ub eo;rw [List.length_zip,List.length_map] at hle;refine yv (I.ok.hd hc) hz ed (by omega) fun h' kp=>⟨rfl,?_⟩
  exact I.turnedN (tk:=s.toks) (wr:=[it]) hf fun c o hcw e=>kp c o (by simpa using hcw) e
 self:=fun A i s Q E ⟨ok,ov,st⟩ h=>zj st h
noncomputable def kG (td:TE):TI:=fun U H R=>td U H fun x H1=>∃(a:Addr) (qs:List (NK×Addr)) (ys:List V) (ob:Obj),x=.ref a/\H1 a=some (.ext (dnP a qs ys ob))/\DN H1 a qs/\qs.length=ys.length /\
 R (ItP (fun H=>H a=some (.ext (dnP a qs ys ob))/\DN H a qs) ((qs.map fun q=>V.ref q.2).zip ys)) H1
section
variable {X:Cx} {o:Expr} {td:TE} {apos cpos tpos:Pos} {elts:List Expr} {k:Nat}
theorem xr (ho:PE X o td) (hbase:attributeBase o "items" X.env (eval o X.env)=eval o X.env:=by rfl) (hline:(apos.endLine==cpos.line)=true:=by rfl) :
  PI X (.Tuple elts k tpos) (.Call (.Attribute o "items" apos) [] [] cpos) (kG td):=by
 intro pins s U H R I h
 refine wpAny_Call_method0_late hbase hline (thn (ho pins s U H _ I h) fun u s1 ⟨x,H1,I1,r1,a,qs,ys,ob,ex,e,n,hlq,q⟩=>?_)
 subst ex
 cases r1
 obtain ⟨vs,es,ep,rfl,ed,p1,p2,d4⟩:=Ca I1 e n
 have hsz:es.size=qs.length:=by rw [<-Array.length_toList,d4,List.length_map,Pn qs vs p2]
 refine ⟨"dict","dict.items",PySem.F.plainAttrs_dict,PySem.F.slot_dict_items,PySem.F.type_dict_items,⟨_,ed,rfl⟩,fun b eb=>?_,Calls.callWith_builtin rfl (PySem.evalArgs_none ?_)⟩
 . cases eb;exact ⟨_,ed,rfl⟩
 . refine call_meets F.slot_dict_items ⟨_,ed,rfl⟩ F.entry_dict_items (F.args_dict_items_1 _) (vK a es ep n.2.2.1) ⟨ed,?_⟩;have kp:∀c o,s1.heap.get? c=some o->(s1.heap.push (B9 a)).get? c=some o:=fun c o e=>Heap.get?_push_of_some _ e
   refine zi (s:={ s1 with heap:=s1.heap.push (B9 a) }) (Heap.get?_push_size _ rfl) (kp _ _ ed) ?_;have I2:Inv X pins U H1 { s1 with heap:=s1.heap.push (B9 a) }:=I1.kept (t':=s1.toks) kp;have kp2:∀c o,(s1.heap.push (B9 a)).get? c=some o->((s1.heap.push (B9 a)).push (o6 .none a 0 es.size ep .none .none)).get? c=some o:=fun c o e=>Heap.get?_push_of_some _ e
   have I3:=I2.kept (t':=s1.toks) kp2;refine ⟨(s1.heap.push (B9 a)).objs.size,[(s1.heap.push (B9 a)).objs.size],_,_,H1,rfl,I3,zg hlq hsz,⟨_,_,Heap.get?_push_size _ rfl⟩,fun c hc=>?_,q⟩;have hc':c=(s1.heap.push (B9 a)).objs.size:=by simpa using hc
   rw [hc'];exact I2.fpOk (Nat.le_refl _) (I2.hok.fresh (Nat.le_refl _))
end
noncomputable def w8 (f:DE->R D):DE->R (List D):=fun ρ=>(f ρ).bind fun d=>match d with
 | .dn ks ds=>if ks.length=ds.length then .ok ((ks.zip ds).map fun p=>D.tup [v7 p.1,p.2]) else .st
 | _=>.st
theorem Sb {K:Frag} {H0:Hp}:∀{qs:List (NK×Addr)},(∀q∈qs,NKr H0 q.1 (.ref q.2))->RDs K H0 (qs.map fun q=>v7 q.1) (qs.map fun q=>V.ref q.2)
 | [],_=>.nil
 | q::qs,h=>.cons (My (h q (by simp))) (Sb fun p hp=>h p (by simp [hp]))
theorem Sa {X:Cx} {EX:XW} {elts:List Expr} {k:Nat} {o:Expr} {apos cpos tpos:Pos} {f:DE->R D} (ho:QE X EX false o f) (hbase:attributeBase o "items" X.env (eval o X.env)=eval o X.env:=by rfl) (hline:(apos.endLine==cpos.line)=true:=by rfl) :
  QI X EX false (.Tuple elts k tpos) (.Call (.Attribute o "items" apos) [] [] cpos) (w8 f):=⟨(xr ho.h hbase hline).imp fun U H Q ⟨sx,ρ,H0,s,e,h⟩=>by
 unfold w8 at h
 rw [Rk.bind] at h
 refine TEd.go sx s e h fun d h v H1 H1' s1 e1 r1=>?_
 split at h
 . rename_i ks ds;split at h
   . rename_i hl;simp only [RD] at r1;obtain ⟨a,qs,ys,ob,rfl,h1,hk,n,ra⟩:=r1;have mono:∀b zs,H1' b=some (.tup zs)->H1 b=some (.tup zs):=fun b zs q=>e1.2.1 _ _ q
     have hq:qs.length=ys.length:=by rw [<-ra.length,<-hl,<-hk,List.length_map]
     refine ⟨a,qs,ys,ob,rfl,e1.2.1 _ _ h1,n.tk mono,hq,h _ H1 H1' s1 e1 ?_⟩;rw [show (ks.zip ds).map (fun p=>D.tup [v7 p.1,p.2])=((qs.map fun q=>v7 q.1).zip ds).map fun p=>D.tup [p.1,p.2] by rw [<-hk,List.zip_map_left,List.zip_map_left,List.map_map,List.map_map];rfl];exact Ce (fun H s=>⟨s _ _ h1,n.tk fun b zs q=>s _ _ q⟩) (Sb fun q hq=>(n.2.1 q hq).1) ra
   . exact h.elim
 . exact h.elim⟩
noncomputable def valN {α:Type} (ks:List NK) (xs:List α) (k:NK):Option α:=((ks.zip xs).find? fun p=>decide (p.1=k)).map (·.2)
theorem Ua {k:NK} {z:V} {u:Value} (rz:RelV z u):∀{qs:List (NK×Addr)} {xs:List V} {vs:List Value},Vals xs vs->qs.length=vs.length->RelV ((valN (qs.map (·.1)) xs k).getD z) (((atKey (z3 qs vs) k).map (·.2)).getD u)
 | [],xs,vs,r,hl=>by have:vs=[]:=List.eq_nil_of_length_eq_zero (by simpa using hl.symm);subst this;exact rz
 | q::qs,_,_,.nil,hl=>by simp at hl
 | q::qs,_,_,.cons (a:=x) (b:=v) (l₁:=xs) (l₂:=vs) r rr,hl=>by
  have ih:=Ua (k:=k) rz (qs:=qs) rr (by simpa using hl);by_cases h:q.1=k
  . have e1:valN ((q::qs).map (·.1)) (x::xs) k=some x:=by
     unfold valN
     rw [List.map_cons,List.zip_cons_cons,List.find?_cons_of_pos (by simpa using h)];rfl
    have e2:atKey (z3 (q::qs) (v::vs)) k=some (q.2,v):=by show ((z3 (q::qs) (v::vs)).find? fun x=>decide (x.1=k)).map (·.2)=_;unfold z3;rw [List.zip_cons_cons,List.map_cons,List.find?_cons_of_pos (by simpa using h)];rfl
    rw [e1,e2];exact r
  . have e1:valN ((q::qs).map (·.1)) (x::xs) k=valN (qs.map (·.1)) xs k:=by
     unfold valN
     rw [List.map_cons,List.zip_cons_cons,List.find?_cons_of_neg (by simpa using h)]
    have e2:atKey (z3 (q::qs) (v::vs)) k=atKey (z3 qs vs) k:=by show ((z3 (q::qs) (v::vs)).find? fun x=>decide (x.1=k)).map (·.2)=((z3 qs vs).find? fun x=>decide (x.1=k)).map (·.2);unfold z3;rw [List.zip_cons_cons,List.map_cons,List.find?_cons_of_neg (by simpa using h)]
    rw [e1,e2];exact ih
noncomputable def Mv (td ty tx:TE):TE:=fun U H Q=>td U H fun x H1=>∃(a:Addr) (qs:List (NK×Addr)) (xs:List V) (ob:Obj),x=.ref a/\H1 a=some (.ext (dnP a qs xs ob))/\DN H1 a qs/\ty U H1 fun y H2=>tx U H2 fun z H3=>
 ∃(k:NK) (b:Addr),y=.ref b/\H3 a=some (.ext (dnP a qs xs ob))/\DN H3 a qs/\NKr H3 k (.ref b)/\k.dep<=8/\Q ((valN (qs.map (·.1)) xs k).getD z) H3
section
variable {X:Cx} {o e f:Expr} {td ty tx:TE} {apos cpos:Pos}
theorem vI (hu:X.A.units+64<cLine) (ho:PE X o td) (he:PE X e ty) (hf:PE X f tx) (m:M2 X o "get" apos e f cpos):PE X (.Call (.Attribute o "get" apos) [e,f] [] cpos) (Mv td ty tx):=by
 intro pins s U H Q I h;refine wpAny_Call_method m.base m.few m.line PySem.F.plainAttrs_dict PySem.F.slot_dict_get PySem.F.type_dict_get (thn (ho pins s U H _ I h) fun u s1 ⟨x,H1,I1,rx,a,qs,xs,ob,ex,e1,n1,q1⟩=>?_);subst ex;obtain rfl:u=Value.ref a:=rx;obtain ⟨_,es,ep,_,ed,_⟩:=Ca I1 e1 n1;refine ⟨⟨_,ed,rfl⟩,fun b eb=>?_,?_⟩
 . cases eb;exact ⟨_,ed,rfl⟩
 rw [m.trees];refine Calls.callWith_builtin rfl (Calls.evalArgs_plain (Calls.spliced_cons (thn (he pins s1 U H1 _ I1 q1) fun iv s2 ⟨y,H2,I2,ry,q2⟩=>
  Calls.spliced_cons (thn (hf pins s2 U H2 _ I2 q2) fun fv s3 ⟨z,H3,I3,rz,k,b,ey,e3,n3,hk,hd,q3⟩=>Calls.spliced_nil ?_))))
 subst ey;cases ry;obtain ⟨_,vs,p1,p2,dd⟩:=Hl I3 e3 n3;exact call_meetsIn PySem.F.slot_dict_get dd.typeIs PySem.F.entry_dict_get (PySem.F.args_dict_get_3 _ _ _) (meetsH_dict_get_default (deepKind X.prog X.w) a b n3.2.2.1 fv)
  ⟨by show X.A.units+1+8<cLine;omega,k,z3 qs vs,⟨X0 I3 hk rfl,hd⟩,dd,_,H3,I3.tok _,Ua (qs:=qs) rz p1 p2,q3⟩
end
noncomputable def dGetN:D->D->D->Option D
 | .dn ks ds,.tup es,z=>match nkD (.tup es) with
  | some k=>if k.dep<=8 then some ((valN ks ds k).getD z) else none
  | none=>none
 | _,_,_=>none
noncomputable def eGetN (fd fk fz:DE->R D):DE->R D:=fun ρ=>(fd ρ).bind fun d=>match d with
 | .dn ks ds=>(fk ρ).bind fun k=>(fz ρ).bind fun z=>R.of (dGetN (.dn ks ds) k z)
 | _=>.st
theorem Rz {K:Frag} {H:Hp} {k:NK} {z:D} {zv:V} (rz:RD K H z zv):∀{ks:List NK} {ds:List D} {xs:List V},RDs K H ds xs->RD K H ((valN ks ds k).getD z) ((valN ks xs k).getD zv)
 | [],ds,xs,r=>by unfold valN;rw [List.zip_nil_left,List.zip_nil_left];exact rz
 | k'::ks,[],xs,r=>by simp only [RDs] at r;subst r;exact rz
 | k'::ks,d::ds,xs,r=>by
  simp only [RDs] at r;obtain ⟨x,r',rfl,r1,r2⟩:=r;by_cases h:k'=k
  . have e1:∀{α:Type} (a:α) (as:List α),valN (k'::ks) (a::as) k=some a:=fun a as=>by
     unfold valN
     rw [List.zip_cons_cons,List.find?_cons_of_pos (by simpa using h)];rfl
    rw [e1,e1];exact r1
  . have e1:∀{α:Type} (a:α) (as:List α),valN (k'::ks) (a::as) k=valN ks as k:=fun a as=>by
     unfold valN
     rw [List.zip_cons_cons,List.find?_cons_of_neg (by simpa using h)]
    rw [e1,e1];exact Rz rz r2
section
variable {X:Cx} {EX:XW} {U:St} {H:Hp} {Q:VK}
theorem kF {K:Frag} {fd fk fz:DE->R D} (h:TEd K EX false (eGetN fd fk fz) U H Q):Mv (TEd K EX false fd) (TEd K EX false fk) (TEd K EX false fz) U H Q:=by
 obtain ⟨sx,ρ,H0,s,e,h⟩:=h;unfold eGetN at h;rw [Rk.bind] at h;refine TEd.go sx s e h fun d h v H1 H1' s1 e1 r1=>?_
 cases d<;>first | (exact h.elim) | skip
 rename_i ks ds;simp only at h;have r1':=r1;simp only [RD] at r1;obtain ⟨a,qs,xs,ob,rfl,h1,hk,n,ra⟩:=r1;refine ⟨a,qs,xs,ob,rfl,e1.2.1 _ _ h1,n.tk fun b zs q=>e1.2.1 _ _ q,?_⟩;rw [Rk.bind] at h;refine TEd.go (sx.trans s1) e1.2.1 (e.mono e1.1) h fun d2 h v2 H2 H2' s2 e2 r2=>?_
 rw [Rk.bind] at h;refine TEd.go ((sx.trans s1).trans s2) e2.2.1 (e.mono (e1.1.trans e2.1)) h fun d3 h v3 H3 H3' s3 e3 r3=>?_
 obtain ⟨w,hw,h⟩:=h.of;cases d2<;>simp only [dGetN] at hw<;>first | (cases hw;done) | skip
 rename_i es;split at hw<;>first | (cases hw;done) | skip
 rename_i kk hkk;split at hw<;>first | (cases hw;done) | skip
 rename_i hd;cases hw;have nk:=Gb hkk r2;obtain ⟨b,ys,rfl,hb,rb⟩:=r2.tup;refine ⟨kk,b,rfl,e3.2.1 _ _ (e3.1 _ _ (e2.1 _ _ h1)),n.tk fun b zs q=>e3.2.1 _ _ (e3.1 _ _ (e2.1 _ _ q)),NKr.mono (fun b zs q=>e3.2.1 _ _ (e3.1 _ _ q)) nk,hd,h _ H3 ?_⟩;refine .val ((s1.trans s2).trans s3) ((e1.trans s1 e2).trans (s1.trans s2) e3) ?_;rw [hk];exact Rz r3 (ra.mono (e2.1.trans e3.1))
variable {o e f:Expr} {apos cpos:Pos} {fd fk fz:DE->R D}
theorem Pj (hu:X.A.units+64<cLine) (ho:QE X EX false o fd) (he:QE X EX false e fk) (hf:QE X EX false f fz) (m:M2 X o "get" apos e f cpos:=by exact ⟨rfl,rfl,rfl,rfl⟩):QE X EX false (.Call (.Attribute o "get" apos) [e,f] [] cpos) (eGetN fd fk fz):=
 ⟨(vI hu ho.h he.h hf.h m).imp fun _ _ _ q=>kF q⟩
end
def Keep (h h':Heap):Prop:=∀b o,h.get? b=some o->h'.get? b=some o
theorem Keep.tuple {h h':Heap} (x:Keep h h') {a:Addr} {its:Array Value} (t:h.IsTuple a its):h'.IsTuple a its:=let ⟨o,e,c⟩:=t;⟨o,x a o e,c⟩
theorem Keep.list {h h':Heap} (x:Keep h h') {a:Addr} {its:Array Value} (t:h.IsList a its):h'.IsList a its:=let ⟨o,e,c⟩:=t;⟨o,x a o e,c⟩
section
open HT
open PySem.SeqAt
open PySem.AutoSeq1 (wpAny_loadPart')
open PySem.MeetsSeq PySem.MeetsSeq2 PySem.MeetsSeq3
end
end L2
namespace L2
open PySem PySem.Spec PyProof.Rows
structure FnAt (K:Frag) (x:Str) (st:Stmt) (f:Addr):Prop where
 ns:PySem.W.nsIn K mainGlobals x=some (some (.ref f))
 fn:∃fd,Fun K x x st f fd
section
variable {P:Program} {w:World} {K:Frag} {mg:Str->Option Value} {base h:Heap} {x:Str} {st:Stmt} {f:Addr} {ps:List Str} {k:Nat} {sp:Sp}
theorem fat {oc:Value} {od an:Option Addr} {osl:Array (Option Value)} {kV doc pm cdv ct:Value} (a:PySem.W.nsIn K mainGlobals x=some (some (.ref f))) (l:K.lookup f=some ⟨oc,od,.func (PySem.W.fnOf x x (L7 st) (E5 st) (i8 st) .none kV doc pm an cdv ct),osl⟩)
 (c:codeIn K cdv x=true) (k:keepIn K (.ref f)=true):FnAt K x st f:=⟨a,_,qJ l c k⟩
theorem y18 {us:List Value} (h:us.length=1):∃a,us=[a]:=match us,h with | [a],_=>⟨a,rfl⟩
theorem y19 {us:List Value} (h:us.length=2):∃a b,us=[a,b]:=match us,h with | [a,b],_=>⟨a,b,rfl⟩
theorem y1a {us:List Value} (h:us.length=3):∃a b c,us=[a,b,c]:=match us,h with | [a,b,c],_=>⟨a,b,c,rfl⟩
theorem y1b {us:List Value} (h:us.length=4):∃a b c d,us=[a,b,c,d]:=match us,h with | [a,b,c,d],_=>⟨a,b,c,d,rfl⟩
theorem got (X:K.In h) (G:h.Ns mainGlobals mg) (A:FnAt K x st f) (ok:∀{fd},Fun K x x st f fd->FnOk P w K mg base (CX1 P w) k f fd ps sp)
  (hb:∀(kV doc pm:Value) (an:Option Addr) (cdv ct:Value) (us:List Value),us.length=ps.length->bindArgs (PySem.W.fnOf x x (L7 st) (E5 st) (i8 st) .none kV doc pm an cdv ct) ⟨us,[]⟩=pure (ps.zip us):=by intro _ _ _ _ _ _ us hl;first | (obtain ⟨_,rfl⟩:=y18 hl;rfl) | (obtain ⟨_,_,rfl⟩:=y19 hl;rfl) | (obtain ⟨_,_,_,rfl⟩:=y1a hl;rfl) | (obtain ⟨_,_,_,_,rfl⟩:=y1b hl;rfl)):j9 P w K mg base x ps k sp:=by
 obtain ⟨fd,F⟩:=A.fn
 exact ⟨f,fd,ok F,F.binds hb,PySem.W.mg_of X G A.ns,F.kp⟩
theorem kE {fa:Addr} {z:Str} (X:K.In h) (G:h.Ns mainGlobals mg) (hfa:mg x=some (.ref fa)) (A:FnAt K x st f) (hb:∀(s:Shared) (v kV doc pm:Value) (an:Option Addr) (cdv ct:Value),BindsTo s (PySem.W.fnOf x x (L7 st) (E5 st) (i8 st) .none kV doc pm an cdv ct) ⟨[v],[]⟩ [(z,v)])
  (ok:∀base:Heap,K.In base->base.Ns mainGlobals mg->∀{fd},Fun K x x st f fd->FnOk P w K mg base (CX1 P w) k f fd ps sp) :
  ∃fd:FuncData,(∀(s:Shared) (v:Value),BindsTo s fd ⟨[v],[]⟩ [(z,v)])/\∀base:Heap,K.In base->base.Ns mainGlobals mg->FnOk P w K mg base (CX1 P w) k fa fd ps sp:=by
 have e:=hfa.symm.trans (PySem.W.mg_of X G A.ns)
 cases e
 obtain ⟨fd,F⟩:=A.fn
 have F':=F
 obtain ⟨oc,od,kV,doc,pm,an,cdv,ct,osl,rfl,lk,hcd⟩:=F'.ex
 exact ⟨_,fun s v=>hb s v _ _ _ _ _ _,fun base kb nb=>ok base kb nb F⟩
theorem fsc {N ps:List Str} {sc:Scope} (a:sc.kind=.function:=by rfl) (b:sc.isCoroutine=false:=by rfl) (c:sc.isGenerator=false:=by rfl) (d:N.Nodup:=by decide +kernel) (e:N.take ps.length=ps:=by rfl)
 (f:∀x∈ps,sc.names.lookup x=some .local\/sc.names.lookup x=some .cell:=by decide +kernel) (g:∀y∈sc.names,y.2≠.free:=by decide +kernel):FnScope N ps sc:=⟨a,b,c,d,e,f,g⟩
end
section
variable {X:Cx} {EX:XW} {fr fr':Bool} {a b e:Expr} {f g:DE->R D} {pos p:Pos} {m:List Bool} {j:Nat}
theorem qI (hr:Room j X.A) (ha:QE X EX false a f) (hb:QE X EX false b g) (hs:Jb b:=by exact fun _ _=>rfl):QE X EX false (.Subscript a b pos) (eOp dIx f g):=y3o (y3n hr.units) y06 ha hb hs
theorem qL (hm:X.mg "len"=none) (ha:QE X EX false e f) (hg:Gl X "len":=by rfl) (he:starEach [e] X.env=(false,eval e X.env)::starEach [] X.env:=by rfl) (hpl:(backTo pos (starEach [] X.env)).any (·.1)=false:=by rfl) :
 QE X EX false (.Call (.Name "len" p) [e] [] pos) (eCB o8 (b6 f b8)):=C0 qo qm hg hm PySem.boot_len (b7 ha b9 he) (he:=he) (hpl:=hpl)
theorem sA (i:Nat) {x:Str} {pos':Pos} (hN:X.N.Nodup) (he:QE X EX fr' e f) (hi:X.N[i]?=some x:=by rfl) (hx:Loc X.env.scope x:=by first | exact .inl rfl | exact .inr rfl) (hs:swapsWith e (some (.Name x pos')) pos.line X.env=pure false:=by rfl) (hf:X.fn x=true\/X.env.scope.names.lookup x=some .local:=by first | exact .inl rfl | exact .inr rfl | assumption) :
 QS X EX fr (.Assign [.Name x pos'] e pos) (e8 fr' i m f):=y0c hN hi hx he hs hf
theorem tE (hr:Room j X.A) (ha:QE X EX false a f) (hb:QE X EX false b g) (hm:behindInMarks .Eq b=false):QT X EX (.Compare a [.Eq] [b] pos) (i6 asB (eOp dEq f g)):=D3 (Fd hr.units) Fc ha hb hm
theorem tN (hr:Room j X.A) (ha:QE X EX false a f) (hb:QE X EX false b g) (hm:behindInMarks .NotEq b=false):QT X EX (.Compare a [.NotEq] [b] pos) (i6 asB (eOp dNe f g)):=D3 (Zx hr.units) Zw ha hb hm
end
end L2
set_option maxHeartbeats 1000000
namespace L2
open PySem PySem.Spec PyProof.Rows
noncomputable def J9 (ds:List D) (d:D):Option D:=if pls ds=true/\d.pl=true/\j2 ds<=20 then some (.int ((ds.countP (fun e=>eqD e d):Nat):Int)) else none
def Bo (K:Frag) (tp:Bool):V->List V->Hp->VK->Prop:=fun x vs H Q=>∃(l:Addr) (xs:List V) (ds:List D) (y:V) (d:D),x=.ref l/\vs=[y]/\H l=some (if tp=true then .tup xs else .lst xs)/\RDs K H ds xs/\RD K H d y/\pls ds=true/\d.pl=true/\j2 ds<=20/\Q (.int ((ds.countP (fun e=>eqD e d):Nat):Int)) H
theorem Hk {K:Frag} {H:Hp} {d:D}:∀{ds:List D} {xs:List V} {its:List Value},pls ds=true->RDs K H ds xs->Vals xs its->its.countP (hitD K H d)=ds.countP (fun e=>eqD e d)
 | [],_,_,_,h,r=>by simp only [RDs] at h;subst h;cases r;rfl
 | e::ds,_,_,p,h,r=>by
  simp only [RDs] at h;obtain ⟨x,xs,rfl,h1,h2⟩:=h;cases r with
  | cons r1 r2=>
   have pe:e.pl=true/\pls ds=true:=by simpa [pls] using p
   rw [List.countP_cons,List.countP_cons,Hk pe.2 h2 r2,Dd pe.1 r1 h1]
theorem vH {X:Cx} (hu:X.A.units+64<cLine):MtM X "list.count" (Bo X.K false):=by
 intro pins s U H x vs v us Q I rx rv h;obtain ⟨l,xs,ds,y,d,rfl,rfl,hH,rds,rd,pl,pd,hd,q⟩:=h;cases rx;obtain ⟨u,rfl,ru⟩:=rv.one;obtain ⟨z,its,n,r,hl,e⟩:=I.lstM hH;refine call_meets F.slot_list_count ⟨_,e,rfl⟩ F.entry_list_count (F.args_list_count_2 _ _)
  (SeqAt.list_countAt l its.toArray n none #[] u (hitD X.K H d)) ⟨e,fun y hy=>L6 (A:=X.A) I (by omega) pd rd ru pl rds r hd y (by simpa using hy),?_⟩
 rw [show its.toArray.toList.countP (hitD X.K H d)=ds.countP (fun e=>eqD e d) from Hk pl rds r];exact ⟨.int _,H,I.tok _,⟨_,rfl⟩,q⟩
theorem vG {X:Cx} (hu:X.A.units+64<cLine):MtM X "tuple.count" (Bo X.K true):=by
 intro pins s U H x vs v us Q I rx rv h;obtain ⟨l,xs,ds,y,d,rfl,rfl,hH,rds,rd,pl,pd,hd,q⟩:=h;cases rx;obtain ⟨u,rfl,ru⟩:=rv.one;obtain ⟨_,its,r,o,e,hc,⟨n,hdat⟩,_⟩:=(show ObjOk X.prog X.w H s.heap l (.tup xs) from I.hok l _ hH);obtain ⟨cls,dct,dat,sl⟩:=o;dsimp only at hc hdat;subst hc hdat;refine call_meets F.slot_tuple_count ⟨_,e,rfl⟩ F.entry_tuple_count (F.args_tuple_count_2 _ _)
  (SeqAt.tuple_countAt l its.toArray n dct sl u (hitD X.K H d)) ⟨e,fun y hy=>L6 (A:=X.A) I (by omega) pd rd ru pl rds r hd y (by simpa using hy),?_⟩
 rw [show its.toArray.toList.countP (hitD X.K H d)=ds.countP (fun e=>eqD e d) from Hk pl rds r];exact ⟨.int _,H,I.tok _,⟨_,rfl⟩,q⟩
noncomputable def tTM (r:V->List V->Hp->VK->Prop) (to:TE) (t:TA):TE:=fun U H Q=>to U H fun x H1=>(∃a xs,x=.ref a/\H1 a=some (.tup xs))/\t U H1 fun xs H2=>r x xs H2 Q
theorem y1c {X:Cx} {o e:Expr} {es:List Expr} {to:TE} {t:TA} {name:Str} {apos cpos:Pos} {id:String} {r:V->List V->Hp->VK->Prop} (slot:Slot "tuple" name id) (hty:typeOf (.builtin id)=pure (.type "method_descriptor")) (hm:MtM X id r) (ho:PE X o to) (ha:PA X (e::es) t)
  (hbase:attributeBase o name X.env (eval o X.env)=eval o X.env:=by rfl)
  (hfew:((backTo cpos (starEach (e::es) X.env)).all (fun x=>!x.1)&&(backToKw cpos (keywordEach [] X.env)).all (fun x=>x.1.isSome)
   && decide ((e::es).length+([]:List Keyword).length+(if ([]:List Keyword).isEmpty then 0 else 1)<30))=true:=by rfl)
  (hline:(apos.endLine==cpos.line)=true:=by rfl) (hs:starEach (e::es) X.env=(false,eval e X.env)::starEach es X.env:=by rfl) (hplain:(backTo cpos (starEach es X.env)).any (·.1)=false:=by rfl) :
  PE X (.Call (.Attribute o name apos) (e::es) [] cpos) (tTM r to t):=by
 intro pins s U H Q I h
 refine wpAny_Call_method_late hbase hfew hline rfl (thn (ho pins s U H _ I h) fun v s1 ⟨x,H1,I1,r1,ty,q1⟩=>?_)
 obtain ⟨a,xs,rfl,hH⟩:=ty
 cases r1
 obtain ⟨_,its,_,ob,e1,hc,_,hd⟩:=(show ObjOk X.prog X.w H1 s1.heap a (.tup xs) from I1.hok a _ hH)
 refine ⟨"tuple",id,PySem.F.plainAttrs_tuple,slot,hty,⟨ob,e1,hc⟩,fun b z=>by cases z;exact ⟨ob,e1,hd⟩,?_⟩
 have hA:=ha cpos pins s1 U H1 _ I1 q1
 rw [hs] at hA ⊢
 refine Calls.callWith_builtin (by show (false||(backTo cpos (starEach es X.env)).any (·.1))=false;rw [hplain]<;>rfl) (Calls.evalArgs_plain ?_)
 exact thn hA fun us s2 ⟨vs,H2,I2,r2,q2⟩=>hm pins s2 U H2 (.ref a) vs (.ref a) us Q I2 rfl r2 q2
noncomputable def F8 (fa fb:DE->R D):DE->R D:=fun ρ=>(fa ρ).bind fun x=>match x with
 | .lst ds=>(fb ρ).bind fun y=>R.of (J9 ds y)
 | _=>.st
noncomputable def F7 (fa fb:DE->R D):DE->R D:=fun ρ=>(fa ρ).bind fun x=>match x with
 | .tup ds=>(fb ρ).bind fun y=>R.of (J9 ds y)
 | _=>.st
section
variable {X:Cx} {EX:XW} {U:St} {H:Hp} {Q:VK}
theorem kD {K:Frag} {fa fb:DE->R D} (h:TEd K EX false (F8 fa fb) U H Q):tBM K "list" (Bo K false) (TEd K EX false fa) (G5 (TEd K EX false fb) N1) U H Q:=by
 obtain ⟨sx,ρ,H0,s,e,h⟩:=h;unfold F8 at h;rw [Rk.bind] at h;refine TEd.go sx s e h fun d h v H1 H1' s1 e1 r1=>?_
 cases d<;>first | (exact h.elim) | skip
 rename_i ds;simp only at h;obtain ⟨a,xs,rfl,ha,rs⟩:=r1.lst;refine ⟨.inl ⟨rfl,xs,.of (e1.2.1 _ _ ha)⟩,?_⟩;rw [Rk.bind] at h;refine TEd.go (sx.trans s1) e1.2.1 (e.mono e1.1) h fun d2 h v2 H2 H2' s2 e2 r2=>?_
 obtain ⟨z,hz,h⟩:=h.of;simp only [J9] at hz;split at hz<;>first | (cases hz;done) | skip
 rename_i hc;cases hz;refine ⟨a,xs,ds,v2,d2,rfl,rfl,s2 _ _ (e1.2.1 _ _ ha),rs.mono (e2.1.trans e2.2.1),r2.mono e2.2.1,hc.1,hc.2.1,hc.2.2,h _ H2 ?_⟩;exact .val (s1.trans s2) (e1.trans s1 e2) (.mkInt _)
theorem kC {K:Frag} {fa fb:DE->R D} (h:TEd K EX false (F7 fa fb) U H Q):tTM (Bo K true) (TEd K EX false fa) (G5 (TEd K EX false fb) N1) U H Q:=by
 obtain ⟨sx,ρ,H0,s,e,h⟩:=h;unfold F7 at h;rw [Rk.bind] at h;refine TEd.go sx s e h fun d h v H1 H1' s1 e1 r1=>?_
 cases d<;>first | (exact h.elim) | skip
 rename_i ds;simp only at h;obtain ⟨a,xs,rfl,ha,rs⟩:=r1.tup;refine ⟨⟨a,xs,rfl,e1.2.1 _ _ ha⟩,?_⟩;rw [Rk.bind] at h;refine TEd.go (sx.trans s1) e1.2.1 (e.mono e1.1) h fun d2 h v2 H2 H2' s2 e2 r2=>?_
 obtain ⟨z,hz,h⟩:=h.of;simp only [J9] at hz;split at hz<;>first | (cases hz;done) | skip
 rename_i hc;cases hz;refine ⟨a,xs,ds,v2,d2,rfl,rfl,s2 _ _ (e1.2.1 _ _ ha),rs.mono (e2.1.trans e2.2.1),r2.mono e2.2.1,hc.1,hc.2.1,hc.2.2,h _ H2 ?_⟩;exact .val (s1.trans s2) (e1.trans s1 e2) (.mkInt _)
variable {o e:Expr} {apos cpos:Pos} {fa fb:DE->R D}
theorem kB (hu:X.A.units+64<cLine) (ho:QE X EX false o fa) (ha:QE X EX false e fb) (hbase:attributeBase o "count" X.env (eval o X.env)=eval o X.env:=by rfl)
  (hfew:((backTo cpos (starEach [e] X.env)).all (fun x=>!x.1)&&(backToKw cpos (keywordEach [] X.env)).all (fun x=>x.1.isSome)
   && decide ([e].length+([]:List Keyword).length+(if ([]:List Keyword).isEmpty then 0 else 1)<30))=true:=by rfl)
  (hline:(apos.endLine==cpos.line)=true:=by rfl) (hs:starEach [e] X.env=(false,eval e X.env)::starEach [] X.env:=by rfl) (hplain:(backTo cpos (starEach [] X.env)).any (·.1)=false:=by rfl) :
  QE X EX false (.Call (.Attribute o "count" apos) [e] [] cpos) (F8 fa fb):=
 ⟨(Fn PySem.F.plainAttrs_list PySem.F.slot_list_count PySem.F.type_list_count (vH hu) ho.h (L8 ha.h pa_nil hs) hbase hfew hline hs hplain).imp fun _ _ _ q=>kD q⟩
theorem kA (hu:X.A.units+64<cLine) (ho:QE X EX false o fa) (ha:QE X EX false e fb) (hbase:attributeBase o "count" X.env (eval o X.env)=eval o X.env:=by rfl)
  (hfew:((backTo cpos (starEach [e] X.env)).all (fun x=>!x.1)&&(backToKw cpos (keywordEach [] X.env)).all (fun x=>x.1.isSome)
   && decide ([e].length+([]:List Keyword).length+(if ([]:List Keyword).isEmpty then 0 else 1)<30))=true:=by rfl)
  (hline:(apos.endLine==cpos.line)=true:=by rfl) (hs:starEach [e] X.env=(false,eval e X.env)::starEach [] X.env:=by rfl) (hplain:(backTo cpos (starEach [] X.env)).any (·.1)=false:=by rfl) :
  QE X EX false (.Call (.Attribute o "count" apos) [e] [] cpos) (F7 fa fb):=
 ⟨(y1c PySem.F.slot_tuple_count PySem.F.type_tuple_count (vG hu) ho.h (L8 ha.h pa_nil hs) hbase hfew hline hs hplain).imp fun _ _ _ q=>kC q⟩
end
section
variable {rk:Keyed->Nat}
noncomputable def tk (rk:Keyed->Nat) (xs:Array Keyed) (i:Nat):Nat:=match xs[i]? with
 | some p=>rk p
 | none=>0
end
end L2
namespace L2
open PySem PySem.Spec PyProof.Rows
open PySem.W (KatKeys KatFin KatBack kat_tail katRev)
end L2
namespace L2
open PySem PySem.Spec PyProof.Rows
open PySem.W (KatKeys KatFin KatBack katRev)
section
variable {prog:Program} {w:World} {A:Around} {E:Value->Shared->Prop} {s:Shared}
def Pi (h:Heap) (l:Addr) (vs:List Value):Prop:=∃o,h.get? l=some o/\(o.cls=.type "list"\/o.cls=.type "tuple")/\∃n,o.data=.seq vs.toArray n
theorem kz {α:Type} {c:Prop} [Decidable c] {a b:Sem α} {Q:α->Shared->Prop} (e:c) (h:wpAny (model prog w) A a Q E s):wpAny (model prog w) A (if c then a else b) Q E s:=(if_pos e:ite c a b=a).symm ▸ h
theorem y1d {α:Type} {c:Prop} [Decidable c] {a b:Sem α} {Q:α->Shared->Prop} (e:¬c) (h:wpAny (model prog w) A b Q E s):wpAny (model prog w) A (if c then a else b) Q E s:=(if_neg e:ite c a b=b).symm ▸ h
theorem zf {l d:Addr} {o:Obj} {T:String} {vs:List Value} {n:Nat} {Q:PySem.Fin->Shared->Prop} (hT:o.cls=.type T) (h2:T="list"\/T="tuple") (hl:s.heap.get? l=some o) (hd:o.data=.seq vs.toArray n) (he:s.heap.get? d=some (seqObj "list" #[] 0)) (hz:vs.length<=sizeLine)
  (h:Q (.done (.ret (.ref d))) { s with heap:=s.heap.update d (Obj.mapSeq (·++vs.toArray)) }):wpAny (model prog w) A (Builtin.List.listExtendWith (.ref d) (.ref l) (.ref d)) Q E s:=
 wpAny_bind (wpAny_typeOf ⟨o,hl,hT⟩ (kz (by rcases h2 with rfl | rfl<;>simp) (wpAny_bind (listItems_at hl hd (wpAny_bind (listItems_at he rfl (y1d (by simp) (wpAny_bind (listUpdate_at he rfl (wpAny_pure h) (Nat.zero_le _) (by simp;omega))))))))))
theorem zK {l:Addr} {vs:List Value} {Q:List Value->Shared->Prop} (hl:Pi s.heap l vs) (hz:vs.length<=sizeLine)
  (h:Q vs { s with heap:=(s.heap.push (seqObj "list" #[] 0)).update s.heap.objs.size (Obj.mapSeq (·++vs.toArray)) }):wpAny (model prog w) A (collect (.ref l)) Q E s:=by
 obtain ⟨o,ho,hc,n,hd⟩:=hl
 obtain ⟨T,hT,h2⟩:∃T,o.cls=.type T/\(T="list"\/T="tuple"):=hc.elim (fun z=>⟨_,z,.inl rfl⟩) fun z=>⟨_,z,.inr rfl⟩
 have he:(s.heap.push (seqObj "list" #[] 0)).get? s.heap.objs.size=some (seqObj "list" #[] 0):=Heap.get?_push_size _ rfl
 have fin:∀v,v=Value.ref s.heap.objs.size->wpAny (model prog w) A (match v with
   | .ref a=>do match (<-load a).data with
    | .seq xs _=>pure xs.toList
    | _=>unsupported "internal:collect"
   | _=>unsupported "internal:collect") Q E { s with heap:=(s.heap.push (seqObj "list" #[] 0)).update s.heap.objs.size (Obj.mapSeq (·++vs.toArray)) }:=fun v e=>by
  subst e
  exact wpAny_bind (wpAny_load (get?_update_seq he (·++vs.toArray)) (wpAny_pure (by simpa using h)))
 have run:=fun (B:Around) (E':Value->Shared->Prop)=>zf (s:={ s with heap:=s.heap.push (seqObj "list" #[] 0) }) (prog:=prog) (w:=w) (A:=B) (E:=E') hT h2 (Heap.get?_push_of_some _ ho) hd he hz (Q:=fun r s'=>r=.done (.ret (.ref s.heap.objs.size))/\s'={ s with heap:=(s.heap.push (seqObj "list" #[] 0)).update s.heap.objs.size (Obj.mapSeq (·++vs.toArray)) }) ⟨rfl,rfl⟩
 wp_walk
 refine codeAny_builtin entry_proto_collect' (wpAny_bind (wpAny_newList (wpAny_pure ⟨Code.quiet_builtin _ (by decide +kernel),codeAny_builtin entry_list_iadd' (wpAny_mono (run _ _) (fun r s' hq=>?_) fun _ _ z=>z)⟩)))
 obtain ⟨rfl,rfl⟩:=hq
 exact fin _ rfl
end
end L2
namespace L2
open PySem PySem.Spec PyProof.Rows
section
variable {prog:Program} {w:World} {A:Around} {E:Value->Shared->Prop} {s:Shared}
theorem zW {l:Addr} {vs:List Value} {ns:List Int} {Q:Value->Shared->Prop} (hl:Pi s.heap l vs) (hI:IntsAre vs ns) (h64:vs.length<64)
  (h:∀(out:Array Value) (ns':List Int),IntsAre out.toList ns'->ns'.Perm ns->ns'.Pairwise (·<=·)->Q (.ref (s.heap.objs.size+1)) { s with heap:=sortedAll s.heap vs out }) :
  wpAny (model prog w) A (call (.builtin "sorted") [.ref l]) Q E s:=by
 refine Calls.call_function_entry kind_sorted plain_sorted entry_sorted (args_sorted1 _) ?_
 unfold Builtin.«sorted»
 refine wpAny_bind (m:=checkCount "sorted" 1 1 _) (wpAny_pure ?_)
 refine wpAny_bind (zK hl (by rw [sizeLine_eq];omega) ?_)
 refine wpAny_bind (wpAny_newList ?_ (by rw [sizeLine_eq];omega))
 have hsz:((s.heap.push (seqObj "list" #[] 0)).update s.heap.objs.size (Obj.mapSeq (·++vs.toArray))).objs.size=s.heap.objs.size+1:=by rw [Heap.size_update,size_push']
 have hoL:(((s.heap.push (seqObj "list" #[] 0)).update s.heap.objs.size (Obj.mapSeq (·++vs.toArray))).push (seqObj "list" vs.toArray 0)).get? (s.heap.objs.size+1)=some (seqObj "list" vs.toArray 0):=by rw [<-hsz];exact Heap.get?_push_size _ rfl
 show wpAny _ _ _ _ _ { s with heap:=((s.heap.push (seqObj "list" #[] 0)).update s.heap.objs.size (Obj.mapSeq (·++vs.toArray))).push (seqObj "list" vs.toArray 0) }
 rw [hsz]
 exact wpAny_bind (wpAny_holding (wpAny_call_entry slot_list_sort ⟨_,hoL,rfl⟩ entry_list_sort (list_sort_tree hoL hI h64 fun out ns' a1 a2 a3=>⟨_,rfl,wpAny_pure ⟨_,rfl,h out ns' a1 a2 a3⟩⟩) (args_list_sort _)))
end
def Ys (K:Frag):List V->Hp->VK->Prop:=fun vs H Q=>∃(p:Addr) (ns:List Int),vs=[.ref p]/\SqT K H p (ns.map V.int)/\ns.length<64/\∀(l:Addr) (ns':List Int),H l=none->l7 (ns.map D.int)=ns'.map D.int->Q (.ref l) (upd H l (.lst (ns'.map V.int)))
theorem y1e {X:Cx}:CallR X (.builtin "sorted") (Ys X.K):=by
 intro pins s U H xs us Q I r h;obtain ⟨p,ns,rfl,hq,h64,q⟩:=h;obtain ⟨u,rfl,ru⟩:=t9 r;cases ru;obtain ⟨its,rv,pl,hz⟩:=I.tuple hq;have hlen:=rv.length;rw [List.length_map] at hlen;obtain ⟨o,ho,hc,n,hd⟩:=pl;refine zW (vs:=its) (ns:=ns) ⟨o,ho,.inr hc,n,hd⟩ (Do rv) (by omega) fun out ns' a1 a2 a3=>?_
 obtain ⟨e,he⟩:=sortedAll_at s.heap its out;have hoi:ois (ns.map D.int)=true:=y6 ns D.int Au;have hsame:l7 (ns.map D.int)=ns'.map D.int:=by refine J3 (O9 (y9 _) hoi) ((y9 _).trans (a2.symm.map _)) (E6 hoi) ?_;refine List.pairwise_map.mpr (a3.imp fun {a b} hab=>?_);simp only [ltT,decide_eq_false_iff_not];omega
 have hl:(ns'.map V.int).length<=sizeLine:=by rw [List.length_map,a2.length_eq,sizeLine_eq];omega
 exact ⟨.ref (s.heap.objs.size+1),_,I.laid (t':=s.toks) (fun b o e=>sortedAll_old e) (Nat.le_succ _) (show ObjOk X.prog X.w _ _ _ (.lst (ns'.map V.int)) from ⟨hl,out.toList,e,Dm a1,by simpa [seqObj] using he⟩),rfl,q _ ns' (I.hok.fresh (Nat.le_succ _)) hsame⟩
noncomputable def U8:List D->Option D
 | [.tup ds]=>match p8 ds with
  | some ns=>if ns.length<64 then some (.lst (l7 ds)) else none
  | none=>none
 | _=>none
theorem Ry:∀{ds:List D} {ns:List Int},p8 ds=some ns->ds=ns.map D.int
 | [],ns,h=>by simp only [p8,Option.some.injEq] at h;subst h;rfl
 | d::ds,ns,h=>by
  cases d<;>first | (simp [p8] at h;done) | skip
  simp only [p8,Option.map_eq_some_iff] at h;obtain ⟨ms,e,rfl⟩:=h;rw [Ry e];rfl
theorem ky {K:Frag}:y0 K true U8 (Ys K):=by
 intro H0 H xs ds z Q s r ho k;unfold U8 at ho;split at ho<;>first | (cases ho;done) | skip
 rename_i es;split at ho<;>first | (cases ho;done) | skip
 rename_i ns hns;split at ho<;>first | (cases ho;done) | skip
 rename_i h64;cases ho;obtain ⟨x,rfl,q1⟩:=r.uno;obtain ⟨a,ys,rfl,ha,ra⟩:=q1.tup;have ey:ys=ns.map V.int:=U3 hns ra;subst ey;refine ⟨a,ns,rfl,.of (s _ _ ha),h64,fun l ns' hl e=>k _ _ (.new s hl fun H' hH=>?_)⟩;simp only [OB];refine ⟨_,hH,?_⟩;rw [Ry hns,e];exact .ofInts _
noncomputable def stp (N i:Nat):Nat:=(i * 5+1) % N
noncomputable def C5 (N:Nat):Nat->Nat->Nat
 | 0,i=>i
 | m+1,i=>C5 N m (stp N i)
theorem Dh (N:Nat):∀a b i,C5 N (a+b) i=C5 N b (C5 N a i)
 | 0,b,i=>by rw [Nat.zero_add];rfl
 | a+1,b,i=>by rw [show a+1+b=(a+b)+1 by omega];exact Dh N a b _
noncomputable def Mb (N:Nat):Nat->Nat->List Nat
 | 0,_=>[]
 | m+1,i=>i::Mb N m (stp N i)
theorem Rx {N j:Nat}:∀{m i},j∈Mb N m i->∃k,k<m/\C5 N k i=j
 | 0,i,h=>by cases h
 | m+1,i,h=>by
  rcases List.mem_cons.mp h with rfl | h
  . exact ⟨0,by omega,rfl⟩
  . obtain ⟨k,hk,e⟩:=Rx h;exact ⟨k+1,by omega,e⟩
def Full (N:Nat):Prop:=(∀j,j<N->∃k,k<N/\C5 N k 0=j)/\C5 N N 0=0
theorem Hj {N:Nat} (h:((List.range N).all fun j=>(Mb N N 0).contains j)=true) (h0:C5 N N 0=0):Full N:=
 ⟨fun j hj=>Rx (by have:=List.all_eq_true.mp h j (List.mem_range.mpr hj);simpa using this),h0⟩
theorem y1g:Full 8:=Hj (by decide +kernel) (by decide +kernel)
theorem Ph:Full 32:=Hj (by decide +kernel) (by decide +kernel)
theorem Rv:Full 128:=Hj (by decide +kernel) (by decide +kernel)
theorem Full.all {N:Nat} (F:Full N) {i j:Nat} (hi:i<N) (hj:j<N):∃k,k<N/\C5 N k i=j:=by
 obtain ⟨a,ha,ea⟩:=F.1 i hi;obtain ⟨b,hb,eb⟩:=F.1 j hj;by_cases h:a<=b
 . refine ⟨b - a,by omega,?_⟩;rw [<-ea,<-Dh,show a+(b - a)=b by omega,eb]
 . refine ⟨b+N - a,by omega,?_⟩;rw [<-ea,<-Dh,show a+(b+N - a)=N+b by omega,Dh,F.2,eb]
noncomputable def lps (mask:Nat):Nat->Nat×Nat->Nat×Nat
 | 0,p=>p
 | m+1,p=>lps mask m (SetTable.leap mask p.1 p.2)
theorem Ru (mask:Nat):∀a b p,lps mask (a+b) p=lps mask b (lps mask a p)
 | 0,b,p=>by rw [Nat.zero_add];rfl
 | a+1,b,p=>by rw [show a+1+b=(a+b)+1 by omega];exact Ru mask a b _
theorem Wl (mask:Nat):∀m i q,q<32 ^ m->∃i',lps mask m (i,q)=(i',0)/\(i<mask+1->i'<mask+1)
 | 0,i,q,h=>⟨i,by rw [Nat.pow_zero] at h;rw [show q=0 by omega];rfl,id⟩
 | m+1,i,q,h=>by rw [Nat.pow_succ] at h;obtain ⟨i',e,hi⟩:=Wl mask m ((i * 5+1+q / 32) % (mask+1)) (q / 32) (by omega);exact ⟨i',e,fun _=>hi (Nat.mod_lt _ (by omega))⟩
theorem Rt (mask:Nat):∀m i,lps mask m (i,0)=(C5 (mask+1) m i,0)
 | 0,i=>rfl
 | m+1,i=>by show lps mask m ((i * 5+1+0 / 32) % (mask+1),0 / 32)=_;rw [Nat.zero_div,Nat.add_zero];exact Rt mask m (stp (mask+1) i)
theorem Vi {mask:Nat} (F:Full (mask+1)) {i q j:Nat} (hi:i<mask+1) (hq:q<32 ^ 13) (hj:j<mask+1):∃m,m<mask+14/\(lps mask m (i,q)).1=j:=by obtain ⟨i',e,hi'⟩:=Wl mask 13 i q hq;obtain ⟨k,hk,ek⟩:=F.all (hi' hi) hj;exact ⟨13+k,by omega,by rw [Ru,e,Rt,ek]⟩
theorem Rs (h:Int):SetTable.bits h<32 ^ 13:=by
 unfold SetTable.bits;have h1:0<=h % (2 ^ 64:Int):=Int.emod_nonneg _ (by decide);have h2:h % (2 ^ 64:Int)<2 ^ 64:=Int.emod_lt_of_pos _ (by decide);have h3:(32:Nat) ^ 13=36893488147419103232:=by decide
 have h4:(2:Int) ^ 64=18446744073709551616:=by decide
 omega
theorem yu (mask i:Nat):SetTable.runEnd mask i - i<=9:=by unfold SetTable.runEnd;split<;>omega
section
variable {t:SetTable}
noncomputable def adv (t:SetTable):Nat->SetTable.Probe->SetTable.Probe
 | 0,p=>p
 | k+1,p=>adv t k (t.advance p)
theorem Rr (t:SetTable):∀a b p,adv t (a+b) p=adv t b (adv t a p)
 | 0,b,p=>by rw [Nat.zero_add];rfl
 | a+1,b,p=>by rw [show a+1+b=(a+b)+1 by omega];exact Rr t a b _
noncomputable def Q4 (t:SetTable) (p:Nat×Nat) (dm:Option Nat):SetTable.Probe:={ j:=p.1,more:=SetTable.runEnd t.mask p.1 - p.1,i:=p.1,perturb:=p.2,dummy:=dm }
theorem Rq:∀(r:Nat) (p:SetTable.Probe),p.more=r->adv t (r+1) p=Q4 t (SetTable.leap t.mask p.i p.perturb) p.dummy
 | 0,p,h=>by show t.advance p=_;unfold SetTable.advance Q4;rw [if_neg (by omega)]
 | r+1,p,h=>by
  have e:t.advance p={ p with j:=p.j+1,more:=r }:=by unfold SetTable.advance;rw [if_pos (by omega),h];rfl
  show adv t (r+1) (t.advance p)=_;rw [e,Rq r _ rfl]
theorem Rp (dm:Option Nat):∀(m:Nat) (p:Nat×Nat),∃k,k<=10 * m/\adv t k (Q4 t p dm)=Q4 t (lps t.mask m p) dm
 | 0,p=>⟨0,by omega,rfl⟩
 | m+1,p=>by obtain ⟨k,hk,e⟩:=Rp dm m (SetTable.leap t.mask p.1 p.2);have h9:=yu t.mask p.1;refine ⟨SetTable.runEnd t.mask p.1 - p.1+1+k,by omega,?_⟩;rw [Rr,Rq (SetTable.runEnd t.mask p.1 - p.1) (Q4 t p dm) rfl];exact e
theorem xq (h:Int):t.probeStart h=Q4 t (SetTable.bits h % (t.mask+1),SetTable.bits h) none:=rfl
theorem zJ (F:Full (t.mask+1)) (h:Int) {j:Nat} (hj:j<t.mask+1):∃d,d<10 * SetTable.turns t.mask/\(adv t d (t.probeStart h)).j=j:=by obtain ⟨m,hm,e⟩:=Vi F (i:=SetTable.bits h % (t.mask+1)) (Nat.mod_lt _ (by omega)) (Rs h) hj;obtain ⟨k,hk,e2⟩:=Rp (t:=t) none m (SetTable.bits h % (t.mask+1),SetTable.bits h);refine ⟨k,by unfold SetTable.turns;omega,?_⟩;rw [xq,e2];exact e
theorem vF (hd:t.dummies=#[]) (j:Nat):(t.slot j=.empty)\/∃i,t.slot j=.live i/\i<t.place.size:=by
 unfold SetTable.slot;by_cases h:(t.place[SetTable.below t.place j]?==some j)=true
 . refine .inr ⟨_,if_pos h,?_⟩;have:=beq_iff_eq.mp h;exact (Array.getElem?_eq_some_iff.mp this).1
 . refine .inl ?_;simp only [if_neg h];rw [hd];rfl
theorem Pg {ha:Nat->Int} {h:Int} {j0:Nat} (hd:t.dummies=#[]) (he:t.slot j0=.empty):∀(d fuel:Nat) (p:SetTable.Probe),(adv t d p).j=j0->d<fuel->p.dummy=none ->
  (∃j,SetTable.probe.go t ha h fuel p=some (.empty j none))\/∃j i nx e,SetTable.probe.go t ha h fuel p=some (.candidate j i nx)/\t.slot j=.live i/\i<t.place.size/\e<d/\(adv t e nx).j=j0/\nx.dummy=none
 | 0,fuel+1,p,hj,_,hm=>by have:p.j=j0:=hj;refine .inl ⟨p.j,?_⟩;unfold SetTable.probe.go;rw [this,he,hm]
 | d+1,fuel+1,p,hj,hf,hm=>by
  have adm:(t.advance p).dummy=none:=by
   unfold SetTable.advance;split
   . exact hm
   . exact hm
  unfold SetTable.probe.go;rcases vF hd p.j with e | ⟨i,e,hi⟩
  . rw [e,hm];exact .inl ⟨_,rfl⟩
  . rw [e];dsimp only;by_cases hh:(ha i==h)=true
    . rw [if_pos hh];exact .inr ⟨_,_,_,d,rfl,e,hi,by omega,hj,adm⟩
    . rw [if_neg hh];rcases Pg hd he d fuel (t.advance p) hj (by omega) adm with z | ⟨j,i,nx,e',z1,z2,z3,z4,z5,z6⟩
      . exact .inl z
      . exact .inr ⟨j,i,nx,e',z1,z2,z3,by omega,z5,z6⟩
theorem Ro:∀{xs ys:List Nat},xs.Nodup->(∀x∈xs,x∈ys)->xs.length<=ys.length
 | [],_,_,_=>Nat.zero_le _
 | x::xs,ys,hn,h=>by
  rw [List.nodup_cons] at hn;have hx:=h x (by simp);have:=Ro (xs:=xs) (ys:=ys.erase x) hn.2 fun z hz=>(List.mem_erase_of_ne (fun e=>hn.1 (by rw [<-e];exact hz))).mpr (h z (by simp [hz]))
  rw [List.length_erase_of_mem hx] at this;have h0:0<ys.length:=List.length_pos_of_mem hx;rw [List.length_cons];omega
theorem yt (hd:t.dummies=#[]) (h:t.place.size<=t.mask):∃j,j<t.mask+1/\t.slot j=.empty:=by
 have:∃j,j<t.mask+1/\j∉t.place.toList:=by
  apply Classical.byContradiction;intro z;have:=Ro (xs:=List.range (t.mask+1)) (ys:=t.place.toList) List.nodup_range fun x hx=>Classical.byContradiction fun y=>z ⟨x,List.mem_range.mp hx,y⟩
  rw [List.length_range,Array.length_toList] at this;omega
 obtain ⟨j,hj,hn⟩:=this;refine ⟨j,hj,?_⟩;unfold SetTable.slot;have hb:(t.place[SetTable.below t.place j]?==some j)=false:=by
  cases e:(t.place[SetTable.below t.place j]?==some j) with
  | false=>rfl
  | true=>
   have:=Array.mem_of_getElem? (beq_iff_eq.mp e)
   exact absurd (Array.mem_toList_iff.mpr this) hn
 simp only [hb];rw [hd];rfl
end
def Tok (t:SetTable) (n:Nat):Prop:=t.place.size=n/\t.dummies=#[]/\((t.mask=7/\n<5)\/(t.mask=31/\n<19)\/(t.mask=127/\n<77))
section
variable {t:SetTable} {n:Nat}
theorem Tok.full (h:Tok t n):Full (t.mask+1):=by
 rcases h.2.2 with ⟨e,_⟩ | ⟨e,_⟩ | ⟨e,_⟩<;>rw [e]
 . exact y1g
 . exact Ph
 . exact Rv
theorem Tok.le (h:Tok t n):t.place.size<=t.mask:=by obtain ⟨h1,_,h3⟩:=h;omega
theorem Tok.fits (h:Tok t n):t.fits n=true:=by have:=h.le;obtain ⟨h1,h2,h3⟩:=h;unfold SetTable.fits SetTable.fill;rw [h2,h1,Bool.and_eq_true,beq_iff_eq,decide_eq_true_eq];exact ⟨rfl,by show n+0<=_;omega⟩
theorem Tok.way (h:Tok t n):t.gaveWay=false:=by unfold SetTable.gaveWay;rcases h.2.2 with ⟨e,_⟩ | ⟨e,_⟩ | ⟨e,_⟩<;>rw [e]<;>rfl
end
theorem Vh {mask:Nat} {owner:Array (Option Nat)} {j0:Nat} (ho:owner.getD j0 (some 0)=none):∀(m fuel i q:Nat),(lps mask m (i,q)).1=j0->m<fuel ->
  ∃j,SetTable.layClean.free mask owner fuel i q=some j/\owner.getD j (some 0)=none
 | m,fuel+1,i,q,hm,hf=>by
  unfold SetTable.layClean.free;cases e:(List.range (SetTable.runEnd mask i+1 - i)).find? fun k=>(owner.getD (i+k) (some 0)).isNone with
  | some k=>
   have:=List.find?_some e
   exact ⟨i+k,rfl,by simpa using this⟩
  | none=>
   cases m with
   | zero=>
    have hi:i=j0:=hm
    have:=List.find?_eq_none.mp e 0 (List.mem_range.mpr (by unfold SetTable.runEnd;split<;>omega))
    rw [Nat.add_zero,hi,ho] at this
    exact absurd rfl this
   | succ m=>exact Vh ho m fuel _ _ hm (by omega)
def Q3 (N:Nat) (owner:Array (Option Nat)) (k:Nat):Prop:=owner.size=N/\owner.toList.countP Option.isSome=k/\∀v,some v∈owner.toList->v<k
theorem xn {mask:Nat} (F:Full (mask+1)) {owner:Array (Option Nat)} {k:Nat} (I:Q3 (mask+1) owner k) (hk:k<mask+1) (h:Int) :
  ∃j,SetTable.layClean.free mask owner (SetTable.turns mask) (SetTable.bits h % (mask+1)) (SetTable.bits h)=some j/\Q3 (mask+1) (owner.setIfInBounds j (some k)) (k+1):=by
 obtain ⟨hs,hc,hv⟩:=I
 have:∃j0,j0<mask+1/\owner.getD j0 (some 0)=none:=by
  apply Classical.byContradiction;intro z;have:owner.toList.countP Option.isSome=owner.toList.length:=List.countP_eq_length.mpr fun x hx=>by
   obtain ⟨j,hj,ej⟩:=List.mem_iff_getElem.mp hx;cases x with
   | some v=>rfl
   | none=>
    refine absurd ⟨j,?_,?_⟩ z
    . rw [Array.length_toList] at hj;omega
    . rw [Array.length_toList] at hj;rw [Array.getD_eq_getD_getElem?,Array.getElem?_eq_getElem hj];simpa using ej
  rw [Array.length_toList] at this;omega
 obtain ⟨j0,h0,e0⟩:=this
 obtain ⟨m,hm,em⟩:=Vi F (i:=SetTable.bits h % (mask+1)) (Nat.mod_lt _ (by omega)) (Rs h) h0
 obtain ⟨j,ej,en⟩:=Vh e0 m (SetTable.turns mask) _ _ em (by unfold SetTable.turns;omega)
 have hj:j<owner.size:=by apply Classical.byContradiction;intro z;rw [Array.getD_eq_getD_getElem?,Array.getElem?_eq_none (by omega)] at en;cases en
 have en':owner.toList[j]'(by simpa using hj)=none:=by rw [Array.getD_eq_getD_getElem?,Array.getElem?_eq_getElem hj] at en;simpa using en
 refine ⟨j,ej,by simpa using hs,?_,fun v h=>?_⟩
 . rw [Array.toList_setIfInBounds,List.countP_set (by simpa using hj),en',hc];simp
 . rw [Array.toList_setIfInBounds] at h;rcases List.mem_or_eq_of_mem_set h with h | h
   . have:=hv v h;omega
   . injection h with h;omega
theorem Tz {mask:Nat} (F:Full (mask+1)):∀(hs:List Int) (owner:Array (Option Nat)) (k:Nat),Q3 (mask+1) owner k->k+hs.length<=mask ->
  ∃owner',hs.foldl (fun (acc:Option (Array (Option Nat)×Nat)) h=>do
   let (owner,k) <-acc
   let j <-SetTable.layClean.free mask owner (SetTable.turns mask) (SetTable.bits h % (mask+1)) (SetTable.bits h)
   pure (owner.setIfInBounds j (some k),k+1)) (some (owner,k))=some (owner',k+hs.length)/\Q3 (mask+1) owner' (k+hs.length)
 | [],owner,k,I,_=>⟨owner,rfl,I⟩
 | h::hs,owner,k,I,hk=>by
  rw [List.length_cons] at hk;obtain ⟨j,ej,I'⟩:=xn F I (by omega) h;obtain ⟨owner',e,I2⟩:=Tz F hs _ (k+1) I' (by omega);refine ⟨owner',?_,?_⟩
  . rw [List.foldl_cons,List.length_cons,show k+(hs.length+1)=k+1+hs.length by omega,<-e];congr 1;show (SetTable.layClean.free mask owner (SetTable.turns mask) (SetTable.bits h % (mask+1)) (SetTable.bits h) >>= fun j=>pure (owner.setIfInBounds j (some k),k+1))=_;rw [ej];rfl
  . rw [List.length_cons,show k+(hs.length+1)=k+1+hs.length by omega];exact I2
theorem yr {mask:Nat} (F:Full (mask+1)) (hs:Array Int) (hl:hs.size<=mask):∃owner,SetTable.layClean mask hs=some owner/\Q3 (mask+1) owner hs.size:=by have I0:Q3 (mask+1) (Array.replicate (mask+1) none) 0:=⟨by simp,by simp [List.countP_replicate],fun v h=>by simp at h⟩;obtain ⟨owner,e,I⟩:=Tz F hs.toList _ 0 I0 (by simpa using hl);rw [Nat.zero_add,Array.length_toList] at e I;refine ⟨owner,?_,I⟩;unfold SetTable.layClean;rw [<-Array.foldl_toList,e];rfl
theorem yq (t:SetTable) {mask:Nat} (F:Full (mask+1)) (hs:Array Int) (hl:hs.size<=mask) {wanted:Nat} (hw:SetTable.sizeAbove wanted - 1=mask) :
  ∃t' order,t.relaid hs wanted=some (t',order)/\t'.mask=mask/\t'.place.size=hs.size/\t'.dummies=#[]/\order.size=hs.size/\(∀v∈order.toList,v<hs.size):=by
 obtain ⟨owner,e,I1,I2,I3⟩:=yr F hs hl
 unfold SetTable.relaid SetTable.laid
 rw [hw,e]
 have hlen:((List.range (mask+1)).filterMap fun j=>(owner.getD j none).map (j,·)).length=hs.size:=by
  rw [List.length_filterMap_eq_countP,<-I2];have:owner.toList=(List.range (mask+1)).map fun j=>owner.getD j none:=by
   apply List.ext_getElem
   . rw [Array.length_toList,List.length_map,List.length_range,I1]
   . intro i h1 h2;rw [List.getElem_map,List.getElem_range,Array.getD_eq_getD_getElem?,Array.getElem?_eq_getElem (by simpa using h1)];simp
  rw [this,List.countP_map];congr 1;funext j;simp
 refine ⟨_,_,rfl,rfl,?_,rfl,?_,fun v hv=>?_⟩
 . simp only [List.size_toArray,List.length_map];exact hlen
 . simp only [List.size_toArray,List.length_map];exact hlen
 . simp only [List.mem_map,List.mem_filterMap,List.mem_range] at hv;obtain ⟨⟨j,v'⟩,⟨j',hj',ej⟩,rfl⟩:=hv;cases eo:owner.getD j' none with
   | none=>rw [eo] at ej;cases ej
   | some z=>
    rw [eo] at ej
    simp only [Option.map_some,Option.some.injEq,Prod.mk.injEq] at ej
    obtain ⟨_,rfl⟩:=ej
    refine I3 _ ?_
    rw [Array.getD_eq_getD_getElem?] at eo
    cases eg:owner[j']? with
    | none=>rw [eg] at eo;cases eo
    | some y=>
     rw [eg] at eo
     simp only [Option.getD_some] at eo
     subst eo
     exact Array.mem_toList_iff.mpr (Array.mem_of_getElem? eg)
theorem ku {α:Type} (es:Array α) (order:Array Nat) (h:∀v∈order.toList,v<es.size):(order.filterMap (es[·]?)).size=order.size/\∀e∈(order.filterMap (es[·]?)).toList,e∈es.toList:=by
 refine ⟨?_,fun e he=>?_⟩
 . rw [<-Array.length_toList,Array.toList_filterMap,List.length_filterMap_eq_countP,<-Array.length_toList,List.countP_eq_length];intro v hv;have:=h v hv;simp [this]
 . rw [Array.toList_filterMap,List.mem_filterMap] at he;obtain ⟨v,_,hv⟩:=he;exact Array.mem_toList_iff.mpr (Array.mem_of_getElem? hv)
section
variable {prog:Program} {w:World} {A:Around} {E:Value->Shared->Prop} {s:Shared}
theorem Hi:∀(m:Nat) {k:NK} {v:Value} {Q:Bool->Shared->Prop},k.dep<=m->NKv s.heap k v->Q false s->wpAny (model prog w) A (ofAClassStatement m v) Q E s
 | m,.i n,v,Q,hd,p,q=>by simp only [NKv] at p;obtain ⟨t,rfl⟩:=p;cases m<;>exact wpAny_pure q
 | 0,.t ks,v,Q,hd,p,q=>by simp only [NK.dep] at hd;omega
 | m+1,.t ks,v,Q,hd,p,q=>by
  simp only [NKv] at p;obtain ⟨a,its,rfl,⟨o,e,c,n,d⟩,p2⟩:=p;simp only [NK.dep] at hd;rw [ofAClassStatement.eq_2];refine wpAny_bind (wpAny_typeOf (T:="tuple") ⟨o,e,c⟩ ?_);refine wpAny_bind (wpAny_pure ?_);dsimp only;refine wpAny_bind (wpAny_seqItems e d ?_);dsimp only;refine wpAny_bind ?_;have go:∀(ks:List NK) (vs:List Value) (Q':Option Bool×Unit->Shared->Prop),u0 ks<=m->NKvs s.heap ks vs->Q' (none,()) s ->
    wpAny (model prog w) A (forIn vs ((none,()):Option Bool×Unit) fun y __s=>do
     let __do_lift <-ofAClassStatement m y
     if __do_lift=true then pure (ForInStep.done (some true,()))
      else pure (ForInStep.yield (none,()))) Q' E s:=by
   intro ks
   induction ks with
   | nil=>
    intro vs Q' _ p hq
    simp only [NKvs] at p;subst p
    exact wpAny_pure hq
   | cons k ks ih=>
    intro vs Q' hd p hq
    simp only [NKvs] at p
    obtain ⟨v,r,rfl,p1,p2⟩:=p
    simp only [u0] at hd
    rw [List.forIn_cons]
    refine wpAny_bind (wpAny_bind (Hi m (by omega) p1 ?_))
    refine wpAny_pure ?_
    exact ih r Q' (by omega) p2 hq
  rw [<-Array.forIn_toList];refine go ks its.toList _ (by omega) p2 ?_;exact wpAny_pure q
theorem Ty:∀(m:Nat) {k:NK} {v:Value} {Q:Bool->Shared->Prop},k.dep<=m->NKv s.heap k v->Q true s->wpAny (model prog w) A (hashByValue m v) Q E s
 | m,.i n,v,Q,hd,p,q=>by simp only [NKv] at p;obtain ⟨t,rfl⟩:=p;cases m<;>exact wpAny_pure q
 | 0,.t ks,v,Q,hd,p,q=>by simp only [NK.dep] at hd;omega
 | m+1,.t ks,v,Q,hd,p,q=>by
  simp only [NKv] at p;obtain ⟨a,its,rfl,⟨o,e,c,n,d⟩,p2⟩:=p;simp only [NK.dep] at hd;unfold hashByValue;refine wpAny_bind (wpAny_specialOf (T:="tuple") ⟨o,e,c⟩ F.slot_tuple_hash.lookup ?_);show wpAny (model prog w) A (seqItems? (.ref a) >>= _) _ _ s;refine wpAny_bind (wpAny_seqItems e d ?_);refine wpAny_bind ?_;have go:∀(ks:List NK) (vs:List Value) (Q':Option Bool×Unit->Shared->Prop),u0 ks<=m->NKvs s.heap ks vs->Q' (none,()) s ->
    wpAny (model prog w) A (forIn vs ((none,()):Option Bool×Unit) fun y __s=>do
     let __do_lift <-hashByValue m y
     if (!__do_lift)=true then pure (ForInStep.done (some false,()))
      else pure (ForInStep.yield (none,()))) Q' E s:=by
   intro ks
   induction ks with
   | nil=>
    intro vs Q' _ p hq
    simp only [NKvs] at p;subst p
    exact wpAny_pure hq
   | cons k ks ih=>
    intro vs Q' hd p hq
    simp only [NKvs] at p
    obtain ⟨v,r,rfl,p1,p2⟩:=p
    simp only [u0] at hd
    rw [List.forIn_cons]
    refine wpAny_bind (wpAny_bind (Ty m (by omega) p1 ?_))
    refine wpAny_pure ?_
    exact ih r Q' (by omega) p2 hq
  show wpAny (model prog w) A (forIn its ((none,()):Option Bool×Unit) _) _ _ s;rw [<-Array.forIn_toList];refine go ks its.toList _ (by omega) p2 ?_;exact wpAny_pure q
theorem y1h {α:Type} {c:Prop} [Decidable c] {m1 m2:Sem α} {Q:α->Shared->Prop} (h1:wpAny (model prog w) A m1 Q E s) (h2:wpAny (model prog w) A m2 Q E s):wpAny (model prog w) A (if c then m1 else m2) Q E s:=by
 split
 . exact h1
 . exact h2
theorem xm {x:Value} {kx:NK} (dx:kx.dep<=8) (hx:NKv s.heap kx x) {Q:Bool->Shared->Prop} (q:Q false s) (l:List Value) (hl:∀y∈l,∃k:NK,k.dep<=8/\NKv s.heap k y):wpAny (model prog w) A (searchCouldBeSeen x l) Q E s:=by
 unfold searchCouldBeSeen;refine wpAny_bind ?_;induction l with
 | nil=>exact wpAny_pure (wpAny_pure q)
 | cons y l ih=>
  obtain ⟨k,dk,hk⟩:=hl y (by simp)
  have ih:=ih fun z hz=>hl z (by simp [hz])
  rw [List.forIn_cons]
  refine wpAny_bind ?_
  refine y1h (wpAny_pure ih) ?_
  . refine wpAny_bind (Dk 8 dx hx ?_);refine wpAny_bind (Dk 8 dk hk ?_);refine wpAny_bind (Hi 8 dx hx ?_);refine wpAny_bind (Hi 8 dk hk ?_);exact wpAny_pure ih
theorem Tx {t:SetTable} {ha:Nat->Int} {h:Int} {j0 d:Nat} {p:SetTable.Probe} (hd:t.dummies=#[]) (he:t.slot j0=.empty) (hj:(adv t d p).j=j0) (hl:d<10 * SetTable.turns t.mask) (hm:p.dummy=none) {r:Option SetTable.Met} (e:t.probe ha h p=r) :
  (∃j,r=some (.empty j none))\/∃j i nx e,r=some (.candidate j i nx)/\t.slot j=.live i/\i<t.place.size/\e<d/\(adv t e nx).j=j0/\nx.dummy=none:=by
 rw [<-e];exact Pg hd he d _ p hj hl hm
theorem Wk {a:Addr} {o:Obj} {es:Array (Int×Value)} {ep:Nat} {t:SetTable} {b:Addr} {kx:NK} {h:Int} (ho:s.heap.get? a=some o) (hd:o.data=.set es ep t) (T:Tok t es.size) (hx:NKv s.heap kx (.ref b)) (dx:kx.dep<=8) (hu:A.units+8<cLine)
  (hes:∀e∈es.toList,∃(k:NK) (c:Addr),k.dep<=8/\k≠kx/\e.2=.ref c/\NKv s.heap k e.2) {j0:Nat} (he:t.slot j0=.empty) {Q:SetFound->Shared->Prop} (q:∀j,Q (.free j false) s) :
  ∀(fuel d:Nat) (st:Option SetTable.Probe),d<fuel->d<10 * SetTable.turns t.mask->(adv t d (st.getD (t.probeStart h))).j=j0->(st.getD (t.probeStart h)).dummy=none->wpAny (model prog w) A (setSearchFrom a (.ref b) h true fuel st) Q E s
 | fuel+1,d,st,hf,hl,hj,hm=>by
  rw [setSearchFrom.eq_2];refine wpAny_bind (wpAny_setState_of ho hd T.fits ?_);dsimp only;rw [if_neg (by rw [T.way];exact Bool.false_ne_true)];split
  . rename_i met e;rcases Tx T.2.1 he hj hl hm e with ⟨j,z⟩ | ⟨j,i,nx,e',z,hs,hi,hlt,hj',hm'⟩
    . injection z with z;subst z;exact wpAny_pure (q j)
    . injection z with z;subst z;dsimp only;have hi':i<es.size:=by rw [<-T.1];exact hi
      have body:wpAny (model prog w) A (match es[i]? with
        | some (fst,y)=>(do
         let equal <-holding [y] (eqBool y (.ref b))
         let __x <-setState a
         match __x with
          | (es',fst,t')=>
           if (true&&equal)=true then pure (SetFound.there none)
           else
            match t'.sameMemory t.moves t.mask with
            | some same=>
             have __do_jp:=fun still=>
              match still with
              | none=>(do
               rule "set.search.anew"
               setSearchFrom a (.ref b) h true fuel none:Sem SetFound)
              | some i'=>
               if equal=true then pure (SetFound.there (some i'))
               else setSearchFrom a (.ref b) h true fuel (some nx);
             match if same=true then t'.slot j else SetTable.Slot.empty with
             | SetTable.Slot.live i'=>
              match es'[i']? with
              | some (fst,y')=>do
               let __do_lift <-isSame y' y
               let still <-pure (if __do_lift=true then some i' else none)
               __do_jp still
              | none=>do
               let still <-pure none
               __do_jp still
             | x=>do
              let still <-pure none
              __do_jp still
            | x=>unsupported "set.changed-during-lookup:is-the-new-block-at-the-old-address":Sem SetFound)
        | x=>unsupported "internal:set-entry") Q E s:=by
       obtain ⟨k,c,dk,hne,ey,hk⟩:=hes es[i] (by simp)
       have e1:es[i]?=some (es[i].1,es[i].2):=by rw [Array.getElem?_eq_getElem hi']
       rw [e1]
       dsimp only
       refine wpAny_bind (wpAny_holding (Fh 8 dk hu hk hx prog w E _ ?_))
       rw [decide_eq_false hne]
       refine wpAny_bind (wpAny_setState_of ho hd T.fits ?_)
       dsimp only
       rw [if_neg (by decide)]
       rw [show t.sameMemory t.moves t.mask=some true by unfold SetTable.sameMemory;rw [if_pos (beq_self_eq_true _)]]
       dsimp only
       rw [if_pos rfl,hs]
       dsimp only
       rw [e1]
       dsimp only
       rw [ey]
       refine wpAny_bind (wpAny_isSame_ref_self ?_)
       refine wpAny_bind (wpAny_pure ?_)
       try dsimp only
       try rw [if_pos rfl]
       try dsimp only
       rw [if_neg Bool.false_ne_true]
       exact Wk ho hd T hx dx hu hes he q fuel e' (some nx) (by omega) (by omega) hj' hm'
      split
      . refine wpAny_bind (xm dx hx ?_ _ fun y hy=>?_)
        . rw [if_neg Bool.false_ne_true];exact body
        . obtain ⟨e2,he2,rfl⟩:=List.mem_map.mp hy;have he2':e2∈es.toList:=by simp only [Array.toList_filter,List.mem_filter] at he2;exact he2.1
          obtain ⟨k,c,dk,_,_,hk⟩:=hes e2 he2';exact ⟨k,dk,hk⟩
      . exact body
  . rename_i hno;rcases Tx T.2.1 he hj hl hm rfl with ⟨j,z⟩ | ⟨j,i,nx,e',z,_⟩
    . exact absurd z (hno _)
    . exact absurd z (hno _)
end
theorem Tw {α:Type} (xs:Array α) (p:Nat) (x:α):(SetTable.insertAt xs p x).size=xs.size+1:=by unfold SetTable.insertAt;simp only [Array.size_append,Array.size_push,Array.size_extract];omega
theorem vE {α:Type} {xs:Array α} {p:Nat} {x e:α} (h:e∈(SetTable.insertAt xs p x).toList):e∈xs.toList\/e=x:=by
 unfold SetTable.insertAt at h;simp only [Array.toList_append,Array.toList_push,List.mem_append,List.mem_singleton,Array.toList_extract,List.extract_eq_drop_take] at h;rcases h with (h | h) | h
 . exact .inl (List.mem_of_mem_drop (List.mem_of_mem_take h))
 . exact .inr h
 . exact .inl (List.mem_of_mem_drop (List.mem_of_mem_take h))
theorem kr {t:SetTable} (hd:t.dummies=#[]) (j:Nat):(t.put j).1.mask=t.mask/\(t.put j).1.place.size=t.place.size+1/\(t.put j).1.dummies=#[]:=by refine ⟨rfl,Tw _ _ _,?_⟩;show (if SetTable.has t.dummies j=true then _ else t.dummies)=#[];rw [hd];rfl
section
variable {prog:Program} {w:World} {A:Around} {E:Value->Shared->Prop} {s:Shared}
def E9 (h:Heap) (a:Addr) (ks:List NK):Prop:=∃(o:Obj) (es:Array (Int×Value)) (ep:Nat) (t:SetTable),h.get? a=some o/\o.ExactSet/\o.data=.set es ep t/\Tok t es.size/\es.size=ks.length /\
 ∀e∈es.toList,∃(k:NK) (c:Addr),k∈ks/\k.dep<=8/\e.2=.ref c/\NKv h k e.2
theorem Pf {h h':Heap} {a:Addr} {o:Obj} {es:Array (Int×Value)} {ep:Nat} {t:SetTable} (ho:h.get? a=some o) (hd:o.data=.set es ep t) (sb:∀b,b≠a->h'.get? b=h.get? b) {k:NK} {v:Value} (p:NKv h k v):NKv h' k v:=
 NKv.stay (fun b its z=>by
  obtain ⟨ob,eb,cb,n,db⟩:=z;have hne:b≠a:=fun z=>by subst z;rw [ho] at eb;cases eb;rw [hd] at db;cases db
  exact ⟨ob,(sb b hne).trans eb,cb,n,db⟩) p
theorem Rn {h:Heap} {a:Addr} {od:Option Addr} {es:Array (Int×Value)} {ep:Nat} {t:SetTable} {sl:Array (Option Value)} (ho:h.get? a=some ⟨.type "set",od,.set es ep t,sl⟩) (es1:Array (Int×Value)) (t1:SetTable) :
 (h.update a (Obj.putSet es1 t1)).get? a=some ⟨.type "set",od,.set es1 (ep+1) t1,sl⟩:=Heap.get?_update_self _ ho rfl
theorem vD {a:Addr} {ks:List NK} {b:Addr} {kx:NK} {h:Int} (S:E9 s.heap a ks) (hx:NKv s.heap kx (.ref b)) (dx:kx.dep<=8) (hn:kx∉ks) (h64:ks.length<64) (hu:A.units+8<cLine) {Q:Bool->Shared->Prop}
  (q:∀h',(∀c,c≠a->h'.get? c=s.heap.get? c)->h'.objs.size=s.heap.objs.size->E9 h' a (ks++[kx])->Q true { s with heap:=h' }):wpAny (model prog w) A (setAddHashed a (.ref b) h) Q E s:=by
 obtain ⟨o,es,ep,t,ho,hc,hd,T,hl,hes⟩:=S
 obtain ⟨oc,od,odt,osl⟩:=o
 obtain ⟨hc1,hc2,hc3⟩:=hc
 dsimp only at hc1 hc2 hc3 hd
 subst hc1 hc2 hc3 hd
 have hd:(⟨.type "set",none,.set es ep t,#[]⟩:Obj).data=.set es ep t:=rfl
 obtain ⟨j0,hj0,he0⟩:=yt T.2.1 T.le
 obtain ⟨d,hdl,hdj⟩:=zJ T.full h hj0
 have hes':∀e∈es.toList,∃(k:NK) (c:Addr),k.dep<=8/\k≠kx/\e.2=.ref c/\NKv s.heap k e.2:=fun e he=>by obtain ⟨k,c,z1,z2,z3,z4⟩:=hes e he;exact ⟨k,c,z2,fun z=>hn (by rw [<-z];exact z1),z3,z4⟩
 have hm:t.mask<=127:=by rcases T.2.2 with ⟨e,_⟩ | ⟨e,_⟩ | ⟨e,_⟩<;>omega
 unfold setAddHashed
 refine wpAny_holding ?_
 show wpAny (model prog w) A (setAddHashedIn a (.ref b) h (99999+1)) Q E s
 rw [setAddHashedIn.eq_2]
 refine wpAny_bind (wpAny_setState_of ho hd T.fits ?_)
 dsimp only
 rw [if_neg (show ¬byScan (.ref b) es=true by unfold byScan;simp [Value.scannable])]
 refine wpAny_bind (Wk ho hd T hx dx hu hes' he0 (fun j=>?_) 100000 d none (by unfold SetTable.turns at hdl;omega) hdl hdj rfl)
 dsimp only
 refine wpAny_bind (wpAny_setState_of ho hd T.fits ?_)
 dsimp only
 obtain ⟨p1,p2,p3⟩:=kr T.2.1 j
 generalize t.put j=r at p1 p2 p3
 obtain ⟨t1,p⟩:=r
 dsimp only at p1 p2 p3 ⊢
 have sz:=Tw es p (h,Value.ref b)
 have mem:∀e∈(SetTable.insertAt es p (h,Value.ref b)).toList,∃(k:NK) (c:Addr),k∈ks++[kx]/\k.dep<=8/\e.2=.ref c/\NKv s.heap k e.2:=fun e he=>by
  rcases vE he with he | rfl
  . obtain ⟨k,c,z1,z2,z3,z4⟩:=hes e he;exact ⟨k,c,by simp [z1],z2,z3,z4⟩
  . exact ⟨kx,b,by simp,dx,rfl,hx⟩
 have hl':(SetTable.insertAt es p (h,Value.ref b)).size=(ks++[kx]).length:=by rw [sz,hl,List.length_append,List.length_singleton]
 have T1:=T.1
 rw [T1] at p2
 generalize SetTable.insertAt es p (h,Value.ref b)=es1 at sz mem hl'
 have hz:es1.size<=sizeLine:=by rw [hl',List.length_append,List.length_singleton];exact Nat.le_trans (show ks.length+1<=64 by omega) (by decide)
 have ho1:=Rn ho es1 t1
 have sb1:∀c,c≠a->(s.heap.update a (Obj.putSet es1 t1)).get? c=s.heap.get? c:=(Heap.SameBut.update s.heap a (Obj.putSet es1 t1)).2
 have mem1:∀e∈es1.toList,∃(k:NK) (c:Addr),k∈ks++[kx]/\k.dep<=8/\e.2=.ref c/\NKv (s.heap.update a (Obj.putSet es1 t1)) k e.2:=fun e he=>by obtain ⟨k,c,z1,z2,z3,z4⟩:=mem e he;exact ⟨k,c,z1,z2,z3,Pf ho rfl sb1 z4⟩
 have rest:wpAny (model prog w) A (do
   storeSet a es1 t1
   if (!false&&t1.tooFull)=true then do
     let __r <-setRelay a (SetTable.grown (es.size+1))
     pure true
    else pure true) Q E s:=by
  refine wpAny_bind (wpAny_storeSet_of ho hd ?_ hz)
  have hfull:t1.tooFull=decide ((es.size+1) * 5 ≥ t.mask * 3):=by unfold SetTable.tooFull SetTable.fill;rw [p2,p3,p1];rfl
  have n64:es.size+1<=64:=by rw [hl];omega
  by_cases hf:(es.size+1) * 5 ≥ t.mask * 3
  . rw [hfull,decide_eq_true hf];rw [if_pos (show (!false&&true)=true from rfl)];obtain ⟨mask',F',hw,hk,hle,hz'⟩:∃mask',Full (mask'+1)/\SetTable.sizeAbove (SetTable.grown (es.size+1)) - 1=mask'/\((mask'=7/\es1.size<5)\/(mask'=31/\es1.size<19)\/(mask'=127/\es1.size<77))/\es1.size<=mask'/\¬SetTable.sizeAbove (SetTable.grown (es.size+1)) > sizeLine:=by
     rcases T.2.2 with ⟨e,z⟩ | ⟨e,z⟩ | ⟨e,z⟩
     . rw [e] at hf;have:es.size=4:=by omega
       rw [sz,this];exact ⟨31,Ph,by decide,.inr (.inl ⟨rfl,by decide⟩),by decide,by decide⟩
     . rw [e] at hf;have:es.size=18:=by omega
       rw [sz,this];exact ⟨127,Rv,by decide,.inr (.inr ⟨rfl,by decide⟩),by decide,by decide⟩
     . rw [e] at hf;omega
    obtain ⟨t2,order,er,m1,m2,m3,m4,m5⟩:=yq t1 F' (es1.map (·.1)) (by rw [Array.size_map];exact hle) hw;rw [Array.size_map] at m2 m4 m5;obtain ⟨k1,k2⟩:=ku es1 order m5;have fit1:t1.fits es1.size=true:=by unfold SetTable.fits SetTable.fill;rw [p2,p3,p1,sz,Bool.and_eq_true,beq_iff_eq,decide_eq_true_eq];refine ⟨rfl,?_⟩;show es.size+1+0<=_;rcases T.2.2 with ⟨e,z⟩ | ⟨e,z⟩ | ⟨e,z⟩<;>omega
    refine wpAny_bind ?_;unfold setRelay;refine wpAny_bind (wpAny_setState_of ho1 rfl fit1 ?_);dsimp only;rw [if_neg hz',er];refine wpAny_bind (wpAny_of_eq (a:=(order.filterMap (es1[·]?),t2)) (by show (if ((order.filterMap (es1[·]?)).size != es1.size)=true then _ else pure (order.filterMap (es1[·]?),t2))=_;rw [if_neg (by rw [k1,m4];simp)]) ?_);dsimp only;refine wpAny_storeSet_of ho1 rfl ?_ (by rw [k1,m4];exact hz);refine wpAny_pure ?_;have ho2:=Rn ho1 (order.filterMap (es1[·]?)) t2;have sb2:∀c,c≠a->((s.heap.update a (Obj.putSet es1 t1)).update a (Obj.putSet (order.filterMap (es1[·]?)) t2)).get? c=(s.heap.update a (Obj.putSet es1 t1)).get? c:=(Heap.SameBut.update _ a _).2;refine q _ (fun c hc=>(sb2 c hc).trans (sb1 c hc)) ?_ ⟨_,_,_,_,ho2,⟨rfl,rfl,rfl⟩,rfl,⟨by rw [m2,k1,m4],m3,?_⟩,by rw [k1,m4];exact hl',fun e he=>?_⟩
    . rw [(Heap.SameBut.update _ a _).1,(Heap.SameBut.update _ a _).1]
    . rw [m1,k1,m4];exact hk
    . obtain ⟨k,c,z1,z2,z3,z4⟩:=mem1 e (k2 e he);exact ⟨k,c,z1,z2,z3,Pf ho1 rfl sb2 z4⟩
  . rw [hfull,decide_eq_false hf];rw [if_neg (show ¬(!false&&false)=true from Bool.false_ne_true)];refine wpAny_pure (q _ sb1 ?_ ⟨_,_,_,_,ho1,⟨rfl,rfl,rfl⟩,rfl,⟨by rw [p2,sz],p3,?_⟩,hl',mem1⟩)
    . rw [(Heap.SameBut.update _ a _).1]
    . rw [p1,sz];rcases T.2.2 with ⟨e,z⟩ | ⟨e,z⟩ | ⟨e,z⟩<;>rw [e] at hf ⊢<;>omega
 split
 . refine wpAny_bind (Ty 8 dx hx ?_);exact rest
 . refine wpAny_bind (wpAny_pure ?_);exact rest
end
section
variable {prog:Program} {w:World}
theorem Vg {h h':Heap} {d it l:Addr} {i:Nat} {ks:List NK} (hd:E9 h d ks) (hi:h.IsListIter it l i) (hne:d≠it) (kp:∀b o,b≠it->h.get? b=some o->h'.get? b=some o):E9 h' d ks:=by obtain ⟨o,es,ep,t,d1,d2,d3,d4,d5,d6⟩:=hd;refine ⟨o,es,ep,t,kp d o hne d1,d2,d3,d4,d5,fun e he=>?_⟩;obtain ⟨k,c,z1,z2,z3,z4⟩:=d6 e he;refine ⟨k,c,z1,z2,z3,NKv.stay (fun a its t=>?_) z4⟩;obtain ⟨ot,et,ct,n,dt⟩:=t;obtain ⟨oi,ei,ci,_⟩:=hi;refine ⟨ot,kp a ot (fun z=>?_) et,ct,n,dt⟩;subst z;rw [et] at ei;cases ei;rw [ct] at ci;exact absurd (Value.type.inj ci) (by decide)
theorem vC {h₀:Heap} {l it d:Addr} {items:Array Value} {A:Around} {R:Result->Shared->Prop} (hd0:h₀.get? d=none) (hit0:h₀.get? it=none) (hne:d≠it) (hl:h₀.IsList l items) (hh:A.handled=none) (hu:A.units+16<cLine) :
  ∀(rest:List (NK×Addr)) (i:Nat) (acc:List NK) (s:Shared),Keep h₀ s.heap->s.heap.IsListIter it l i->E9 s.heap d acc ->
   items.toList.drop i=rest.map (fun r=>Value.ref r.2)->(∀r∈rest,NKv h₀ r.1 (.ref r.2)/\r.1.dep<=8)->(acc++rest.map (·.1)).Nodup->acc.length+rest.length<=64 ->
   (∀h' tk,E9 h' d (acc++rest.map (·.1))->Keep h₀ h'->R (.ok (.ret .none)) { s with heap:=h',toks:=tk }) ->
   codeAny (model prog w) A (.builtin "set.update.loop" ⟨[.ref d,.ref it],[]⟩) R s:=by
 intro rest
 induction rest with
 | nil=>
  intro i acc s kp hi hd hr hf nd hz k
  refine codeAny_builtin F.entry_set_update_loop ?_
  rw [Around.under_plainId F.plain_set_update_loop _]
  show wpAny _ A.in1 (pyNext (.ref it) >>= _) _ _ s
  have hx:items[i]?=none:=by
   have:items.toList[i]?=none:=by rw [List.getElem?_eq_none_iff];exact List.drop_eq_nil_iff.mp hr
   simpa using this
  refine wpAny_bind (wpAny_pyNext_list_end hh hi (kp.list hl) hx fun h' ex=>?_)
  show wpAny _ _ (ret Value.none) _ _ _
  refine wpAny_pure ?_
  refine k h' s.toks ?_ ?_
  . rw [List.map_nil,List.append_nil];exact Vg hd hi hne fun b o hb e=>ex b o hb e
  . exact fun b o e=>ex b o (fun z=>by rw [z,hit0] at e;cases e) (kp b o e)
 | cons r rest ih=>
  intro i acc s kp hi hd hr hf nd hz k
  refine codeAny_builtin F.entry_set_update_loop ?_
  rw [Around.under_plainId F.plain_set_update_loop _]
  show wpAny _ A.in1 (pyNext (.ref it) >>= _) _ _ s
  have hx:items[i]?=some (.ref r.2):=by
   have:items.toList[i]?=some (.ref r.2):=by have e:=congrArg List.head? hr;rw [List.head?_drop] at e;rw [e];rfl
   simpa using this
  obtain ⟨hk,hdp⟩:=hf r (by simp)
  rw [List.length_cons] at hz
  refine wpAny_bind (wpAny_pyNext_list_item hi (kp.list hl) hx fun h' hi' sb=>?_)
  have kp':Keep h₀ h':=fun b o e=>by
   have hb:b≠it:=fun z=>by rw [z,hit0] at e;cases e
   rw [sb.2 b hb];exact kp b o e
  have hd':E9 h' d acc:=Vg hd hi hne fun b o hb e=>by rw [sb.2 b hb];exact e
  have hk':NKv h' r.1 (.ref r.2):=NKv.stay (fun a its t=>kp'.tuple t) hk
  show wpAny _ _ (holding [Value.ref r.2] (setAdd d (.ref r.2)) >>= _) _ _ _
  refine wpAny_bind (wpAny_holding ?_)
  unfold setAdd
  refine wpAny_holding ?_
  have nd':r.1∉acc:=fun z=>by rw [List.map_cons] at nd;exact (List.nodup_append.mp nd).2.2 r.1 z r.1 (by simp) rfl
  refine wpAny_bind (Hz 8 hdp (by show A.units+1+8<cLine;omega) hk' ?_)
  refine vD (s:={ s with heap:=h',toks:=_ }) hd' hk' hdp nd' (by omega) (by show A.units+1+8<cLine;omega) fun h'' sb'' _ hd''=>?_
  refine wpAny_pure ⟨plainId_quiet F.plain_set_update_loop _,?_⟩
  refine ih (i+1) (acc++[r.1]) { s with heap:=h'',toks:=_ } (fun b o e=>?_) ?_ hd'' ?_ (fun q hq=>hf q (by simp [hq])) ?_ ?_ fun h3 tk3 hS hK=>?_
  . have hb:b≠d:=fun z=>by rw [z,hd0] at e;cases e
    show h''.get? b=some o;rw [sb'' b hb];exact kp' b o e
  . obtain ⟨o,eo,c⟩:=hi';exact ⟨o,by show h''.get? it=some o;rw [sb'' it (Ne.symm hne)];exact eo,c⟩
  . have e:=congrArg List.tail hr;rw [List.tail_drop] at e;exact e
  . rw [List.append_assoc];exact nd
  . rw [List.length_append,List.length_singleton];omega
  . rw [List.append_assoc] at hS;exact k h3 tk3 hS hK
theorem vB {A:Around} {E:Value->Shared->Prop} {s:Shared} {l:Addr} {its:Array Value} {Q:Value->Shared->Prop} (hl:s.heap.IsList l its) (hh:A.handled=none) (hu:A.units+32<cLine)
  (rest:List (NK×Addr)) (hr:its.toList=rest.map (fun r=>Value.ref r.2)) (hf:∀r∈rest,NKv s.heap r.1 (.ref r.2)/\r.1.dep<=8) (nd:(rest.map (·.1)).Nodup) (hz:rest.length<=64)
  (k:∀h' tk,E9 h' s.heap.objs.size (rest.map (·.1))->Keep s.heap h'->Q (.ref s.heap.objs.size) { s with heap:=h',toks:=tk }) :
  wpAny (model prog w) A (call (.type "set") [.ref l]) Q E s:=by
 obtain ⟨c,tl,hmro⟩:=PySem.F.called_set.mro
 have hmade:=PySem.F.called_set.made
 have hsub:=PySem.F.called_set.sub
 have h1:=PySem.F.called_set.notType
 have h2:=PySem.F.called_set.canCreate
 have hct:=PySem.F.typeCall_set_1 (.ref l)
 refine wpAny_call (codeAny_of_tree ?_)
 show wpAny _ _ (callAny (.type "set") _) _ _ _
 refine wpAny_pure ⟨Code.quiet_builtin _ (by decide +kernel),codeAny_builtin PySem.F.entry_type_call ?_⟩
 rw [Around.under_plain (weight_type_call_type "set" [.ref l] []) rfl]
 repeat (any_goals (first | assumption | wp_step))
 refine codeAny_mono (code_set_new_1 (.ref l) (E:=E) (Q₁:=fun obj s₁=>∃led:Bool,obj=.ref s.heap.objs.size/\s₁={ s with heap:=s.heap.push { cls:=.type "set",dict:=none,data:=.set #[] 0 (.fresh 0 0 led) } }) fun led=>⟨led,rfl,rfl⟩) fun r s₁ hr'=>?_
 cases r with
 | error e=>exact hr'
 | ok fl=>
  cases fl with
  | ret obj=>
   obtain ⟨led,rfl,rfl⟩:=hr'
   have hS:(s.heap.push { cls:=.type "set",dict:=none,data:=.set #[] 0 (.fresh 0 0 led) }).get? s.heap.objs.size=some { cls:=.type "set",dict:=none,data:=.set #[] 0 (.fresh 0 0 led) }:=Heap.get?_push_size _ rfl
   have hT:Shared.TypeIs { s with heap:=s.heap.push { cls:=.type "set",dict:=none,data:=.set #[] 0 (.fresh 0 0 led) } } (.ref s.heap.objs.size) "set":=⟨_,hS,rfl⟩
   have hli:=PySem.F.called_set.init.lookup
   have hbi:=PySem.F.called_set.init.bind (.ref s.heap.objs.size)
   repeat (any_goals (first | assumption | wp_step))
   refine codeAny_mono (codeAny_call_builtin (R:=wants (fun r s₂=>r=.none/\∃h' tk,s₂={ s with heap:=h',toks:=tk }/\E9 h' s.heap.objs.size (rest.map (·.1))/\Keep s.heap h') E) PySem.F.called_set.init.plain PySem.F.entry_set_init (check_set_init_1 hT ?_)) fun r₂ s₂ hr₂=>?_
   . have hl0:=hl;obtain ⟨ol,hol,hcl,nl,hdl⟩:=hl;obtain ⟨ocls,odict,odata,oslots⟩:=ol;simp only at hcl hdl;subst hcl hdl;have hol':(s.heap.push { cls:=.type "set",dict:=none,data:=.set #[] 0 (.fresh 0 0 led) }).get? l=some { cls:=.type "list",dict:=odict,data:=.seq its nl,slots:=oslots }:=Heap.get?_push_of_some _ hol;have hsls:=PySem.F.sub_list_set;have hslf:=PySem.F.sub_list_frozenset;have hne:(Value.type "list"==Value.type "dict")=false:=by decide
     have hl1:(s.heap.push { cls:=.type "set",dict:=none,data:=.set #[] 0 (.fresh 0 0 led) }).IsList l its:=⟨_,hol',rfl,nl,rfl⟩;unfold Builtin.«set.__init__» noKeywords Builtin.Frozenset.updateFrom;generalize hPI:pyIter=PI
     wp_walk
     subst hPI;refine wpAny_pyIter_list hl1 ?_;refine wpAny_bind (wpAny_runValue ?_);have e1:(s.heap.push { cls:=.type "set",dict:=none,data:=.set #[] 0 (.fresh 0 0 led) }).objs.size=s.heap.objs.size+1:=Heap.size_push ..;have kp0:Keep s.heap ((s.heap.push { cls:=.type "set",dict:=none,data:=.set #[] 0 (.fresh 0 0 led) }).push { cls:=.type "list_iterator",data:=.fields #[.ref l,.int 0 0] }):=fun b ob q=>Heap.get?_push_of_some _ (Heap.get?_push_of_some _ q)
     refine vC (h₀:=s.heap) (l:=l) (items:=its) (Heap.get?_none_of_le (Nat.le_refl _)) (Heap.get?_none_of_le (by show s.heap.objs.size<=(s.heap.push _).objs.size;rw [e1];omega)) (by show s.heap.objs.size≠(s.heap.push _).objs.size;rw [e1];omega) hl0 (by simp [hh]) (by simp;omega) rest 0 [] _ kp0 ⟨_,Heap.get?_push_size _ rfl,rfl,rfl⟩ ?_ (by simpa using hr) hf (by simpa using nd) (by simpa using hz) fun h' tk hK kp=>?_
     . refine ⟨_,#[],0,_,Heap.get?_push_of_some _ hS,⟨rfl,rfl,rfl⟩,rfl,⟨rfl,rfl,.inl ⟨rfl,by decide⟩⟩,rfl,fun e he=>by simp at he⟩
     . show wpAny _ _ _ _ _ _;refine wpAny_pure ?_;show wpAny _ _ (ret Value.none) _ _ _;exact wpAny_pure ⟨rfl,h',tk,rfl,by simpa using hK,kp⟩
   . cases r₂ with
     | error e=>exact hr₂
     | ok fl₂=>
      cases fl₂ with
      | ret r=>
       obtain ⟨rfl,h',tk,rfl,hS',hk'⟩:=hr₂
       repeat (any_goals (first | assumption | wp_step))
       exact k _ _ hS' hk'
      | _=>exact hr₂.elim
  | _=>exact hr'.elim
end
def setP (a:Addr) (n:Nat):Heap->Prop:=fun h=>∃(o:Obj) (es:Array (Int×Value)) (ep:Nat) (t:SetTable),h.get? a=some o/\o.ExactSet/\o.data=.set es ep t/\t.fits es.size=true/\es.size=n
theorem setP.stay {a:Addr} {n:Nat}:∀h1 h2:Heap,setP a n h1->(∀o,h1.get? a=some o->h2.get? a=some o)->setP a n h2:=fun _ _ ⟨o,es,ep,t,e,z⟩ k=>⟨o,es,ep,t,k _ e,z⟩
def Es (K:Frag):List V->Hp->VK->Prop:=fun vs H Q=>∃(l:Addr) (xs:List V) (ks:List NK),vs=[.ref l]/\SqL K H l xs/\NKrs H ks xs/\(∀x∈xs,∃b,x=.ref b)/\(∀k∈ks,k.dep<=8)/\ks.Nodup/\ks.length<=64 /\
 ∀a,H a=none->Q (.ref a) (upd H a (.ext (setP a ks.length)))
def Er:List V->Hp->VK->Prop:=fun vs H Q=>∃(a:Addr) (n:Nat),vs=[.ref a]/\H a=some (.ext (setP a n))/\n<=64/\Q (.int (n:Int)) H
section
variable {X:Cx} {pins:List (Addr×Obj)} {U:St} {H:Hp} {s:Shared}
theorem Rm (I:Inv X pins U H s):∀{ks:List NK} {xs:List V} {us:List Value},NKrs H ks xs->(∀x∈xs,∃b,x=.ref b)->Vals xs us->∃rest:List (NK×Addr),us=rest.map (fun r=>Value.ref r.2)/\rest.map (·.1)=ks/\∀r∈rest,NKv s.heap r.1 (.ref r.2)
 | [],_,_,n,_,r=>by simp only [NKrs] at n;subst n;cases r;exact ⟨[],rfl,rfl,fun r hr=>by simp at hr⟩
 | k::ks,_,_,n,hb,r=>by
  simp only [NKrs] at n;obtain ⟨x,xs,rfl,n1,n2⟩:=n;cases r with
  | cons r1 r2=>
   obtain ⟨b,rfl⟩:=hb x (by simp)
   obtain ⟨rest,e1,e2,e3⟩:=Rm I n2 (fun y hy=>hb y (by simp [hy])) r2
   have nk:=X0 I n1 r1
   cases r1
   refine ⟨(k,b)::rest,by simp [e1],by simp [e2],fun q hq=>?_⟩
   rcases List.mem_cons.mp hq with rfl | hq
   . exact nk
   . exact e3 q hq
theorem kq (hc:X.calm=true) (hu:X.A.units+64<cLine):CallR X (.type "set") (Es X.K):=by
 intro pins s U H xs us Q I r h;obtain ⟨l,ys,ks,rfl,hq,nk,hb,hd,nd,hz,q⟩:=h;obtain ⟨u,rfl,ru⟩:=t9 r;cases ru;obtain ⟨its,v1,pl,_⟩:=I.list hq;obtain ⟨rest,e1,e2,e3⟩:=Rm I nk hb v1;have hlen:rest.length=ks.length:=by rw [<-e2,List.length_map]
 refine vB pl.isList (I.ok.hd hc) (by omega) rest (by simpa using e1) (fun r hr=>⟨e3 r hr,hd _ (by rw [<-e2];exact List.mem_map.mpr ⟨r,hr,rfl⟩)⟩) (by rw [e2];exact nd) (by omega) fun h' tk hS kp=>?_
 rw [e2] at hS;obtain ⟨o,es,ep,t,d1,d2,d3,d4,d5,_⟩:=hS;have pp:setP s.heap.objs.size ks.length h':=⟨o,es,ep,t,d1,d2,d3,d4.fits,d5⟩;exact ⟨.ref s.heap.objs.size,_,I.laid (t':=tk) (o:=.ext (setP s.heap.objs.size ks.length)) kp (Nat.le_refl _) ⟨pp,⟨o,d1⟩,setP.stay⟩,rfl,q _ (I.hok.fresh (Nat.le_refl _))⟩
theorem ko:CallR X (.builtin "len") Er:=by intro pins s U H xs us Q I r h;obtain ⟨a,n,rfl,ha,hn,q⟩:=h;obtain ⟨u,rfl,ru⟩:=t9 r;cases ru;obtain ⟨⟨o,es,ep,t,e1,e2,e3,e4,e5⟩,_,_⟩:=(show ObjOk X.prog X.w H s.heap a (.ext (setP a n)) from I.hok a _ ha);refine call_len_set e1 e2 e3 e4 (by omega) ?_;rw [e5];exact ⟨.int (n:Int),H,I.tok _,⟨_,rfl⟩,q⟩
end
noncomputable def Bz:D->Bool
 | .tup _=>true
 | _=>false
open Classical in
noncomputable def dLS:List D->Option D
 | [.lst ds]=>match z9 ds with
  | some ks=>if ks.Nodup/\ks.length<=64/\(∀k∈ks,k.dep<=8)/\ds.all Bz=true then some (.int (ks.length:Int)) else none
  | none=>none
 | _=>none
theorem Rl {K:Frag} {H:Hp}:∀{ds:List D} {xs:List V},ds.all Bz=true->RDs K H ds xs->∀x∈xs,∃b,x=.ref b
 | [],xs,_,r,x,hx=>by simp only [RDs] at r;subst r;simp at hx
 | d::ds,xs,h,r,x,hx=>by
  simp only [RDs] at r;obtain ⟨y,r',rfl,r1,r2⟩:=r;rw [List.all_cons,Bool.and_eq_true] at h;rcases List.mem_cons.mp hx with rfl | hx
  . cases d<;>first | (simp [Bz] at h;done) | skip
    obtain ⟨a,_,rfl,_⟩:=r1.tup;exact ⟨a,rfl⟩
  . exact Rl h.2 r2 x hx
theorem y1i {K:Frag}:y0 K false dLS (fun vs H Q=>Es K vs H fun x H1=>Er [x] H1 Q):=by
 intro H0 H xs ds z Q s r ho k;unfold dLS at ho;split at ho<;>first | (cases ho;done) | skip
 rename_i es;split at ho<;>first | (cases ho;done) | skip
 rename_i ks hks;split at ho<;>first | (cases ho;done) | skip
 rename_i hc;cases ho;obtain ⟨x,rfl,q1⟩:=r.uno;obtain ⟨a,ys,rfl,ha,ra⟩:=q1.lst;have nk:=NKrs.mono (fun c ys q=>s _ _ q) (Hm hks ra);refine ⟨a,ys,ks,rfl,.of (s _ _ ha),nk,Rl hc.2.2.2 ra,hc.2.2.1,hc.1,hc.2.1,fun p hp=>⟨p,ks.length,rfl,m7,hc.2.1,k _ _ (.val (Same.upd_new hp) (.new s hp) (.mkInt _))⟩⟩
noncomputable def eLS (fs:DE->R (List D)):DE->R D:=eCB dLS fs
theorem xl {X:Cx} {EX:XW} {e:Expr} {fs:DE->R (List D)} {p p2 pos pos2:Pos} (hc:X.calm=true) (hu:X.A.units+64<cLine) (hg:Gl X "len") (hm:X.mg "len"=none) (hv:bootBuiltins "len"=some (.builtin "len")) (hg2:Gl X "set") (hm2:X.mg "set"=none) (hv2:bootBuiltins "set"=some (.type "set")) (ha:QA X EX [e] fs)
  (he:starEach [e] X.env=(false,eval e X.env)::starEach [] X.env:=by rfl) (he2:starEach [Expr.Call (.Name "set" p2) [e] [] pos2] X.env=(false,eval (.Call (.Name "set" p2) [e] [] pos2) X.env)::starEach [] X.env:=by rfl) :
  QE X EX false (.Call (.Name "len" p) [.Call (.Name "set" p2) [e] [] pos2] [] pos) (eLS fs):=
 ⟨(Jv ko hg hm hv (L8 (Vw (kq hc hu) hg2 hm2 hv2 ha.h (he:=he)) pa_nil he2) (he:=he2)).imp fun U H Q q=>(show tCB (fun vs H Q=>Es X.K vs H fun x H1=>Er [x] H1 Q) (TAd X.K EX fs) U H Q from Be y1i q)⟩
open PySem.W in
noncomputable def Cq (tb:String->Option Builtin) (p:Program) (w:World) (m:Nat) (ann:Option Value):Nat->SharedT->Thread->Option SharedT
 | 0,_,_=>none
 | n+1,s,t=>match through t with
  | true=>some s
  | false=>match stepOk m ann t with
   | false=>none
   | true=>match stepT (denote tb) p w s t with
    | some (s',t')=>Cq tb p w m ann n s' t'
    | none=>none
open PySem.W in
theorem Wj {tb:String->Option Builtin} {p:Program} {w:World} {m:Nat} {ann:Option Value}:∀(n:Nat) {s s':SharedT} {t:Thread},Cq tb p w m ann n s t=some s'->topRun tb p w m ann n s.abs t=some s'.abs
 | 0,_,_,_,h=>nomatch h
 | n+1,s,s',t,h=>by
  unfold Cq at h;unfold topRun;cases a:through t with
  | true=>rw [a] at h;cases h;rfl
  | false=>
   rw [a] at h
   cases b:stepOk m ann t with
   | false=>rw [b] at h;cases h
   | true=>
    rw [b] at h
    cases c:stepT (denote tb) p w s t with
    | none=>rw [c] at h;cases h
    | some z=>
     obtain ⟨s2,t2⟩:=z
     rw [c] at h
     rw [stepT_spec c]
     exact Wj n h
open PySem.W in
noncomputable def Pe:List Obj->Nat->BT->BT
 | [],_,t=>t
 | o::l,i,t=>Pe l (i+1) (t.ins i o)
open PySem.W in
noncomputable def bootS (w:World) (os:OsState):SharedT:=⟨Pe (boot_heap w.params).objs.toList 0 .nil,(boot_heap w.params).objs.size,(boot_heap w.params).life,Array.mk [],boot_drawn,boot_toks,os⟩
open PySem.W in
noncomputable def seenAt (p q:Program) (loose:List Str) (Xt:Shared->Bool) {α:Type} (Yf:Shared->α) (w:World) (t:Shared):=
 (staticsOk (importedModules p.main.body) (boot_heap w.params) t.heap&&namesBound p t.heap&&gensDone t&&laidKept (boot_heap w.params) t.heap,openSeen q loose (importedModules p.main.body) Xt true t,Yf t)
open PySem.W in
noncomputable def outAt (p q:Program) (loose:List Str) (Xt:Shared->Bool) {α:Type} (Yf:Shared->α) (N:Nat) (w:World) (os:OsState):=
 (Cq treeTable p w (boot_heap w.params).objs.size ((boot_heap w.params).nsMap mainGlobals "__annotations__") N (bootS w os) (topStub p)).map fun s=>seenAt p q loose Xt Yf w s.abs
open PySem.W in
theorem xk:∀(w:World) (os:OsState),(bootS w os).abs=⟨boot_heap w.params,Array.mk [],boot_drawn,boot_toks,os⟩:=fun _ _=>by kernel_rfl
open PySem.W in
theorem vA:∀w:World,(boot_heap w.params).isNs mainGlobals=true:=fun _=>by kernel_rfl
open PySem.W in
theorem vz {p q:Program} {loose:List Str} {Xt:Shared->Bool} {α:Type} {Yf:Shared->α} {Ya:World->α} {N:Nat} (e:opening p=plainProg p.main.scope.names) (hN:Nat.ble 600 N=true)
  (f:∀s,fenceModules? p s=some s) (h:∀w os,outAt p q loose Xt Yf N w os=some (true,openGood q loose,Ya w)):LeftO p q loose Xt Yf Ya N:=fun w=>by
 obtain ⟨⟨hp,gs,d,k,os⟩,a,b⟩:=Option.map_eq_some_iff.mp (boot_open e hN f w)
 obtain ⟨rfl,rfl,rfl,rfl⟩:hp=boot_heap w.params/\gs=Array.mk []/\d=boot_drawn/\k=boot_toks:=by simpa using b
 obtain ⟨s,r,c⟩:=Option.map_eq_some_iff.mp (h w os)
 have r2:=Wj N r
 rw [xk] at r2
 obtain ⟨l1,l2,l3⟩:_/\_/\_:=by simpa only [seenAt,Prod.mk.injEq] using c
 have t:topFrom treeTable p w N ⟨boot_heap w.params,Array.mk [],boot_drawn,boot_toks,os⟩=some s.abs:=by unfold topFrom;dsimp only;rw [vA,r2];show (match staticsOk (importedModules p.main.body) (boot_heap w.params) s.abs.heap&&namesBound p s.abs.heap&&gensDone s.abs&&laidKept (boot_heap w.params) s.abs.heap with | true=>_ | false=>_)=_;rw [l1]
 unfold openEnds
 rw [a]
 show (topFrom treeTable p w N _).map _=_
 rw [t]
 exact congrArg some (Prod.ext l2 l3)
abbrev vs (x:String) (t:Nat):Value:=.str (Str.ofString x) t
abbrev en (P:Params) (x:String) (t:Nat) (v:Value):DictEntry:=⟨PyData.keyHash P (Str.ofString x),.str (Str.ofString x) t,v⟩
abbrev oT (l:List Value):Obj:={ cls:=.type "tuple",data:=.seq l.toArray }
abbrev oD (l:List DictEntry) (n:Nat):Obj:={ cls:=.type "dict",data:=.dict l.toArray n }
abbrev oF (st:Stmt) (x q:String) (dV kV doc pm:Value) (an:Option Addr) (cd ct:Value):Obj:={ cls:=.type "function",data:=.func (PySem.W.fnOf (Str.ofString x) (Str.ofString q) (L7 st) (E5 st) (i8 st) dV kV doc pm an cd ct) }
end L2
namespace Bd
abbrev Vc:=Int×Int
def dt (u v:Vc):Int:=u.1 * v.2 - u.2 * v.1
theorem E2 (a:Vc):dt a a=0:=by simp only [dt];grind
def ad (u v:Vc):Vc:=(u.1+v.1,u.2+v.2)
def ng (u:Vc):Vc:=(-u.1,-u.2)
theorem Cp (a b c:Vc):dt (ad a b) c=dt a c+dt b c:=by simp only [dt,ad];grind
theorem Z4 (a b c:Vc):dt c (ad a b)=dt c a+dt c b:=by simp only [dt,ad];grind
theorem vy (a c:Vc):dt c (ng a)=- dt c a:=by simp only [dt,ng];grind
theorem Mu (a c:Vc):dt c a=- dt a c:=by simp only [dt];grind
structure Fr (n:Nat) (R:Nat->Int) (v:Nat->Vc):Prop where
 per:∀k,v (k+n)=ng (v k)
 ini:dt (v 0) (v 1)=1
 rc1:∀k,(v (k+2)).1=R ((k+1) % n) * (v (k+1)).1 - (v k).1
 rc2:∀k,(v (k+2)).2=R ((k+1) % n) * (v (k+1)).2 - (v k).2
 pos:∀i j,i<j->j<i+n->0<dt (v i) (v j)
variable {n:Nat} {R:Nat->Int} {v:Nat->Vc}
theorem Fr.rc (F:Fr n R v) (u:Vc) (k:Nat) :
  dt u (v (k+2))=R ((k+1) % n) * dt u (v (k+1)) - dt u (v k):=by
 simp only [dt,F.rc1 k,F.rc2 k];grind
theorem Fr.one (F:Fr n R v):∀k,dt (v k) (v (k+1))=1
 | 0=>F.ini
 | k+1=>by have h:=F.rc (v (k+1)) k;rw [h,E2,Mu (v k),F.one k];grind
theorem Fr.turn (F:Fr n R v) (i j:Nat):dt (v i) (v (j+n))=- dt (v i) (v j):=by rw [F.per,vy]
theorem Fr.nn (F:Fr n R v) (i j:Nat) (h:i<=j) (h2:j<=i+n):0<=dt (v i) (v j):=by
 by_cases e:i=j
 . subst e;rw [E2];omega
 by_cases e2:j=i+n
 . subst e2;rw [F.turn,E2];omega
 have:=F.pos i j (by omega) (by omega);omega
def gR (n c:Nat) (R:Nat->Int) (k:Nat):Int:=
 if k=c+1 then 1 else
 let o:=if k<=c then k else k - 1
 R o+(if o=c then 1 else 0)+(if o=(c+1) % n then 1 else 0)
def gq (n c:Nat) (v:Nat->Vc) (q r:Nat):Vc:=
 if r<=c then v (q * n+r) else if r=c+1 then ad (v (q * n+c)) (v (q * n+c+1)) else v (q * n+(r - 1))
def gV (n c:Nat) (v:Nat->Vc) (k:Nat):Vc:=gq n c v (k / (n+1)) (k % (n+1))
theorem o9 (n c:Nat) (v:Nat->Vc) (q r:Nat) (h:r<=n):gV n c v (q * (n+1)+r)=gq n c v q r:=by
 unfold gV;rw [show (q * (n+1)+r) / (n+1)=q by
   rw [Nat.mul_comm,Nat.mul_add_div (by omega),Nat.div_eq_of_lt (by omega)];omega,
  show (q * (n+1)+r) % (n+1)=r by rw [Nat.mul_comm,Nat.mul_add_mod];exact Nat.mod_eq_of_lt (by omega)]
theorem R6 (n k:Nat):∃q r,k=q * (n+1)+r/\r<=n:=
 ⟨k / (n+1),k % (n+1),by rw [Nat.mul_comm];exact (Nat.div_add_mod k (n+1)).symm,by have:=Nat.mod_lt k (show n+1 > 0 by omega);omega⟩
theorem sm (q n:Nat):(q+1) * n=q * n+n:=Nat.succ_mul q n
theorem mdn (q n s:Nat) (h:s<n):(q * n+s) % n=s:=by rw [Nat.mul_comm,Nat.mul_add_mod];exact Nat.mod_eq_of_lt h
theorem kn (F:Fr n R v) (c:Nat) (k:Nat):gV n c v (k+(n+1))=ng (gV n c v k):=by
 obtain ⟨q,r,rfl,h⟩:=R6 n k;rw [show q * (n+1)+r+(n+1)=(q+1) * (n+1)+r by rw [sm q (n+1)];omega,o9 _ _ _ _ _ h,o9 _ _ _ _ _ h];unfold gq;split
 . rw [show (q+1)*n+r=q * n+r+n by rw [sm];omega,F.per]
 split
 . rw [show (q+1)*n+c=q * n+c+n by rw [sm];omega,show q * n+c+n+1=q * n+c+1+n by omega,F.per,F.per];simp only [ng,ad];ext<;>simp<;>omega
 . rw [show (q+1)*n+(r-1)=q * n+(r-1)+n by rw [sm];omega,F.per]
def lin (x:Int) (b a:Vc):Vc:=(x * b.1 - a.1,x * b.2 - a.2)
theorem Fr.rv (F:Fr n R v) (k:Nat):v (k+2)=lin (R ((k+1) % n)) (v (k+1)) (v k):=by have h1:=F.rc1 k;have h2:=F.rc2 k;exact Prod.ext h1 h2
theorem Fr.rvq (F:Fr n R v) (q s:Nat) (h:s+1<n):v (q * n+s+2)=lin (R (s+1)) (v (q * n+s+1)) (v (q * n+s)):=by rw [F.rv,show q * n+s+1=q * n+(s+1) by omega,mdn q n (s+1) h]
theorem Fr.rv0 (F:Fr n R v) (q:Nat) (h:1<=n):v (q * n+n+1)=lin (R 0) (v (q * n+n)) (v (q * n+(n - 1))):=by have:=F.rv (q * n+(n - 1));rw [show q * n+(n-1)+2=q * n+n+1 by omega,show q * n+(n-1)+1=(q+1) * n+0 by rw [sm];omega,mdn (q+1) n 0 (by omega)] at this;rw [this];congr 2;rw [sm];rfl
theorem v6 (n c:Nat) (v:Nat->Vc) (q r:Nat) (h:r<=c):gq n c v q r=v (q * n+r):=by unfold gq;rw [if_pos h]
theorem D8 (n c:Nat) (v:Nat->Vc) (q:Nat):gq n c v q (c+1)=ad (v (q * n+c)) (v (q * n+c+1)):=by unfold gq;rw [if_neg (by omega),if_pos rfl]
theorem B7 (n c:Nat) (v:Nat->Vc) (q r:Nat) (h:c+1<=r):gq n c v q (r+1)=v (q * n+r):=by unfold gq;rw [if_neg (by omega),if_neg (by omega)];rfl
theorem Mt (x:Int) (a b:Vc):ad b (lin x b a)=lin (x+1) b a:=by simp only [ad,lin,Prod.mk.injEq];constructor<;>grind
theorem Ms (a b:Vc):b=lin 1 (ad a b) a:=by apply Prod.ext<;>simp only [ad,lin]<;>grind
theorem Ep (x:Int) (a b:Vc):lin x b a=lin (x+1) b (ad a b):=by simp only [ad,lin,Prod.mk.injEq];constructor<;>grind
theorem Pd (F:Fr n R v) (c:Nat) (hc:c<n) (hn:3<=n) (k:Nat) :
  gV n c v (k+2)=lin (gR n c R ((k+1) % (n+1))) (gV n c v (k+1)) (gV n c v k):=by
 obtain ⟨q,r,rfl,h⟩:=R6 n k
 by_cases h2:r+2<=n
 . rw [show q * (n+1)+r+2=q * (n+1)+(r+2) by omega,show q * (n+1)+r+1=q * (n+1)+(r+1) by omega,
    mdn q (n+1) (r+1) (by omega),o9 _ _ _ _ _ h2,o9 _ _ _ _ _ (by omega),o9 _ _ _ _ _ h]
   by_cases e1:r+2<=c
   . rw [v6 _ _ _ _ _ e1,v6 _ _ _ _ _ (by omega),v6 _ _ _ _ _ (by omega),show gR n c R (r+1)=R (r+1) by
      have:¬(r+1=(c+1) % n):=by
       by_cases z:c+1=n
       . rw [z,Nat.mod_self];omega
       . rw [Nat.mod_eq_of_lt (by omega)];omega
      simp only [gR,if_neg (show ¬(r+1=c+1) by omega),if_pos (show r+1<=c by omega),if_neg (show ¬(r+1=c) by omega),if_neg this];omega]
     exact F.rvq q r (by omega)
   by_cases e2:r+1=c
   . subst e2;rw [v6 _ _ _ _ r (by omega),v6 _ _ _ _ (r+1) (by omega),show r+2=(r+1)+1 by rfl,D8,
      show gR n (r+1) R (r+1)=R (r+1)+1 by
      have:¬(r+1=(r+1+1) % n):=by
       by_cases z:r+1+1=n
       . rw [z,Nat.mod_self];omega
       . rw [Nat.mod_eq_of_lt (by omega)];omega
      simp only [gR,if_neg (show ¬(r+1=r+1+1) by omega),if_pos (Nat.le_refl (r+1)),if_neg this,if_true];omega]
     have:=F.rvq q r (by omega);rw [show q * n+(r+1)+1=q * n+r+2 by omega,this,<-Mt];rfl
   by_cases e3:r=c
   . subst e3;rw [v6 _ _ _ _ r (by omega),D8,B7 _ _ _ _ (r+1) (by omega),show gR n r R (r+1)=1 by simp only [gR,if_true]];exact Ms _ _
   by_cases e4:r=c+1
   . subst e4;rw [D8,B7 _ _ _ _ _ (by omega),B7 _ _ _ _ _ (by omega),show gR n c R (c+1+1)=R (c+1)+1 by have:(c+1) % n=c+1:=Nat.mod_eq_of_lt (by omega);simp only [gR,if_neg (show ¬(c+1+1=c+1) by omega),if_neg (show ¬(c+1+1<=c) by omega),this];rw [show c+1+1 - 1=c+1 by omega,if_neg (by omega),if_pos rfl];omega];have:=F.rvq q c (by omega);rw [show q * n+(c+1+1)=q * n+c+2 by omega,this,Ep];rfl
   . obtain ⟨s,rfl⟩:∃s,r=s+1:=⟨r - 1,by omega⟩;rw [B7 _ _ _ _ s (by omega),show s+1+2=(s+2)+1 by rfl,B7 _ _ _ _ (s+2) (by omega),B7 _ _ _ _ (s+1) (by omega),show gR n c R (s+1+1)=R (s+1) by
      have:¬(s+1=(c+1) % n):=by rw [Nat.mod_eq_of_lt (by omega)];omega
      simp only [gR,if_neg (show ¬(s+1+1=c+1) by omega),if_neg (show ¬(s+1+1<=c) by omega),show s+1+1 - 1=s+1 by omega,if_neg (show ¬(s+1=c) by omega),if_neg this];omega]
     exact F.rvq q s (by omega)
 by_cases h3:r+1=n
 . subst h3;rw [show q * (r+1+1)+r+2=(q+1) * (r+1+1)+0 by rw [sm q];omega,show q * (r+1+1)+r+1=q * (r+1+1)+(r+1) by omega,
    mdn q (r+1+1) (r+1) (by omega),o9 _ _ _ _ _ (by omega),o9 _ _ _ _ _ (by omega),o9 _ _ _ _ _ h,v6 _ _ _ _ 0 (by omega)]
   rw [show (q+1) * (r+1)+0=q * (r+1)+r+1 by rw [sm q];omega];by_cases e:r=c
   . subst e;rw [v6 _ _ _ _ r (by omega),D8,show gR (r+1) r R (r+1)=1 by simp only [gR,if_true]];exact Ms _ _
   by_cases e4:r=c+1
   . subst e4;rw [D8,B7 _ _ _ _ _ (by omega),show gR (c+1+1) c R (c+1+1)=R (c+1)+1 by have:(c+1) % (c+1+1)=c+1:=Nat.mod_eq_of_lt (by omega);simp only [gR,if_neg (show ¬(c+1+1=c+1) by omega),if_neg (show ¬(c+1+1<=c) by omega),this];rw [show c+1+1 - 1=c+1 by omega,if_neg (by omega),if_pos rfl];omega];have:=F.rvq q c (by omega);rw [show q * (c+1+1)+(c+1)+1=q * (c+1+1)+c+2 by omega,this,Ep];rfl
   . obtain ⟨s,rfl⟩:∃s,r=s+1:=⟨r - 1,by omega⟩;rw [B7 _ _ _ _ _ (by omega),B7 _ _ _ _ _ (by omega),show gR (s+1+1) c R (s+1+1)=R (s+1) by
      have:¬(s+1=(c+1) % (s+1+1)):=by rw [Nat.mod_eq_of_lt (by omega)];omega
      simp only [gR,if_neg (show ¬(s+1+1=c+1) by omega),if_neg (show ¬(s+1+1<=c) by omega),show s+1+1 - 1=s+1 by omega,if_neg (show ¬(s+1=c) by omega),if_neg this];omega]
     exact F.rvq q s (by omega)
 . obtain rfl:r=n:=by omega
   rw [show q * (r+1)+r+2=(q+1) * (r+1)+1 by rw [sm q];omega,show q * (r+1)+r+1=(q+1) * (r+1)+0 by rw [sm q];omega,
    mdn (q+1) (r+1) 0 (by omega),o9 _ _ _ _ _ (by omega),o9 _ _ _ _ _ (by omega),o9 _ _ _ _ _ h,v6 _ _ _ _ 0 (by omega)]
   rw [show (q+1) * r+0=q * r+r by rw [sm q];omega];have key:=F.rv0 q (by omega);by_cases e0:c=0
   . subst e0;obtain ⟨s,rfl⟩:∃s,r=s+1:=⟨r - 1,by omega⟩;rw [show gq (s+1) 0 v (q+1) 1=ad (v ((q+1) * (s+1)+0)) (v ((q+1) * (s+1)+0+1)) from D8 _ _ _ _,B7 _ _ _ _ _ (by omega),show gR (s+1) 0 R 0=R 0+1 by
      have:¬(0=(0+1) % (s+1)):=by rw [Nat.mod_eq_of_lt (by omega)];omega
      simp only [gR,if_neg (show ¬(0=0+1) by omega),if_pos (Nat.le_refl 0),if_true,if_neg this];omega]
     rw [show (q+1) * (s+1)+0=q * (s+1)+(s+1) by rw [sm q];omega,key,Mt];rfl
   rw [v6 _ _ _ _ 1 (by omega)];by_cases e1:c+1=r
   . subst e1;rw [D8,show gR (c+1) c R 0=R 0+1 by simp only [gR,if_neg (show ¬(0=c+1) by omega),if_pos (Nat.zero_le c),if_neg (show ¬(0=c) by omega),Nat.mod_self,if_true];omega];rw [show (q+1) * (c+1)+1=q * (c+1)+(c+1)+1 by rw [sm q],key,Ep];rfl
   . obtain ⟨s,rfl⟩:∃s,r=s+1:=⟨r - 1,by omega⟩;rw [B7 _ _ _ _ _ (by omega),show gR (s+1) c R 0=R 0 by
      have:¬(0=(c+1) % (s+1)):=by rw [Nat.mod_eq_of_lt (by omega)];omega
      simp only [gR,if_neg (show ¬(0=c+1) by omega),if_pos (Nat.zero_le c),if_neg (show ¬(0=c) by omega),if_neg this];omega]
     rw [show (q+1) * (s+1)+1=q * (s+1)+(s+1)+1 by rw [sm q],key];rfl
theorem M0 (n c:Nat) (hc:c<n) (v:Nat->Vc) (q r:Nat) (h:r<=n) :
  (r≠c+1/\gq n c v q r=v (q * n+(if r<=c then r else r - 1))) \/
  (r=c+1/\gq n c v q r=ad (v (q * n+c)) (v (q * n+c+1))):=by
 by_cases e:r=c+1
 . right;subst e;exact ⟨rfl,D8 _ _ _ _⟩
 . left;refine ⟨e,?_⟩;by_cases e2:r<=c
   . rw [if_pos e2,v6 _ _ _ _ _ e2]
   . rw [if_neg e2];unfold gq;rw [if_neg e2,if_neg e]
theorem Fr.new_l (F:Fr n R v) (hn:3<=n) (p p':Nat) (h1:p+1<=p') (h2:p'<=p+n) :
  0<dt (ad (v p) (v (p+1))) (v p')/\(p+1<p'->p'<p+n->1<dt (ad (v p) (v (p+1))) (v p')):=by
 rw [Cp]
 have a:=F.nn p p' (by omega) h2
 have b:=F.nn (p+1) p' h1 (by omega)
 have a':=fun z=>F.pos p p' (by omega) z
 have b':=fun z=>F.pos (p+1) p' z (by omega)
 constructor
 . by_cases z:p'<p+n
   . have:=a' z;omega
   . have:=b' (by omega);omega
 . intro z z';have:=a' z';have:=b' z;omega
theorem Fr.new_r (F:Fr n R v) (hn:3<=n) (i p:Nat) (h1:i<=p) (h2:p+1<=i+n) :
  0<dt (v i) (ad (v p) (v (p+1)))/\(i<p->p+1<i+n->1<dt (v i) (ad (v p) (v (p+1)))):=by
 rw [Z4]
 have a:=F.nn i p h1 (by omega)
 have b:=F.nn i (p+1) (by omega) h2
 have a':=fun z=>F.pos i p z (by omega)
 have b':=fun z=>F.pos i (p+1) (by omega) z
 constructor
 . by_cases z:i<p
   . have:=a' z;omega
   . have:=b' (by omega);omega
 . intro z z';have:=a' z;have:=b' z';omega
theorem km (F:Fr n R v) (c:Nat) (hc:c<n) (hn:3<=n) (i j:Nat) (h:i<j) (h2:j<i+(n+1)) :
  0<dt (gV n c v i) (gV n c v j):=by
 obtain ⟨q,r,rfl,hr⟩:=R6 n i
 obtain ⟨q',s,rfl,hs⟩:=R6 n j
 have hq:q'=q\/q'=q+1:=by
  by_cases a:q'<q
  . have:(q'+1) * (n+1)<=q * (n+1):=Nat.mul_le_mul_right _ a;rw [sm] at this;omega
  by_cases b:q+1<q'
  . have:(q+1+1) * (n+1)<=q' * (n+1):=Nat.mul_le_mul_right _ b;rw [sm,sm] at this;omega
  omega
 rw [o9 _ _ _ _ _ hr,o9 _ _ _ _ _ hs]
 rcases hq with rfl | rfl
 . rcases M0 n c hc v q' r hr with ⟨e,g⟩ | ⟨e,g⟩<;>rcases M0 n c hc v q' s hs with ⟨e',g'⟩ | ⟨e',g'⟩<;>rw [g,g']
   . exact F.pos _ _ (by split<;>split<;>omega) (by split<;>split<;>omega)
   . exact (F.new_r hn _ _ (by split<;>omega) (by split<;>omega)).1
   . exact (F.new_l hn _ _ (by split<;>omega) (by split<;>omega)).1
   . omega
 . rw [sm q (n+1)] at h h2;rcases M0 n c hc v q r hr with ⟨e,g⟩ | ⟨e,g⟩<;>rcases M0 n c hc v (q+1) s hs with ⟨e',g'⟩ | ⟨e',g'⟩<;>rw [g,g',sm q n]
   . exact F.pos _ _ (by split<;>split<;>omega) (by split<;>split<;>omega)
   . exact (F.new_r hn _ _ (by split<;>omega) (by split<;>omega)).1
   . exact (F.new_l hn _ _ (by split<;>omega) (by split<;>omega)).1
   . omega
theorem Fr.grow (F:Fr n R v) (c:Nat) (hc:c<n) (hn:3<=n):Fr (n+1) (gR n c R) (gV n c v) where
 per:=kn F c
 ini:=by
  have a0:gV n c v 0=v 0:=by have:=o9 n c v 0 0 (by omega);simp only [Nat.zero_mul,Nat.zero_add] at this;rw [this,v6 _ _ _ _ _ (by omega)];simp
  have a1:=o9 n c v 0 1 (by omega);simp only [Nat.zero_mul,Nat.zero_add] at a1;rw [a0,a1];by_cases e:c=0
  . subst e;have:gq n 0 v 0 1=ad (v 0) (v 1):=by have:=D8 n 0 v 0;simpa using this
    rw [this,Z4,E2,F.ini];rfl
  . rw [v6 _ _ _ _ _ (by omega)];simp [F.ini]
 rc1:=fun k=>by rw [Pd F c hc hn k];rfl
 rc2:=fun k=>by rw [Pd F c hc hn k];rfl
 pos:=km F c hc hn
def v3 (k:Nat):Vc:=if k % 6=0 then (1,0) else if k % 6=1 then (0,1) else if k % 6=2 then (-1,1)
 else if k % 6=3 then (-1,0) else if k % 6=4 then (0,-1) else (1,-1)
theorem Yr (k:Nat):k % 6=0\/k % 6=1\/k % 6=2\/k % 6=3\/k % 6=4\/k % 6=5:=by
 have h:k % 6<6:=Nat.mod_lt _ (by decide)
 revert h
 generalize k % 6=m;intro h;rcases m with _ | _ | _ | _ | _ | _ | m
 . exact .inl rfl
 . exact .inr (.inl rfl)
 . exact .inr (.inr (.inl rfl))
 . exact .inr (.inr (.inr (.inl rfl)))
 . exact .inr (.inr (.inr (.inr (.inl rfl))))
 . exact .inr (.inr (.inr (.inr (.inr rfl))))
 . exact absurd h (Nat.not_lt_of_le (Nat.le_add_left 6 m))
theorem fr3:Fr 3 (fun _=>1) v3:=by
 have key:∀k,v3 k=v3 (k % 6):=fun k=>by simp only [v3,Nat.mod_mod]
 have ks:∀k a,v3 (k+a)=v3 ((k % 6+a) % 6):=fun k a=>by rw [key (k+a)];congr 1;omega
 have six:=Yr;refine ⟨fun k=>?_,rfl,fun k=>?_,fun k=>?_,fun i j h h2=>?_⟩
 . rw [ks k 3,key k];rcases six k with e | e | e | e | e | e<;>rw [e]<;>rfl
 . rw [ks k 2,ks k 1,key k];rcases six k with e | e | e | e | e | e<;>rw [e]<;>rfl
 . rw [ks k 2,ks k 1,key k];rcases six k with e | e | e | e | e | e<;>rw [e]<;>rfl
 . obtain rfl | rfl:j=i+1\/j=i+2:=by omega
   . rw [ks i 1,key i];rcases six i with e | e | e | e | e | e<;>rw [e]<;>decide
   . rw [ks i 2,key i];rcases six i with e | e | e | e | e | e<;>rw [e]<;>decide
theorem Fr.congr {n:Nat} {R R':Nat->Int} {v:Nat->Vc} (F:Fr n R v) (hn:1<=n) (h:∀k,k<n->R' k=R k):Fr n R' v where
 per:=F.per
 ini:=F.ini
 rc1:=fun k=>by rw [h _ (Nat.mod_lt _ (by omega))];exact F.rc1 k
 rc2:=fun k=>by rw [h _ (Nat.mod_lt _ (by omega))];exact F.rc2 k
 pos:=F.pos
theorem y1j {n:Nat} {R:Nat->Int} {v:Nat->Vc} {B:Int} (F:Fr n R v) (c:Nat) (hc:c<n) (hn:3<=n) (hB:∀i j,i<=j->j<=i+n->dt (v i) (v j)<=B) (i j:Nat) (h:i<j) (h2:j<i+(n+1)) :
  dt (gV n c v i) (gV n c v j)<=2 * B:=by
 obtain ⟨q,r,rfl,hr⟩:=R6 n i
 obtain ⟨q',s,rfl,hs⟩:=R6 n j
 have B0:0<=B:=by have:=hB 0 0 (by omega) (by omega);rw [E2] at this;exact this
 have hq:q'=q\/q'=q+1:=by
  by_cases a:q'<q
  . have:(q'+1) * (n+1)<=q * (n+1):=Nat.mul_le_mul_right _ a;rw [sm] at this;omega
  by_cases b:q+1<q'
  . have:(q+1+1) * (n+1)<=q' * (n+1):=Nat.mul_le_mul_right _ b;rw [sm,sm] at this;omega
  omega
 rw [o9 _ _ _ _ _ hr,o9 _ _ _ _ _ hs]
 rcases hq with rfl | rfl
 . rcases M0 n c hc v q' r hr with ⟨e,g⟩ | ⟨e,g⟩<;>rcases M0 n c hc v q' s hs with ⟨e',g'⟩ | ⟨e',g'⟩<;>rw [g,g']
   . have:=hB (q' * n+(if r<=c then r else r - 1)) (q' * n+(if s<=c then s else s - 1)) (by split<;>split<;>omega) (by split<;>split<;>omega);omega
   . rw [Z4];have a:=hB (q' * n+(if r<=c then r else r - 1)) (q' * n+c) (by split<;>omega) (by split<;>omega);have b:=hB (q' * n+(if r<=c then r else r - 1)) (q' * n+c+1) (by split<;>omega) (by split<;>omega);omega
   . rw [Cp];have a:=hB (q' * n+c) (q' * n+(if s<=c then s else s - 1)) (by split<;>omega) (by split<;>omega);have b:=hB (q' * n+c+1) (q' * n+(if s<=c then s else s - 1)) (by split<;>omega) (by split<;>omega);omega
   . omega
 . rw [sm q (n+1)] at h h2;rcases M0 n c hc v q r hr with ⟨e,g⟩ | ⟨e,g⟩<;>rcases M0 n c hc v (q+1) s hs with ⟨e',g'⟩ | ⟨e',g'⟩<;>rw [g,g',sm q n]
   . have:=hB (q * n+(if r<=c then r else r - 1)) (q * n+n+(if s<=c then s else s - 1)) (by split<;>split<;>omega) (by split<;>split<;>omega);omega
   . rw [Z4];have a:=hB (q * n+(if r<=c then r else r - 1)) (q * n+n+c) (by split<;>omega) (by split<;>omega);have b:=hB (q * n+(if r<=c then r else r - 1)) (q * n+n+c+1) (by split<;>omega) (by split<;>omega);omega
   . rw [Cp];have a:=hB (q * n+c) (q * n+n+(if s<=c then s else s - 1)) (by split<;>omega) (by split<;>omega);have b:=hB (q * n+c+1) (q * n+n+(if s<=c then s else s - 1)) (by split<;>omega) (by split<;>omega);omega
   . omega
def x5 (row:List Int) (c:Nat):List Int:=
 let m1:=row.set c (row.getD c 0+1)
 let m2:=m1.set ((c+1) % row.length) (m1.getD ((c+1) % row.length) 0+1)
 m2.take (c+1)++1::m2.drop (c+1)
theorem U1 (row:List Int) (c:Nat) (hc:c<row.length):(x5 row c).length=row.length+1:=by simp only [x5,List.length_append,List.length_take,List.length_set,List.length_cons,List.length_drop];omega
theorem Jz (l:List Int) (i j:Nat) (x:Int) (hi:i<l.length):(l.set i x).getD j 0=if j=i then x else l.getD j 0:=by
 rw [List.getD_eq_getElem?_getD,List.getElem?_set,List.getD_eq_getElem?_getD];by_cases e:i=j
 . subst e;simp [hi]
 . rw [if_neg e,if_neg (Ne.symm e)]
theorem Dg (row:List Int) (c k:Nat) (hc:c<row.length) (hn:2<=row.length) (hk:k<row.length+1) :
  (x5 row c).getD k 0=gR row.length c (fun k=>row.getD k 0) k:=by
 have hm:(c+1) % row.length<row.length:=Nat.mod_lt _ (by omega)
 have hne:(c+1) % row.length≠c:=by
  by_cases z:c+1=row.length
  . rw [z,Nat.mod_self];omega
  . rw [Nat.mod_eq_of_lt (by omega)];omega
 have e2:∀j,((row.set c (row.getD c 0+1)).set ((c+1) % row.length) ((row.set c (row.getD c 0+1)).getD ((c+1) % row.length) 0+1)).getD j 0
   = row.getD j 0+(if j=c then 1 else 0)+(if j=(c+1) % row.length then 1 else 0):=fun j=>by
  rw [Jz _ _ _ _ (by rw [List.length_set];exact hm),Jz _ _ _ _ hc,Jz _ _ _ _ hc,if_neg hne]
  by_cases a:j=(c+1) % row.length
  . rw [if_pos a,if_pos a,if_neg (by omega),a];omega
  . rw [if_neg a,if_neg a];by_cases b:j=c
    . rw [if_pos b,if_pos b,b];omega
    . rw [if_neg b,if_neg b];omega
 simp only [x5]
 generalize hm2:(row.set c (row.getD c 0+1)).set ((c+1) % row.length) ((row.set c (row.getD c 0+1)).getD ((c+1) % row.length) 0+1)=m2 at e2 ⊢
 have hl:m2.length=row.length:=by rw [<-hm2,List.length_set,List.length_set]
 have ht:(m2.take (c+1)).length=c+1:=by rw [List.length_take,hl];omega
 unfold gR
 by_cases a:k=c+1
 . rw [if_pos a,List.getD_eq_getElem?_getD,List.getElem?_append_right (by omega),ht,a];simp
 . rw [if_neg a];by_cases b:k<=c
   . rw [if_pos b];show _=row.getD k 0+(if k=c then 1 else 0)+(if k=(c+1) % row.length then 1 else 0);rw [<-e2,List.getD_eq_getElem?_getD,List.getElem?_append_left (by omega),List.getElem?_take,if_pos (by omega),List.getD_eq_getElem?_getD]
   . rw [if_neg b];show _=row.getD (k-1) 0+(if k-1=c then 1 else 0)+(if k-1=(c+1) % row.length then 1 else 0);obtain ⟨t,rfl⟩:∃t,k=c+1+(t+1):=⟨k - (c+2),by omega⟩;rw [<-e2,List.getD_eq_getElem?_getD,List.getElem?_append_right (by omega),ht,List.getD_eq_getElem?_getD,
      show c+1+(t+1) - (c+1)=t+1 by omega,List.getElem?_cons_succ,List.getElem?_drop,show c+1+(t+1) - 1=c+1+t by omega]
structure Good (row:List Int) (v:Nat->Vc):Prop where
 len:3<=row.length
 fr:Fr row.length (fun k=>row.getD k 0) v
 bd:∀i j,i<=j->j<=i+row.length->dt (v i) (v j)<=2 ^ (row.length - 3)
 rb:∀k,0<=row.getD k 0/\row.getD k 0<=row.length
theorem y1k:Good [1,1,1] v3:=by
 refine ⟨by decide,fr3.congr (by decide) fun k hk=>?_,fun i j h h2=>?_,fun k=>?_⟩
 . have:k=0\/k=1\/k=2:=by have hk':k<3:=hk;omega
   rcases this with rfl | rfl | rfl<;>rfl
 . have key:∀k,v3 k=v3 (k % 6):=fun k=>by simp only [v3,Nat.mod_mod]
   have ks:∀k a,v3 (k+a)=v3 ((k % 6+a) % 6):=fun k a=>by rw [key (k+a)];congr 1;omega
   have six:=Yr;simp only [List.length_cons,List.length_nil] at h2;have hj:j=i+0\/j=i+1\/j=i+2\/j=i+3:=by omega
   rcases hj with z | z | z | z<;>rw [z,ks i,key i]<;>rcases six i with e | e | e | e | e | e<;>rw [e]<;>decide
 . match k with
   | 0=>decide
   | 1=>decide
   | 2=>decide
   | k+3=>simp
theorem Good.grow {row:List Int} {v:Nat->Vc} (G:Good row v) (c:Nat) (hc:c<row.length):Good (x5 row c) (gV row.length c v):=by
 have hl:=U1 row c hc;have h3:=G.len;have F:=G.fr.grow c hc h3;refine ⟨by omega,?_,?_,fun k=>?_⟩
 . rw [hl];exact F.congr (by omega) fun k hk=>Dg row c k hc (by omega) hk
 . rw [hl];intro i j h h2;have e:(2:Int) ^ (row.length+1 - 3)=2 * 2 ^ (row.length - 3):=by rw [show row.length+1 - 3=(row.length - 3)+1 by omega,Int.pow_succ];omega
   have p:(0:Int)<2 ^ (row.length - 3):=Int.pow_pos (by decide);rw [e];by_cases z:i=j
   . subst z;rw [E2];omega
   by_cases z2:j=i+(row.length+1)
   . subst z2;rw [F.turn,E2];omega
   exact y1j G.fr c hc h3 G.bd i j (by omega) (by omega)
 . rw [hl];by_cases hk:k<row.length+1
   . rw [Dg row c k hc (by omega) hk];unfold gR;by_cases a:k=c+1
     . rw [if_pos a];omega
     . rw [if_neg a];have:=G.rb (if k<=c then k else k - 1);generalize (if k<=c then k else k - 1)=o at this;have hne:o=c->¬o=(c+1) % row.length:=by
        intro z z';by_cases y:c+1=row.length
        . rw [y,Nat.mod_self] at z';omega
        . rw [Nat.mod_eq_of_lt (by omega)] at z';omega
       show 0<=row.getD o 0+(if o=c then 1 else 0)+(if o=(c+1) % row.length then 1 else 0)/\row.getD o 0+(if o=c then 1 else 0)+(if o=(c+1) % row.length then 1 else 0)<=_;by_cases z:o=c
       . rw [if_pos z,if_neg (hne z)];omega
       . rw [if_neg z];split<;>omega
   . rw [List.getD_eq_getElem?_getD,List.getElem?_eq_none (by omega)];simp only [Option.getD_none];omega
end Bd
namespace Cu
abbrev P2:=Int×Int
abbrev P3:=Int×Int×Int
def sh (at' x:Int):Int:=if x > at' then x+1 else x
def sh2 (c:Int) (p:P2):P2:=(sh c p.1,sh c p.2)
def sh3 (c:Int) (p:P3):P3:=(sh c p.1,sh c p.2.1,sh c p.2.2)
def outer (p:P3):P2:=(p.1,p.2.2)
def l5 (n c:Int):P2:=if c=n - 1 then (0,c) else (c,c+2)
def j1 (n c:Int):P3:=if c=n - 1 then (0,c,n) else (c,c+1,c+2)
structure CInv (n:Int) (ls:List P2) (T:List P3):Prop where
 n3:3<=n
 tri:∀a c b,(a,c,b)∈T->0<=a/\a<c/\c<b/\b<=n - 1/\((a,c)∈ls\/c=a+1)/\((c,b)∈ls\/b=c+1)
 lin:∀a b,(a,b)∈ls->0<=a/\a+2<=b/\b<=n - 1/\¬(a=0/\b=n - 1)
 nc:∀a b c d,(a,b)∈ls->(c,d)∈ls->¬(a<c/\c<b/\b<d)
 nd:ls.Nodup
 prm:(T.map outer).Perm ((0,n - 1)::ls)
theorem y3u:CInv 3 [] [(0,1,2)] where
 n3:=by omega
 tri:=fun a c b h=>by simp only [List.mem_cons,Prod.mk.injEq,List.not_mem_nil,or_false] at h;omega
 lin:=fun a b h=>by simp at h
 nc:=fun a b c d h=>by simp at h
 nd:=List.nodup_nil
 prm:=.refl _
theorem T5 {c:Int} {ls:List P2} {x y:Int} (h:(x,y)∈ls.map (sh2 c)):∃a b,(a,b)∈ls/\x=sh c a/\y=sh c b:=by obtain ⟨⟨a,b⟩,hm,e⟩:=List.mem_map.mp h;simp only [sh2,Prod.mk.injEq] at e;exact ⟨a,b,hm,e.1.symm,e.2.symm⟩
theorem Rj {c:Int} {ls:List P2} {a b:Int} (h:(a,b)∈ls):(sh c a,sh c b)∈ls.map (sh2 c):=List.mem_map.mpr ⟨(a,b),h,rfl⟩
theorem Fz {c x y:Int} (h:sh c x=sh c y):x=y:=by unfold sh at h;split at h<;>split at h<;>omega
theorem CInv.grow {n:Int} {ls:List P2} {T:List P3} (I:CInv n ls T) (c:Int) (h0:0<=c) (h1:c<n):CInv (n+1) (ls.map (sh2 c)++[l5 n c]) (T.map (sh3 c)++[j1 n c]) where
 n3:=by have:=I.n3;omega
 tri:=fun x y z h=>by
  have h3:=I.n3;rcases List.mem_append.mp h with h | h
  . obtain ⟨⟨a,m,b⟩,hm,e⟩:=List.mem_map.mp h;simp only [sh3,Prod.mk.injEq] at e;obtain ⟨rfl,rfl,rfl⟩:=e;obtain ⟨g1,g2,g3,g4,g5,g6⟩:=I.tri a m b hm;have k1:0<=sh c a:=by unfold sh;split<;>omega
    have k2:sh c a<sh c m:=by unfold sh;split<;>split<;>omega
    have k3:sh c m<sh c b:=by unfold sh;split<;>split<;>omega
    have k4:sh c b<=n+1 - 1:=by unfold sh;split<;>omega
    have side:∀u w,u+1=w->w<=n - 1->(sh c u,sh c w)∈ls.map (sh2 c)++[l5 n c]\/sh c w=sh c u+1:=fun u w e hw=>by
     by_cases q:u=c
     . left;refine List.mem_append.mpr (.inr ?_);have e1:sh c u=c:=by unfold sh;split<;>omega
       have e2:sh c w=c+2:=by unfold sh;split<;>omega
       rw [e1,e2];unfold l5;rw [if_neg (by omega)];simp
     . right;unfold sh;split<;>split<;>omega
    refine ⟨k1,k2,k3,k4,?_,?_⟩
    . rcases g5 with g5 | g5
      . exact .inl (List.mem_append.mpr (.inl (Rj g5)))
      . exact side a m (by omega) (by omega)
    . rcases g6 with g6 | g6
      . exact .inl (List.mem_append.mpr (.inl (Rj g6)))
      . exact side m b (by omega) (by omega)
  . simp only [List.mem_singleton] at h;unfold j1 at h;by_cases q:c=n - 1
    . rw [if_pos q] at h;simp only [Prod.mk.injEq] at h;obtain ⟨rfl,rfl,rfl⟩:=h;refine ⟨by omega,by omega,by omega,by omega,.inl (List.mem_append.mpr (.inr ?_)),.inr (by omega)⟩;unfold l5;rw [if_pos q];simp
    . rw [if_neg q] at h;simp only [Prod.mk.injEq] at h;obtain ⟨rfl,rfl,rfl⟩:=h;exact ⟨by omega,by omega,by omega,by omega,.inr rfl,.inr (by omega)⟩
 lin:=fun x y h=>by
  have h3:=I.n3;rcases List.mem_append.mp h with h | h
  . obtain ⟨a,b,hm,rfl,rfl⟩:=T5 h;obtain ⟨g1,g2,g3,g4⟩:=I.lin a b hm;unfold sh;split<;>split<;>omega
  . simp only [List.mem_singleton] at h;unfold l5 at h;by_cases q:c=n - 1
    . rw [if_pos q] at h;simp only [Prod.mk.injEq] at h;omega
    . rw [if_neg q] at h;simp only [Prod.mk.injEq] at h;omega
 nc:=fun x y z w h h'=>by
  have h3:=I.n3;rcases List.mem_append.mp h with h | h<;>rcases List.mem_append.mp h' with h' | h'
  . obtain ⟨a,b,hm,rfl,rfl⟩:=T5 h;obtain ⟨a',b',hm',rfl,rfl⟩:=T5 h';have:=I.nc a b a' b' hm hm';unfold sh;split<;>split<;>split<;>split<;>omega
  . obtain ⟨a,b,hm,rfl,rfl⟩:=T5 h;simp only [List.mem_singleton] at h';have:=I.lin a b hm;unfold l5 at h';by_cases q:c=n - 1
    . rw [if_pos q] at h';simp only [Prod.mk.injEq] at h';unfold sh;split<;>split<;>omega
    . rw [if_neg q] at h';simp only [Prod.mk.injEq] at h';unfold sh;split<;>split<;>omega
  . obtain ⟨a,b,hm,rfl,rfl⟩:=T5 h';simp only [List.mem_singleton] at h;have:=I.lin a b hm;unfold l5 at h;by_cases q:c=n - 1
    . rw [if_pos q] at h;simp only [Prod.mk.injEq] at h;unfold sh;split<;>split<;>omega
    . rw [if_neg q] at h;simp only [Prod.mk.injEq] at h;unfold sh;split<;>split<;>omega
  . simp only [List.mem_singleton] at h h';rw [<-h'] at h;simp only [Prod.mk.injEq] at h;omega
 nd:=by
  have h3:=I.n3;rw [List.nodup_append];refine ⟨?_,by simp,fun p hp q hq=>?_⟩
  . refine (List.pairwise_map.mpr (I.nd.imp fun {p q} hne e=>hne ?_));simp only [sh2,Prod.mk.injEq] at e;exact Prod.ext (Fz e.1) (Fz e.2)
  . simp only [List.mem_singleton] at hq;subst hq;obtain ⟨x,y⟩:=p;obtain ⟨a,b,hm,rfl,rfl⟩:=T5 hp;have:=I.lin a b hm;intro e;unfold l5 at e;by_cases q:c=n - 1
    . rw [if_pos q] at e;simp only [Prod.mk.injEq] at e;unfold sh at e;split at e<;>split at e<;>omega
    . rw [if_neg q] at e;simp only [Prod.mk.injEq] at e;unfold sh at e;split at e<;>split at e<;>omega
 prm:=by
  have h3:=I.n3;have e1:(T.map (sh3 c)++[j1 n c]).map outer=(T.map outer).map (sh2 c)++[outer (j1 n c)]:=by simp only [List.map_append,List.map_map,List.map_cons,List.map_nil];rfl
  have p1:((T.map outer).map (sh2 c)++[outer (j1 n c)]).Perm (((0,n - 1)::ls).map (sh2 c)++[outer (j1 n c)]):=(I.prm.map (sh2 c)).append_right _;rw [e1];refine p1.trans ?_;have e0:sh c 0=0:=by unfold sh;split<;>omega
  rw [List.map_cons];by_cases q:c=n - 1
  . have e2:sh2 c (0,n - 1)=l5 n c:=by
     unfold l5 sh2;rw [if_pos q];simp only [Prod.mk.injEq];exact ⟨e0,by unfold sh;split<;>omega⟩
    have e3:outer (j1 n c)=(0,n+1 - 1):=by unfold j1 outer;rw [if_pos q];simp
    rw [e2,e3]
    refine (List.perm_append_comm (l₁:=_::_) (l₂:=[_])).trans ?_
    refine List.Perm.cons _ ?_
    exact (List.perm_append_comm (l₁:=[l5 n c]) (l₂:=ls.map (sh2 c)))
  . have e2:sh2 c (0,n - 1)=(0,n+1 - 1):=by
     unfold sh2;simp only [Prod.mk.injEq];exact ⟨e0,by unfold sh;split<;>omega⟩
    have e3:outer (j1 n c)=l5 n c:=by unfold j1 l5 outer;rw [if_neg q,if_neg q]
    rw [e2,e3];exact .refl _
end Cu
namespace Cu
open L2 (mxD Gc T2 T3 so3 Di t6)
def pk (x:Int) (p l:P2):Bool:=decide (l.1=x)&&(decide (l.2<=p.2)&&!(decide (l.1=p.1)&&decide (l.2=p.2)))
theorem kj {x:Int} {p l:P2}:pk x p l=true↔l.1=x/\l.2<=p.2/\¬(l.1=p.1/\l.2=p.2):=by
 simp only [pk,Bool.and_eq_true,decide_eq_true_eq,Bool.not_eq_true',Bool.and_eq_false_iff,decide_eq_false_iff_not];constructor
 . rintro ⟨h1,h2,h3⟩;exact ⟨h1,h2,fun h=>by rcases h3 with z | z<;>omega⟩
 . rintro ⟨h1,h2,h3⟩;refine ⟨h1,h2,?_⟩;by_cases z:l.1=p.1
   . exact .inr fun w=>h3 ⟨z,w⟩
   . exact .inl z
def ends (x:Int) (p:P2) (ls:List P2):List Int:=(ls.filter (pk x p)).map (·.2)
theorem mem_ends {x:Int} {p:P2} {ls:List P2} {y:Int}:y∈ends x p ls↔(x,y)∈ls/\y<=p.2/\¬(x=p.1/\y=p.2):=by
 simp only [ends,List.mem_map,List.mem_filter,kj];constructor
 . rintro ⟨⟨a,b⟩,⟨h1,h2,h3,h4⟩,rfl⟩;simp only at h2 h3 h4 ⊢;subst h2;exact ⟨h1,h3,h4⟩
 . rintro ⟨h1,h2,h3⟩;exact ⟨(x,y),⟨h1,rfl,h2,h3⟩,rfl⟩
section
variable {n:Int} {ls ls':List P2} {T:List P3} {a b c:Int}
theorem CInv.beh1 (I:CInv n ls T) (p:ls'.Perm ls) (h:(a,c,b)∈T):mxD (a+1) (ends a (a,b) ls')=c:=by
 obtain ⟨g1,g2,g3,g4,g5,g6⟩:=I.tri a c b h;have key:∀y∈ends a (a,b) ls',y<=c:=fun y hy=>by
  obtain ⟨m1,m2,m3⟩:=mem_ends.mp hy;have m1:=p.mem_iff.mp m1;simp only at m2 m3;have:¬y=b:=fun z=>m3 (by simpa using z)
  rcases g6 with g6 | g6
  . have:=I.nc a y c b m1 g6;omega
  . omega
 refine Gc key ?_;rcases g5 with g5 | g5
 . left;exact mem_ends.mpr ⟨p.mem_iff.mpr g5,by simp only;omega,by simp only;omega⟩
 . by_cases z:ends a (a,b) ls'=[]
   . exact .inr ⟨z,by omega⟩
   . obtain ⟨y,hy⟩:=List.exists_mem_of_ne_nil _ z;have:=key y hy;obtain ⟨m1,m2,m3⟩:=mem_ends.mp hy;have:=I.lin a y (p.mem_iff.mp m1);omega
theorem CInv.beh2 (I:CInv n ls T) (p:ls'.Perm ls) (h:(a,c,b)∈T):mxD (c+1) (ends c (a,b) ls')=b:=by
 obtain ⟨g1,g2,g3,g4,g5,g6⟩:=I.tri a c b h;refine Gc (fun y hy=>(mem_ends.mp hy).2.1) ?_;rcases g6 with g6 | g6
 . left;exact mem_ends.mpr ⟨p.mem_iff.mpr g6,by simp only;omega,by simp only;omega⟩
 . by_cases z:ends c (a,b) ls'=[]
   . exact .inr ⟨z,by omega⟩
   . obtain ⟨y,hy⟩:=List.exists_mem_of_ne_nil _ z;obtain ⟨m1,m2,m3⟩:=mem_ends.mp hy;have:=I.lin c y (p.mem_iff.mp m1);simp only at m2;omega
def thr (T:List P3) (p:P2):P3:=(T.find? fun t=>decide (outer t=p)).getD (0,0,0)
theorem Pc {p:P2} (h:p∈T.map outer):thr T p∈T/\outer (thr T p)=p:=by
 obtain ⟨t,ht,e⟩:=List.mem_map.mp h;unfold thr;cases hf:T.find? fun t=>decide (outer t=p) with
 | none=>
  have:=List.find?_eq_none.mp hf t ht
  simp [e] at this
 | some u=>
  have h1:=List.mem_of_find?_eq_some hf
  have h2:=List.find?_some hf
  exact ⟨h1,by simpa using h2⟩
theorem CInv.thr_outer (I:CInv n ls T) {t:P3} (h:t∈T):thr T (outer t)=t:=by obtain ⟨h1,h2⟩:=Pc (T:=T) (List.mem_map.mpr ⟨t,h,rfl⟩);obtain ⟨a,c,b⟩:=t;generalize thr T (outer (a,c,b))=u at h1 h2;obtain ⟨a',c',b'⟩:=u;simp only [outer,Prod.mk.injEq] at h2;obtain ⟨rfl,rfl⟩:=h2;have e1:=I.beh1 (.refl _) h1;have e2:=I.beh1 (.refl _) h;rw [e1] at e2;rw [e2]
theorem CInv.tops (I:CInv n ls T) (p:ls'.Perm ls):(((0,n - 1)::ls').map (thr T)).Perm T:=by
 have q:((0,n - 1)::ls').Perm (T.map outer):=(p.cons _).trans I.prm.symm;refine (q.map (thr T)).trans ?_;rw [List.map_map];have:T.map (thr T∘outer)=T:=by
  conv=>rhs;rw [<-List.map_id T]
  exact List.map_congr_left fun t ht=>I.thr_outer ht
 rw [this]
theorem CInv.top_in (I:CInv n ls T) (p:ls'.Perm ls) {q:P2} (h:q∈(0,n - 1)::ls'):thr T q∈T/\outer (thr T q)=q:=
 Pc ((((p.cons _).trans I.prm.symm).mem_iff).mp h)
end
theorem sh_eq {c x y:Int}:(sh c x=sh c y)↔x=y:=⟨Fz,fun h=>by rw [h]⟩
end Cu
namespace Cu
open Bd (gR x5 Dg U1)
def ind (k:Int) (t:P3):Int:=(if k=t.1 then 1 else 0)+(if k=t.2.1 then 1 else 0)+(if k=t.2.2 then 1 else 0)
def c1 (k:Int):List P3->Int
 | []=>0
 | t::r=>ind k t+c1 k r
theorem Pb (k:Int):∀(a b:List P3),c1 k (a++b)=c1 k a+c1 k b
 | [],b=>by simp [c1]
 | t::a,b=>by simp only [List.cons_append,c1,Pb k a b];omega
theorem ki (c o:Int) (t:P3):ind (sh c o) (sh3 c t)=ind o t:=by simp only [ind,sh3,sh_eq]
theorem Mr (c o:Int):∀T:List P3,c1 (sh c o) (T.map (sh3 c))=c1 o T
 | []=>rfl
 | t::T=>by simp only [List.map_cons,c1,ki,Mr c o T]
theorem Pa (c:Int):∀T:List P3,c1 (c+1) (T.map (sh3 c))=0
 | []=>rfl
 | t::T=>by
  have h:∀x,¬(c+1=sh c x):=fun x=>by unfold sh;split<;>omega
  simp only [List.map_cons,c1,ind,sh3,h,if_false,Pa c T];rfl
def Rw (row:List Int) (T:List P3):Prop:=∀k,k<row.length->row.getD k 0=c1 (k:Int) T
theorem rw3:Rw [1,1,1] [(0,1,2)]:=by
 intro k hk
 match k,hk with
 | 0,_=>decide
 | 1,_=>decide
 | 2,_=>decide
theorem Rw.grow {row:List Int} {T:List P3} (h:Rw row T) (c:Nat) (hc:c<row.length) (hn:3<=row.length):Rw (x5 row c) (T.map (sh3 (c:Int))++[j1 (row.length:Int) (c:Int)]):=by
 intro k hk;rw [U1 row c hc] at hk;rw [Dg row c k hc (by omega) hk,Pb];unfold gR;by_cases a:k=c+1
 . subst a;rw [if_pos rfl,show ((c+1:Nat):Int)=(c:Int)+1 by omega,Pa];simp only [c1];by_cases q:(c:Int)=(row.length:Int) - 1
   . rw [show j1 (row.length:Int) (c:Int)=(0,(c:Int),(row.length:Int)) by unfold j1;rw [if_pos q]];simp only [ind];rw [if_neg (by omega),if_neg (by omega),if_pos (by omega)];rfl
   . rw [show j1 (row.length:Int) (c:Int)=((c:Int),(c:Int)+1,(c:Int)+2) by unfold j1;rw [if_neg q]];simp only [ind];rw [if_neg (by omega),if_pos (by first | trivial | rfl),if_neg (by omega)];rfl
 . rw [if_neg a];obtain ⟨o,ho,e⟩:∃o:Nat,(if k<=c then k else k - 1)=o/\((k:Int)=sh (c:Int) (o:Int)/\o<row.length):=by
    by_cases z:k<=c
    . exact ⟨k,by rw [if_pos z],by unfold sh;rw [if_neg (by omega)],by omega⟩
    . exact ⟨k - 1,by rw [if_neg z],by unfold sh;rw [if_pos (by omega)];omega,by omega⟩
   rw [ho];show row.getD o 0+(if o=c then 1 else 0)+(if o=(c+1) % row.length then 1 else 0)=_;rw [h o e.2,e.1,Mr];simp only [c1];have e1:=e.1;have e2:=e.2;by_cases q:(c:Int)=(row.length:Int) - 1
   . have m0:(c+1) % row.length=0:=by rw [show c+1=row.length by omega,Nat.mod_self]
     rw [show j1 (row.length:Int) (c:Int)=(0,(c:Int),(row.length:Int)) by unfold j1;rw [if_pos q],m0];simp only [ind];by_cases z1:o=c
     . rw [if_pos z1,if_neg (by omega),if_neg (by unfold sh;split<;>omega),if_pos (by unfold sh;split<;>omega),if_neg (by unfold sh;split<;>omega)];omega
     . by_cases z2:o=0
       . rw [if_neg z1,if_pos z2,if_pos (by unfold sh;split<;>omega),if_neg (by unfold sh;split<;>omega),if_neg (by unfold sh;split<;>omega)];omega
       . rw [if_neg z1,if_neg z2,if_neg (by unfold sh;split<;>omega),if_neg (by unfold sh;split<;>omega),if_neg (by unfold sh;split<;>omega)];omega
   . have m0:(c+1) % row.length=c+1:=Nat.mod_eq_of_lt (by omega);rw [show j1 (row.length:Int) (c:Int)=((c:Int),(c:Int)+1,(c:Int)+2) by unfold j1;rw [if_neg q],m0];simp only [ind];by_cases z1:o=c
     . rw [if_pos z1,if_neg (by omega),if_pos (by unfold sh;split<;>omega),if_neg (by unfold sh;split<;>omega),if_neg (by unfold sh;split<;>omega)];omega
     . by_cases z2:o=c+1
       . rw [if_neg z1,if_pos z2,if_neg (by unfold sh;split<;>omega),if_neg (by unfold sh;split<;>omega),if_pos (by unfold sh;split<;>omega)];omega
       . rw [if_neg z1,if_neg z2,if_neg (by unfold sh;split<;>omega),if_neg (by unfold sh;split<;>omega),if_neg (by unfold sh;split<;>omega)];omega
end Cu
namespace Bd
end Bd
namespace Cu
open L2 (so3 t6 soI xG ltT L Kb y6 Au Ho O7)
end Cu
namespace Cu
open L2 (so2 u9 Cs ltT T2 Srt J3 E6 y6 Et O7 Pp D)
def le2 (a b:P2):Prop:=a.1<b.1\/(a.1=b.1/\a.2<=b.2)
end Cu
namespace Cu
end Cu
namespace Cu
open L2 (so2 u9 Ud)
open Bd
open PySem (intBits_mul_le intBits_sub_le)
open PySem.Builtin.Int (intBits)
def bn (row:List Int) (i:Nat):Nat->Int
 | 0=>0
 | 1=>1
 | d+2=>row.getD ((i+(d+1)) % row.length) 0 * bn row i (d+1) - bn row i d
def shN (c p:Nat):Nat:=if p > c then p+1 else p
theorem Eo (n c:Nat) (v:Nat->Vc) (k:Nat) (h:k<=n):gV n c v k=gq n c v 0 k:=by have:=o9 n c v 0 k h;rwa [Nat.zero_mul,Nat.zero_add] at this
theorem By (n c:Nat) (v:Nat->Vc) (p:Nat) (hp:p<n):gV n c v (shN c p)=v p:=by
 unfold shN;by_cases h:p > c
 . rw [if_pos h,Eo _ _ _ _ (by omega),B7 _ _ _ _ _ (by omega),Nat.zero_mul,Nat.zero_add]
 . rw [if_neg h,Eo _ _ _ _ (by omega),v6 _ _ _ _ _ (by omega),Nat.zero_mul,Nat.zero_add]
theorem Oz (n c:Nat) (v:Nat->Vc) (hc:c<n):gV n c v (c+1)=ad (v c) (v (c+1)):=by rw [Eo _ _ _ _ (by omega),D8,Nat.zero_mul,Nat.zero_add]
end Cu
namespace Cu
open L2 (so2 u9 Ud so3 t6 Di Z6 ltT T3 Srt J3 E6 y6 W4 O7 Gd D)
open Bd
theorem Hh {α:Type} {r:α->α->Prop} (as:∀a b,r a b->¬r b a):∀{xs ys:List α},xs.Pairwise r->ys.Pairwise r->(∀x,x∈xs↔x∈ys)->xs=ys
 | [],[],_,_,_=>rfl
 | [],y::_,_,_,h=>by have:=(h y).mpr (by simp);cases this
 | x::_,[],_,_,h=>by have:=(h x).mp (by simp);cases this
 | x::xs,y::ys,hx,hy,h=>by
  rw [List.pairwise_cons] at hx hy;have e:x=y:=by
   rcases List.mem_cons.mp ((h x).mp (by simp)) with e | e
   . exact e
   . rcases List.mem_cons.mp ((h y).mpr (by simp)) with e' | e'
     . exact e'.symm
     . exact absurd (hy.1 x e) (as _ _ (hx.1 y e'))
  subst e;congr 1;refine Hh as hx.2 hy.2 fun z=>⟨fun m=>?_,fun m=>?_⟩
  . rcases List.mem_cons.mp ((h z).mp (List.mem_cons_of_mem _ m)) with e | e
    . subst e;exact absurd (hx.1 z m) (as _ _ (hx.1 z m))
    . exact e
  . rcases List.mem_cons.mp ((h z).mpr (List.mem_cons_of_mem _ m)) with e | e
    . subst e;exact absurd (hy.1 z m) (as _ _ (hy.1 z m))
    . exact e
def le3 (a b:P3):Prop:=a.1<b.1\/(a.1=b.1/\(a.2.1<b.2.1\/(a.2.1=b.2.1/\a.2.2<=b.2.2)))
theorem Oy (p q:P3):ltT (T3 p) (T3 q)=decide (p.1<q.1\/(p.1=q.1/\(p.2.1<q.2.1\/(p.2.1=q.2.1/\p.2.2<q.2.2)))):=by
 obtain ⟨a,b,c⟩:=p;obtain ⟨d,e,f⟩:=q;simp only [T3,L2.ltT,L2.ltTs,L2.eqD];by_cases h1:a=d
 . subst h1;by_cases h2:b=e
   . subst h2;by_cases h3:c=f
     . simp [h3]
     . simp [h3]
   . simp [h2]
 . simp [h1]
theorem Hg (xs:List P3):Srt (xs.map T3)↔xs.Pairwise le3:=by
 unfold Srt;rw [List.pairwise_map];constructor
 . exact fun h=>h.imp fun {a b} h=>by rw [Oy,decide_eq_false_iff_not] at h;unfold le3;omega
 . exact fun h=>h.imp fun {a b} h=>by rw [Oy,decide_eq_false_iff_not];unfold le3 at h;omega
theorem Fy (ls:List P3):(so3 ls).Pairwise le3:=by rw [<-Hg,<-Z6];exact E6 (y6 ls T3 W4)
theorem Ox {xs ls:List P3} (h:xs.Pairwise le3) (p:xs.Perm ls):xs=so3 ls:=by have:=J3 (y6 xs T3 W4) ((p.trans (t6 ls).symm).map T3) ((Hg xs).mpr h) ((Hg _).mpr (Fy ls));exact O7 (fun _ _=>Gd) this
theorem sh_lt {c x y:Int}:sh c x<sh c y↔x<y:=by unfold sh;split<;>split<;>omega
theorem kh (c:Int) (T:List P3):so3 (T.map (sh3 c))=(so3 T).map (sh3 c):=by
 refine (Ox ?_ ((t6 T).map _)).symm;rw [List.pairwise_map];refine (Fy T).imp fun {a b} h=>?_
 have key:∀x y:Int,(sh c x<sh c y↔x<y)/\(sh c x=sh c y↔x=y):=fun x y=>⟨sh_lt,sh_eq⟩
 have l3:sh c a.2.2<=sh c b.2.2↔a.2.2<=b.2.2:=by have:=sh_lt (c:=c) (x:=b.2.2) (y:=a.2.2);omega
 unfold le3 at h ⊢;simp only [sh3,(key _ _).1,(key _ _).2,l3];exact h
theorem xj {c:Int} {T:List P3} {t:P3} (ht:t∉T.map (sh3 c)):∃A B,so3 T=A++B/\so3 (T.map (sh3 c)++[t])=A.map (sh3 c)++t::B.map (sh3 c):=by
 have hm:t∈so3 (T.map (sh3 c)++[t]):=(t6 _).mem_iff.mpr (by simp);obtain ⟨A',B',e⟩:=List.append_of_mem hm;have p1:(A'++t::B').Perm (t::T.map (sh3 c)):=by rw [<-e];exact (t6 _).trans (List.perm_append_comm (l₁:=T.map (sh3 c)) (l₂:=[t]))
 have p2:(A'++B').Perm (T.map (sh3 c)):=(List.perm_middle.symm.trans p1).cons_inv;have pw:(A'++B').Pairwise le3:=by have:=Fy (T.map (sh3 c)++[t]);rw [e] at this;exact this.sublist (List.Sublist.append (List.Sublist.refl _) (List.sublist_cons_self _ _))
 have e2:=Ox pw p2;rw [kh] at e2;obtain ⟨A,B,h1,h2,h3⟩:=List.map_eq_append_iff.mp e2.symm;exact ⟨A,B,h1,by rw [e,h2,h3]⟩
def lx:List Int->List Int->Prop
 | c::x,d::y=>c<d\/(c=d/\lx x y)
 | _,_=>False
theorem Bn:∀a b,lx a b->¬lx b a
 | [],[],h=>by simp [lx] at h
 | [],_::_,h=>by simp [lx] at h
 | _::_,[],h=>by simp [lx] at h
 | c::x,d::y,h=>by
  simp only [lx] at h ⊢;rcases h with h | ⟨rfl,h⟩
  . omega
  . intro q;rcases q with q | ⟨_,q⟩
    . omega
    . exact Bn x y h q
theorem Ow:∀{a b:List Int} (u w:List Int),lx a b->lx (a++u) (b++w)
 | [],[],u,w,h=>by simp [lx] at h
 | [],_::_,u,w,h=>by simp [lx] at h
 | _::_,[],u,w,h=>by simp [lx] at h
 | c::x,d::y,u,w,h=>by simp only [lx,List.cons_append] at h ⊢;exact h.imp id fun ⟨e,q⟩=>⟨e,Ow u w q⟩
theorem Ri:∀(g:List Int) {c d:Int},c<d->lx (g++[c]) (g++[d])
 | [],c,d,h=>by simp only [List.nil_append,lx];exact Or.inl h
 | a::g,c,d,h=>by simp only [List.cons_append,lx];exact Or.inr ⟨trivial,Ri g h⟩
theorem Ov {f:Int->Int} (hf:∀x y,x<y->f x<f y):∀{a b:List Int},lx a b->lx (a.map f) (b.map f)
 | [],[],h=>by simp [lx] at h
 | [],_::_,h=>by simp [lx] at h
 | _::_,[],h=>by simp [lx] at h
 | c::x,d::y,h=>by
  simp only [lx,List.map_cons] at h ⊢;rcases h with h | ⟨rfl,h⟩
  . exact Or.inl (hf _ _ h)
  . exact Or.inr ⟨rfl,Ov hf h⟩
def cor (t:P3):List Int:=[t.1,t.2.1,t.2.2]
def xt (E:List Int) (t:P3) (g:List Int):List (List Int):=(((cor t).filter fun c=>decide (c∉E)).filter fun c=>decide (c∉g)).map fun c=>g++[c]
def Sg (E:List Int):List P3->List (List Int)->List (List Int)
 | [],B=>B
 | t::ts,B=>Sg E ts (B.flatMap (xt E t))
def Sh (E:List Int) (ts:List P3):List (List Int):=Sg E ts [[]]
def Al:List Int->List P3->Prop
 | [],[]=>True
 | c::x,t::ts=>c∈cor t/\Al x ts
 | _,_=>False
theorem Al.len:∀{x:List Int} {ts:List P3},Al x ts->x.length=ts.length
 | [],[],_=>rfl
 | [],_::_,h=>by simp [Al] at h
 | _::_,[],h=>by simp [Al] at h
 | c::x,t::ts,h=>by simp only [Al] at h;simp only [List.length_cons,h.2.len]
def Vd (E:List Int) (ts:List P3) (x:List Int):Prop:=Al x ts/\x.Nodup/\∀c∈x,c∉E
theorem mem_xt {E:List Int} {t:P3} {g x:List Int}:x∈xt E t g↔∃c∈cor t,c∉E/\c∉g/\x=g++[c]:=by unfold xt;simp only [List.mem_map,List.mem_filter,decide_eq_true_eq];exact ⟨fun ⟨c,⟨⟨h1,h2⟩,h3⟩,e⟩=>⟨c,h1,h2,h3,e.symm⟩,fun ⟨c,h1,h2,h3,e⟩=>⟨c,⟨⟨h1,h2⟩,h3⟩,e.symm⟩⟩
theorem Ou (E:List Int):∀(ts:List P3) (B:List (List Int)) (x:List Int),x∈Sg E ts B↔∃g∈B,∃y,x=g++y/\Al y ts/\y.Nodup/\(∀c∈y,c∉g)/\∀c∈y,c∉E
 | [],B,x=>by
  simp only [Sg];constructor
  . intro h;exact ⟨x,h,[],by simp,trivial,List.nodup_nil,by simp,by simp⟩
  . rintro ⟨g,hg,y,rfl,ha,_⟩;cases y with
    | nil=>simpa using hg
    | cons=>simp [Al] at ha
 | t::ts,B,x=>by
  simp only [Sg];rw [Ou E ts];constructor
  . rintro ⟨g',hg',y,rfl,ha,hn,h1,h2⟩;obtain ⟨g,hg,hx⟩:=List.mem_flatMap.mp hg';obtain ⟨c,hc,hE,hcg,rfl⟩:=mem_xt.mp hx;refine ⟨g,hg,c::y,by simp,⟨hc,ha⟩,List.nodup_cons.mpr ⟨fun m=>h1 c m (by simp),hn⟩,fun d hd=>?_,fun d hd=>?_⟩
    . rcases List.mem_cons.mp hd with rfl | hd
      . exact hcg
      . exact fun m=>h1 d hd (by simp [m])
    . rcases List.mem_cons.mp hd with rfl | hd
      . exact hE
      . exact h2 d hd
  . rintro ⟨g,hg,y,rfl,ha,hn,h1,h2⟩;cases y with
    | nil=>simp [Al] at ha
    | cons c y=>
     simp only [Al] at ha
     rw [List.nodup_cons] at hn
     refine ⟨g++[c],List.mem_flatMap.mpr ⟨g,hg,mem_xt.mpr ⟨c,ha.1,h2 c (by simp),h1 c (by simp),rfl⟩⟩,y,by simp,ha.2,hn.2,fun d hd m=>?_,fun d hd=>h2 d (by simp [hd])⟩
     rcases List.mem_append.mp m with m | m
     . exact h1 d (by simp [hd]) m
     . rw [List.mem_singleton] at m;subst m;exact hn.1 hd
theorem mem_Sh {E:List Int} {ts:List P3} {x:List Int}:x∈Sh E ts↔Vd E ts x:=by
 unfold Sh Vd;rw [Ou];constructor
 . rintro ⟨g,hg,y,rfl,ha,hn,_,h2⟩;rw [List.mem_singleton] at hg;subst hg;exact ⟨ha,hn,h2⟩
 . rintro ⟨ha,hn,h2⟩;exact ⟨[],by simp,x,rfl,ha,hn,by simp,h2⟩
def Asc (ts:List P3):Prop:=∀t∈ts,t.1<t.2.1/\t.2.1<t.2.2
theorem Mq (E:List Int):∀(ts:List P3) (B:List (List Int)) (m:Nat),Asc ts->(∀g∈B,g.length=m)->B.Pairwise lx->(Sg E ts B).Pairwise lx
 | [],B,m,_,_,h=>h
 | t::ts,B,m,ha,hl,h=>by
  have ht:=ha t (by simp);simp only [Sg];refine Mq E ts _ (m+1) (fun u hu=>ha u (by simp [hu])) (fun g' hg'=>?_) ?_
  . obtain ⟨g,hg,hx⟩:=List.mem_flatMap.mp hg';obtain ⟨c,_,_,_,rfl⟩:=mem_xt.mp hx;rw [List.length_append,hl g hg,List.length_singleton]
  . rw [List.pairwise_flatMap];refine ⟨fun g hg=>?_,h.imp_of_mem fun {g g'} hg hg' q x hx y hy=>?_⟩
    . unfold xt;rw [List.pairwise_map];have:(cor t).Pairwise (·<·):=by unfold cor;simp only [List.pairwise_cons,List.mem_cons,List.not_mem_nil,or_false,forall_eq_or_imp,forall_eq,List.Pairwise.nil,and_true,false_imp_iff,implies_true];omega
      exact ((this.sublist List.filter_sublist).sublist List.filter_sublist).imp fun {c d} q=>Ri g q
    . obtain ⟨c,_,_,_,rfl⟩:=mem_xt.mp hx;obtain ⟨d,_,_,_,rfl⟩:=mem_xt.mp hy;exact Ow _ _ q
theorem W0 {E:List Int} {ts:List P3} (ha:Asc ts):(Sh E ts).Pairwise lx:=Mq E ts [[]] 0 ha (by simp) (List.pairwise_singleton _ _)
theorem xi {E E':List Int} (h:∀k,k∈E↔k∈E') {ts:List P3} (ha:Asc ts):Sh E ts=Sh E' ts:=
 Hh Bn (W0 ha) (W0 ha) fun x=>by rw [mem_Sh,mem_Sh];unfold Vd;simp only [h]
def r0:Nat->Int->List Int->List Int
 | 0,w,y=>w::y
 | k+1,w,c::y=>c::r0 k w y
 | _+1,w,[]=>[w]
theorem O6:∀(k:Nat) (w:Int) (y:List Int),(r0 k w y).Perm (w::y)
 | 0,w,y=>.refl _
 | k+1,w,c::y=>by simp only [r0];exact ((O6 k w y).cons c).trans (List.Perm.swap w c y)
 | _+1,w,[]=>.refl _
theorem T0:∀(k:Nat) (w:Int) (y:List Int),k<=y.length->(r0 k w y).getD k 0=w
 | 0,w,y,_=>rfl
 | k+1,w,c::y,h=>by simp only [r0,List.getD_cons_succ];exact T0 k w y (by simpa using h)
 | k+1,w,[],h=>by simp at h
theorem Ot:∀(k:Nat) (w:Int) {y z:List Int},lx y z->lx (r0 k w y) (r0 k w z)
 | 0,w,y,z,h=>by simp only [r0,lx];exact Or.inr ⟨trivial,h⟩
 | k+1,w,[],[],h=>by simp [lx] at h
 | k+1,w,[],_::_,h=>by simp [lx] at h
 | k+1,w,_::_,[],h=>by simp [lx] at h
 | k+1,w,c::y,d::z,h=>by simp only [lx,r0] at h ⊢;exact h.imp id fun ⟨e,q⟩=>⟨e,Ot k w q⟩
theorem X9 (t:P3) (w:Int) (B:List P3):∀(A:List P3) (y:List Int),y.length=A.length+B.length->(Al (r0 A.length w y) (A++t::B)↔w∈cor t/\Al y (A++B))
 | [],y,_=>by simp only [List.length_nil,r0,List.nil_append,Al]
 | a::A,[],h=>by simp at h;omega
 | a::A,c::y,h=>by simp only [List.length_cons,r0,List.cons_append,Al];rw [X9 t w B A y (by simp only [List.length_cons] at h;omega)];exact ⟨fun ⟨h1,h2,h3⟩=>⟨h2,h1,h3⟩,fun ⟨h2,h1,h3⟩=>⟨h1,h2,h3⟩⟩
theorem Ad (t:P3) (B:List P3):∀(A:List P3) (x:List Int),Al x (A++t::B)->∃w y,x=r0 A.length w y/\y.length=A.length+B.length
 | [],[],h=>by simp [Al] at h
 | [],w::y,h=>⟨w,y,rfl,by simp only [List.nil_append,Al] at h;simp [h.2.len]⟩
 | a::A,[],h=>by simp [Al] at h
 | a::A,c::x,h=>by simp only [List.cons_append,Al] at h;obtain ⟨w,y,e,hl⟩:=Ad t B A x h.2;exact ⟨w,c::y,by simp only [List.length_cons,r0,e],by simp only [List.length_cons,hl];omega⟩
theorem kg {c k:Int} {t:P3}:sh c k∈cor (sh3 c t)↔k∈cor t:=by unfold cor sh3;simp only [List.mem_cons,List.not_mem_nil,or_false,sh_eq]
theorem En (c:Int):∀{y:List Int} {ts:List P3},Al (y.map (sh c)) (ts.map (sh3 c))↔Al y ts
 | [],[]=>Iff.rfl
 | [],_::_=>by simp [Al]
 | _::_,[]=>by simp [Al]
 | k::y,t::ts=>by simp only [List.map_cons,Al,kg,En c]
theorem Hf (c:Int):∀{x:List Int} {ts:List P3},Al x (ts.map (sh3 c))->∃y:List Int,x=y.map (sh c)
 | [],[],_=>⟨[],rfl⟩
 | [],_::_,h=>by simp [Al] at h
 | _::_,[],h=>by simp [Al] at h
 | k::x,t::ts,h=>by
  simp only [List.map_cons,Al] at h;obtain ⟨y,e⟩:=Hf c h.2;have:∃j,k=sh c j:=by have:=h.1;unfold cor sh3 at this;simp only [List.mem_cons,List.not_mem_nil,or_false] at this;rcases this with e | e | e<;>exact ⟨_,e⟩
  obtain ⟨j,e2⟩:=this;exact ⟨j::y,by rw [e,e2];rfl⟩
theorem nd_map_sh {c:Int} {y:List Int}:(y.map (sh c)).Nodup↔y.Nodup:=by
 constructor
 . intro h;exact (List.pairwise_map.mp h).imp fun {a b} q e=>q (by rw [e])
 . intro h;exact List.pairwise_map.mpr (h.imp fun {a b} q e=>q (sh_eq.mp e))
theorem mem_map_sh {c k:Int} {y:List Int}:sh c k∈y.map (sh c)↔k∈y:=by rw [List.mem_map];exact ⟨fun ⟨j,hj,e⟩=>sh_eq.mp e ▸ hj,fun h=>⟨k,h,rfl⟩⟩
theorem Asc.sh {ts:List P3} (h:Asc ts) (c:Int):Asc (ts.map (sh3 c)):=fun t ht=>by obtain ⟨u,hu,rfl⟩:=List.mem_map.mp ht;have:=h u hu;simp only [sh3,sh_lt];exact this
section
variable {E E0:List Int} {c w:Int} {A B:List P3} {t:P3}
theorem Os (ha:Asc (A++B)) (htA:t.1<t.2.1/\t.2.1<t.2.2) (hw:w∈cor t) (hwE:w∉E) (hE:∀k,sh c k∈w::E↔k∈E0) :
  (Sh E (A.map (sh3 c)++t::B.map (sh3 c))).filter (fun x=>decide (x.getD A.length 0=w))=(Sh E0 (A++B)).map (fun (y:List Int)=>r0 A.length w (y.map (sh c))):=by
 have hA:Asc (A.map (sh3 c)++t::B.map (sh3 c)):=fun u hu=>by
  rcases List.mem_append.mp hu with h | h
  . exact Asc.sh (ts:=A) (fun t ht=>ha t (by simp [ht])) c u h
  . rcases List.mem_cons.mp h with rfl | h
    . exact htA
    . exact Asc.sh (ts:=B) (fun t ht=>ha t (by simp [ht])) c u h
 refine Hh Bn ((W0 hA).sublist List.filter_sublist) ?_ fun x=>?_
 . rw [List.pairwise_map];exact (W0 ha).imp fun {y z} q=>Ot _ _ (Ov (fun _ _=>sh_lt.mpr) q)
 . rw [List.mem_filter,List.mem_map,mem_Sh,decide_eq_true_eq];constructor
   . rintro ⟨⟨h1,h2,h3⟩,h4⟩;obtain ⟨w',y',rfl,hl⟩:=Ad t _ _ x h1;rw [List.length_map] at *;rw [List.length_map] at hl;rw [T0 _ _ _ (by omega)] at h4;subst h4;have pm:=O6 A.length w' y';have hal:=(X9 t w' (B.map (sh3 c)) (A.map (sh3 c)) y' (by rw [List.length_map,List.length_map];exact hl)).mp (by rw [List.length_map];exact h1);rw [<-List.map_append] at hal;obtain ⟨y,rfl⟩:=Hf c hal.2;have nd:=pm.nodup_iff.mp h2;rw [List.nodup_cons] at nd;refine ⟨y,mem_Sh.mpr ⟨(En c).mp hal.2,nd_map_sh.mp nd.2,fun k hk hk0=>?_⟩,rfl⟩;have m1:sh c k∈y.map (sh c):=mem_map_sh.mpr hk;rcases List.mem_cons.mp ((hE k).mpr hk0) with e | e
     . exact nd.1 (e ▸ m1)
     . exact h3 _ (pm.mem_iff.mpr (by simp [m1])) e
   . rintro ⟨y,hy,rfl⟩;obtain ⟨h1,h2,h3⟩:=mem_Sh.mp hy;have hl:(y.map (sh c)).length=A.length+B.length:=by rw [List.length_map,h1.len,List.length_append]
     have pm:=O6 A.length w (y.map (sh c));refine ⟨⟨?_,pm.nodup_iff.mpr (List.nodup_cons.mpr ⟨fun m=>?_,nd_map_sh.mpr h2⟩),fun d hd=>?_⟩,T0 _ _ _ (by omega)⟩
     . have:=(X9 t w (B.map (sh3 c)) (A.map (sh3 c)) (y.map (sh c)) (by rw [hl,List.length_map,List.length_map])).mpr ⟨hw,by rw [<-List.map_append];exact (En c).mpr h1⟩;rw [List.length_map] at this;exact this
     . obtain ⟨k,hk,e⟩:=List.mem_map.mp m;exact h3 k hk ((hE k).mp (by rw [e];simp))
     . rcases List.mem_cons.mp (pm.mem_iff.mp hd) with rfl | hd
       . exact hwE
       . obtain ⟨k,hk,rfl⟩:=List.mem_map.mp hd;exact fun m=>h3 k hk ((hE k).mp (by simp [m]))
theorem vx (hwE:w∈E):(Sh E (A.map (sh3 c)++t::B.map (sh3 c))).filter (fun x=>decide (x.getD A.length 0=w))=[]:=by rw [List.filter_eq_nil_iff];intro x hx;rw [decide_eq_true_eq];obtain ⟨h1,h2,h3⟩:=mem_Sh.mp hx;obtain ⟨w',y',rfl,hl⟩:=Ad t _ _ x h1;rw [List.length_map] at *;rw [List.length_map] at hl;rw [T0 _ _ _ (by omega)];rintro rfl;exact h3 _ ((O6 A.length w' y').mem_iff.mpr (by simp)) hwE
theorem ke {x:List Int} (hx:x∈Sh E (A.map (sh3 c)++t::B.map (sh3 c))):x.getD A.length 0∈cor t/\x.getD A.length 0∉E/\x.length=A.length+B.length+1:=by obtain ⟨h1,h2,h3⟩:=mem_Sh.mp hx;obtain ⟨w',y',rfl,hl⟩:=Ad t _ _ x h1;rw [List.length_map] at *;rw [List.length_map] at hl;rw [T0 _ _ _ (by omega)];have hal:=(X9 t w' (B.map (sh3 c)) (A.map (sh3 c)) y' (by rw [List.length_map,List.length_map];exact hl)).mp (by rw [List.length_map];exact h1);refine ⟨hal.1,h3 _ ((O6 A.length w' y').mem_iff.mpr (by simp)),?_⟩;rw [(O6 A.length w' y').length_eq,List.length_cons,hl]
end
theorem Bx:∀{xs ys:List Int},xs.Nodup->(∀x∈xs,x∈ys)->xs.length<=ys.length
 | [],_,_,_=>Nat.zero_le _
 | x::xs,ys,h,k=>by
  rw [List.nodup_cons] at h;have hx:=k x (by simp);have:=Bx (ys:=ys.erase x) h.2 fun z hz=>(List.mem_erase_of_ne (fun e:z=x=>h.1 (by rw [<-e];exact hz))).mpr (k z (by simp [hz]))
  rw [List.length_erase_of_mem hx] at this;have:0<ys.length:=List.length_pos_of_mem hx;rw [List.length_cons];omega
theorem Al.mem:∀{x:List Int} {ts:List P3},Al x ts->∀k∈x,∃u∈ts,k∈cor u
 | [],_,_,k,hk=>by cases hk
 | _::_,[],h,_,_=>by simp [Al] at h
 | c::x,t::ts,h,k,hk=>by
  simp only [Al] at h;rcases List.mem_cons.mp hk with rfl | hk
  . exact ⟨t,by simp,h.1⟩
  . obtain ⟨u,hu,hm⟩:=h.2.mem k hk;exact ⟨u,by simp [hu],hm⟩
def en1 (n c:Int):Int:=if c=n - 1 then 0 else c
def en2 (n c:Int):Int:=if c=n - 1 then c else c+1
theorem Co {n c k:Int} (hn:3<=n) (h0:0<=c) (h1:c<n):k∈cor (j1 n c)↔k=sh c (en1 n c)\/k=sh c (en2 n c)\/k=c+1:=by
 unfold j1 en1 en2 cor sh;by_cases h:c=n - 1
 . simp only [if_pos h,List.mem_cons,List.not_mem_nil,or_false];rw [if_neg (by omega),if_neg (by omega)];omega
 . simp only [if_neg h,List.mem_cons,List.not_mem_nil,or_false];rw [if_neg (by omega),if_pos (by omega)];omega
theorem y1l {n c:Int} (hn:3<=n) (h0:0<=c) (h1:c<n):en1 n c≠en2 n c:=by unfold en1 en2;split<;>omega
theorem nsh {c k:Int}:sh c k≠c+1:=by unfold sh;split<;>omega
structure Gr (n:Nat) (c:Nat) (A B:List P3):Prop where
 n3:3<=n
 hc:c<n
 asc:Asc (A++B)
 bd:∀u∈A++B,∀k∈cor u,0<=k/\k<n
 len:A.length+B.length+2=n
section
variable {n c:Nat} {A B:List P3}
theorem Gr.tri (G:Gr n c A B):(j1 (n:Int) c).1<(j1 (n:Int) c).2.1/\(j1 (n:Int) c).2.1<(j1 (n:Int) c).2.2:=by have:=G.n3;have:=G.hc;unfold j1;split<;>simp only<;>omega
def grw (n c:Nat) (A B:List P3):List P3:=A.map (sh3 (c:Int))++j1 (n:Int) (c:Int)::B.map (sh3 (c:Int))
theorem Gr.bd' (G:Gr n c A B):∀u∈grw n c A B,∀k∈cor u,0<=k/\k<=n:=by
 have hn:=G.n3;have hc:=G.hc;have aux:∀u∈A++B,∀k∈cor (sh3 (c:Int) u),0<=k/\k<=n:=fun u hu k hk=>by
  have:∃j,k=sh (c:Int) j/\j∈cor u:=by
   unfold cor sh3 at hk;simp only [List.mem_cons,List.not_mem_nil,or_false] at hk;rcases hk with e | e | e
   . exact ⟨_,e,by simp [cor]⟩
   . exact ⟨_,e,by simp [cor]⟩
   . exact ⟨_,e,by simp [cor]⟩
  obtain ⟨j,rfl,hj⟩:=this;have:=G.bd u hu j hj;unfold sh;split<;>omega
 intro u hu k hk;unfold grw at hu;rcases List.mem_append.mp hu with h | h
 . obtain ⟨w,hw,rfl⟩:=List.mem_map.mp h;exact aux w (by simp [hw]) k hk
 . rcases List.mem_cons.mp h with rfl | h
   . unfold cor j1 at hk;split at hk<;>simp only [List.mem_cons,List.not_mem_nil,or_false] at hk<;>omega
   . obtain ⟨w,hw,rfl⟩:=List.mem_map.mp h;exact aux w (by simp [hw]) k hk
theorem Gr.new (G:Gr n c A B) {i j:Int} (hi:0<=i/\i<n) (hj:0<=j/\j<n) (hij:i≠j) {x:List Int} (hx:x∈Sh [sh (c:Int) i,sh (c:Int) j] (grw n c A B)):x.getD A.length 0=(c:Int)+1:=by
 have hn:=G.n3;have hc:=G.hc;have hlen:=G.len;obtain ⟨h1,h2,h3⟩:=mem_Sh.mp hx;have hm:((c:Int)+1)∈x:=by
  refine Classical.byContradiction fun hno=>?_
  have nd:(((c:Int)+1)::sh (c:Int) i::sh (c:Int) j::x).Nodup:=by simp only [List.nodup_cons,List.mem_cons,not_or];exact ⟨⟨fun e=>nsh e.symm,fun e=>nsh e.symm,hno⟩,⟨fun e=>hij (sh_eq.mp e),fun m=>h3 _ m (by simp)⟩,fun m=>h3 _ m (by simp),h2⟩
  have:=Bx (ys:=(List.range (n+1)).map fun (k:Nat)=>(k:Int)) nd fun z hz=>by
   rw [List.mem_map];have hz':0<=z/\z<=n:=by
    simp only [List.mem_cons] at hz;rcases hz with rfl | rfl | rfl | hz
    . omega
    . unfold sh;split<;>omega
    . unfold sh;split<;>omega
    . obtain ⟨u,hu,hk⟩:=h1.mem z hz;exact G.bd' u hu z hk
   exact ⟨z.toNat,by rw [List.mem_range];omega,by omega⟩
  rw [List.length_map,List.length_range] at this;simp only [List.length_cons] at this;have hl:=h1.len;unfold grw at hl;rw [List.length_append,List.length_cons,List.length_map,List.length_map] at hl;omega
 unfold grw at h1;obtain ⟨w,y,rfl,hl⟩:=Ad _ _ _ x h1;rw [List.length_map] at *;rw [List.length_map] at hl;rw [T0 _ _ _ (by omega)];have hal:=(X9 (j1 (n:Int) c) w (B.map (sh3 c)) (A.map (sh3 c)) y (by rw [List.length_map,List.length_map];exact hl)).mp (by rw [List.length_map];exact h1);rw [<-List.map_append] at hal;obtain ⟨y',rfl⟩:=Hf (c:Int) hal.2;rcases List.mem_cons.mp ((O6 A.length w _).mem_iff.mp hm) with e | e
 . exact e.symm
 . obtain ⟨k,_,e⟩:=List.mem_map.mp e;exact absurd e nsh
theorem Gr.old (G:Gr n c A B) {i j:Int} (hi:0<=i/\i<n) (hj:0<=j/\j<n) (hij:i≠j) :
  Sh [sh (c:Int) i,sh (c:Int) j] (grw n c A B)=(Sh [i,j] (A++B)).map fun (y:List Int)=>r0 A.length ((c:Int)+1) (y.map (sh (c:Int))):=by
 have hn:=G.n3
 have hc:=G.hc
 have e:=Os (E:=[sh (c:Int) i,sh (c:Int) j]) (E0:=[i,j]) (c:=(c:Int)) (w:=(c:Int)+1) (t:=j1 (n:Int) c) G.asc G.tri ((Co (by omega) (by omega) (by omega)).mpr (Or.inr (Or.inr rfl)))
  (by simp only [List.mem_cons,List.not_mem_nil,or_false];rintro (h | h)<;>exact nsh h.symm)
  (fun k=>by simp only [List.mem_cons,List.not_mem_nil,or_false,sh_eq];exact ⟨fun h=>h.elim (fun h=>absurd h nsh) id,Or.inr⟩)
 rw [<-e,List.filter_eq_self.mpr]
 . rfl
 . exact fun x hx=>decide_eq_true (G.new hi hj hij hx)
theorem Gr.at (G:Gr n c A B) {e j:Int} (he:e=en1 n c\/e=en2 n c) (hej:e≠j) :
  (Sh [(c:Int)+1,sh (c:Int) j] (grw n c A B)).filter (fun x=>decide (x.getD A.length 0=sh (c:Int) e))=(Sh [e,j] (A++B)).map fun (y:List Int)=>r0 A.length (sh (c:Int) e) (y.map (sh (c:Int))):=by
 have hn:=G.n3
 have hc:=G.hc
 refine Os (E:=[(c:Int)+1,sh (c:Int) j]) (E0:=[e,j]) (c:=(c:Int)) (w:=sh (c:Int) e) (t:=j1 (n:Int) c) G.asc G.tri ((Co (by omega) (by omega) (by omega)).mpr ?_) ?_ fun k=>?_
 . rcases he with rfl | rfl
   . exact Or.inl rfl
   . exact Or.inr (Or.inl rfl)
 . simp only [List.mem_cons,List.not_mem_nil,or_false];rintro (h | h)
   . exact nsh h
   . exact hej (sh_eq.mp h)
 . simp only [List.mem_cons,List.not_mem_nil,or_false,sh_eq];exact ⟨fun h=>h.imp id fun h=>h.elim (fun h=>absurd h nsh) id,fun h=>h.imp id Or.inr⟩
theorem Gr.at0 (n c:Nat) (A B:List P3) (j:Int):(Sh [(c:Int)+1,sh (c:Int) j] (grw n c A B)).filter (fun x=>decide (x.getD A.length 0=sh (c:Int) j))=[]:=vx (by simp)
theorem Gr.two (G:Gr n c A B) {j:Int} {x:List Int} (hx:x∈Sh [(c:Int)+1,sh (c:Int) j] (grw n c A B)):x.getD A.length 0=sh (c:Int) (en1 n c)\/x.getD A.length 0=sh (c:Int) (en2 n c):=by
 have hn:=G.n3;have hc:=G.hc;obtain ⟨h1,h2,_⟩:=ke hx;rcases (Co (by omega) (by omega) (by omega)).mp h1 with h | h | h
 . exact Or.inl h
 . exact Or.inr h
 . exact absurd (by rw [h];simp) h2
theorem Rh {α:Type} (p:α->Bool):∀l:List α,l.length=(l.filter p).length+(l.filter fun x=>!p x).length
 | []=>rfl
 | a::l=>by
  have:=Rh p l;cases h:p a
  . rw [List.filter_cons_of_neg (by simp [h]),List.filter_cons_of_pos (by simp [h]),List.length_cons,List.length_cons];omega
  . rw [List.filter_cons_of_pos h,List.filter_cons_of_neg (by simp [h]),List.length_cons,List.length_cons];omega
def cn (i j:Int) (ts:List P3):Nat:=if i=j then 0 else (Sh [i,j] ts).length
theorem y1m {i j:Int} {ts:List P3} (ha:Asc ts):cn i j ts=cn j i ts:=by
 unfold cn;by_cases h:i=j
 . rw [if_pos h,if_pos h.symm]
 . rw [if_neg h,if_neg (fun e=>h e.symm),xi (E':=[j,i]) (fun k=>by simp only [List.mem_cons,List.not_mem_nil,or_false];exact Or.comm) ha]
theorem Gr.cold (G:Gr n c A B) {i j:Int} (hi:0<=i/\i<n) (hj:0<=j/\j<n):cn (sh (c:Int) i) (sh (c:Int) j) (grw n c A B)=cn i j (A++B):=by
 unfold cn;by_cases h:i=j
 . rw [if_pos h,if_pos (by rw [h])]
 . rw [if_neg h,if_neg (fun e=>h (sh_eq.mp e)),G.old hi hj h,List.length_map]
theorem Gr.cnew (G:Gr n c A B) (j:Int):cn ((c:Int)+1) (sh (c:Int) j) (grw n c A B)=cn (en1 n c) j (A++B)+cn (en2 n c) j (A++B):=by
 have hn:=G.n3;have hc:=G.hc;have one:∀e,(e=en1 n c\/e=en2 n c)->((Sh [(c:Int)+1,sh (c:Int) j] (grw n c A B)).filter (fun x=>decide (x.getD A.length 0=sh (c:Int) e))).length=cn e j (A++B):=fun e he=>by
  unfold cn;by_cases h:e=j
  . rw [if_pos h,h,Gr.at0];rfl
  . rw [if_neg h,G.at he h,List.length_map]
 rw [<-one _ (Or.inl rfl),<-one _ (Or.inr rfl)];show (if _ then _ else _)=_;rw [if_neg (fun e=>nsh e.symm)];have hne:=y1l (n:=(n:Int)) (c:=(c:Int)) (by omega) (by omega) (by omega);generalize hl:Sh [(c:Int)+1,sh (c:Int) j] (grw n c A B)=l;rw [Rh (fun x=>decide (x.getD A.length 0=sh (c:Int) (en1 n c))) l];congr 2;refine List.filter_congr fun x hx=>?_
 rw [<-hl] at hx;rcases G.two hx with h | h
 . rw [h,decide_eq_true rfl,decide_eq_false fun e=>hne (sh_eq.mp e)];rfl
 . rw [h,decide_eq_false fun e=>hne (sh_eq.mp e).symm,decide_eq_true rfl];rfl
end
def mm (v:Nat->Vc) (p q:Nat):Int:=dt (v (min p q)) (v (max p q))
theorem N8 (v:Nat->Vc) (p q:Nat):mm v p q=mm v q p:=by unfold mm;rw [Nat.min_comm,Nat.max_comm]
theorem Oq (n c:Nat) (v:Nat->Vc) (p q:Nat) (hp:p<n) (hq:q<n):mm (gV n c v) (shN c p) (shN c q)=mm v p q:=by
 unfold mm;rw [show min (shN c p) (shN c q)=shN c (min p q) by unfold shN;split<;>split<;>split<;>omega,show max (shN c p) (shN c q)=shN c (max p q) by unfold shN;split<;>split<;>split<;>omega,
  By _ _ _ _ (by omega),By _ _ _ _ (by omega)]
theorem Op {n:Nat} {R:Nat->Int} {v:Nat->Vc} (F:Fr n R v) (hn:3<=n) (c p:Nat) (hc:c<n) (hp:p<n):mm (gV n c v) (c+1) (shN c p)=mm v c p+mm v ((c+1) % n) p:=by
 by_cases h:p<=c
 . have e:shN c p=p:=by unfold shN;rw [if_neg (by omega)]
   have:=By n c v p hp;rw [e] at this ⊢;unfold mm;rw [Nat.min_eq_right (show p<=c+1 by omega),Nat.max_eq_left (show p<=c+1 by omega),this,Oz _ _ _ hc,Z4,Nat.min_eq_right h,Nat.max_eq_left h];by_cases z:c+1=n
   . have t:=F.turn p 0;rw [Nat.zero_add] at t;rw [z,Nat.mod_self,Nat.min_eq_left (Nat.zero_le p),Nat.max_eq_right (Nat.zero_le p),t,Mu (v 0)];omega
   . rw [Nat.mod_eq_of_lt (show c+1<n by omega),Nat.min_eq_right (show p<=c+1 by omega),Nat.max_eq_left (show p<=c+1 by omega)]
 . have e:shN c p=p+1:=by unfold shN;rw [if_pos (by omega)]
   have:=By n c v p hp;rw [e] at this ⊢;unfold mm;rw [Nat.min_eq_left (show c+1<=p+1 by omega),Nat.max_eq_right (show c+1<=p+1 by omega),this,Oz _ _ _ hc,Cp,Nat.min_eq_left (show c<=p by omega),Nat.max_eq_right (show c<=p by omega),
    Nat.mod_eq_of_lt (show c+1<n by omega),Nat.min_eq_left (show c+1<=p by omega),Nat.max_eq_right (show c+1<=p by omega)]
theorem CInv.asc {n:Int} {ls:List P2} {T:List P3} (I:CInv n ls T):Asc (so3 T):=fun t ht=>by obtain ⟨a,c,b⟩:=t;have:=I.tri a c b ((t6 T).mem_iff.mp ht);exact ⟨this.2.1,this.2.2.1⟩
theorem CInv.tlen {n:Nat} {ls:List P2} {T:List P3} (I:CInv (n:Int) ls T) (hl:ls.length+3=n):T.length+2=n:=by have:=I.prm.length_eq;rw [List.length_map,List.length_cons] at this;omega
theorem Gr.of {n:Nat} {ls:List P2} {T:List P3} (I:CInv (n:Int) ls T) (hl:ls.length+3=n) (c:Nat) (hc:c<n) :
  ∃A B,so3 T=A++B/\so3 (T.map (sh3 (c:Int))++[j1 (n:Int) (c:Int)])=grw n c A B/\Gr n c A B:=by
 have h3:=I.n3
 have ht:j1 (n:Int) (c:Int)∉T.map (sh3 (c:Int)):=fun h=>by
  obtain ⟨u,_,e⟩:=List.mem_map.mp h;have:((c:Int)+1)∈cor (sh3 (c:Int) u):=by rw [e];exact (Co (by omega) (by omega) (by omega)).mpr (Or.inr (Or.inr rfl))
  unfold cor sh3 at this;simp only [List.mem_cons,List.not_mem_nil,or_false] at this;rcases this with e | e | e<;>exact nsh e.symm
 obtain ⟨A,B,h1,h2⟩:=xj ht
 refine ⟨A,B,h1,h2,by omega,hc,by rw [<-h1];exact I.asc,fun u hu k hk=>?_,?_⟩
 . rw [<-h1] at hu;obtain ⟨a,d,b⟩:=u;have:=I.tri a d b ((t6 T).mem_iff.mp hu);unfold cor at hk;simp only [List.mem_cons,List.not_mem_nil,or_false] at hk;omega
 . have:=I.tlen hl;rw [<-(t6 T).length_eq,h1,List.length_append] at this;exact this
def Sc (n:Nat) (T:List P3) (v:Nat->Vc):Prop:=∀i j:Nat,i<n->j<n->((cn (i:Int) (j:Int) (so3 T):Nat):Int)=mm v i j
theorem sc3:Sc 3 [(0,1,2)] v3:=by
 intro i j hi hj;rw [show so3 [((0:Int),(1:Int),(2:Int))]=[(0,1,2)] from rfl];have h1:i=0\/i=1\/i=2:=by omega
 have h2:j=0\/j=1\/j=2:=by omega
 rcases h1 with rfl | rfl | rfl<;>rcases h2 with rfl | rfl | rfl<;>decide
theorem Bw (c p:Nat):((shN c p:Nat):Int)=sh (c:Int) (p:Int):=by unfold shN sh;split<;>split<;>omega
theorem S8 {n c x:Nat} (hc:c<n) (hx:x<n+1):x=c+1\/∃y,y<n/\x=shN c y:=by
 by_cases h:x<=c
 . exact Or.inr ⟨x,by omega,by unfold shN;rw [if_neg (by omega)]⟩
 . by_cases h':x=c+1
   . exact Or.inl h'
   . exact Or.inr ⟨x - 1,by omega,by unfold shN;rw [if_pos (by omega)];omega⟩
theorem Sc.grow {n:Nat} {R:Nat->Int} {ls:List P2} {T:List P3} {v:Nat->Vc} (C:Sc n T v) (F:Fr n R v) (I:CInv (n:Int) ls T) (hl:ls.length+3=n) (c:Nat) (hc:c<n) :
  Sc (n+1) (T.map (sh3 (c:Int))++[j1 (n:Int) (c:Int)]) (gV n c v):=by
 have h3:3<=n:=by have:=I.n3;omega
 obtain ⟨A,B,h1,h2,G⟩:=Gr.of I hl c hc
 have ha:Asc (grw n c A B):=by rw [<-h2];have:=I.grow (c:Int) (by omega) (by omega);exact this.asc
 have new:∀q,q<n->((cn ((c:Int)+1) (sh (c:Int) (q:Int)) (grw n c A B):Nat):Int)=mm (gV n c v) (c+1) (shN c q):=fun q hq=>by
  rw [G.cnew,Op F h3 c q hc hq,<-h1];have e1:=C c q hc hq;have e2:=C ((c+1) % n) q (Nat.mod_lt _ (by omega)) hq;rw [<-e1,<-e2];unfold en1 en2;by_cases z:c+1=n
  . rw [if_pos (by omega),if_pos (by omega),z,Nat.mod_self];push_cast;omega
  . rw [if_neg (by omega),if_neg (by omega),Nat.mod_eq_of_lt (by omega)];push_cast;rfl
 intro i j hi hj
 rw [h2]
 rcases S8 hc hi with rfl | ⟨p,hp,rfl⟩
 . rcases S8 hc hj with rfl | ⟨q,hq,rfl⟩
   . unfold cn mm;rw [if_pos rfl,Nat.min_self,Nat.max_self,E2];rfl
   . rw [Bw];exact new q hq
 . rcases S8 hc hj with rfl | ⟨q,hq,rfl⟩
   . rw [Bw,y1m ha,N8];exact new p hp
   . rw [Bw,Bw,G.cold (by omega) (by omega),<-h1,Oq _ _ _ _ _ hp hq];exact C p q hp hq
def pin (o:List Int) (k:Nat) (x:Int):List Int:=o.take k++x::o.drop k
end Cu
namespace Cu
section
open Bd
end
end Cu
set_option maxHeartbeats 400000
namespace Cu
open L2 Bd
def bk (c p:Int):Int:=if p<=c then p else p - 1
def rt (c:Int) (t:P3):P3:=if c<=t.1\/t.2.2<c then t else if c<=t.2.1 then (t.2.1,t.2.2,t.1) else (t.2.2,t.1,t.2.1)
end Cu
namespace Cu
open Bd
open L2 (so3 t6)
def opp (t:P3) (c:Int):P2:=if c=t.1 then (t.2.1,t.2.2) else if c=t.2.1 then (t.1,t.2.2) else (t.1,t.2.1)
def ab (ts:List P3) (x:List Int):List P2:=List.zipWith opp ts x
end Cu
namespace Cu
open Bd
structure Fb (n:Nat) (v:Nat->Vc) (a b c:Int):Prop where
 hA:∀i j,i<n->j<n->mm v i j<=a
 hB:∀x r,x<n->r<n->mm v x r+mm v ((x+1) % n) r<=b
 hC:∀x y,x<n->y<n->mm v x y+mm v x ((y+1) % n)+mm v ((x+1) % n) y+mm v ((x+1) % n) ((y+1) % n)<=c
 o0:0<=b
 o1:a<=b
 o2:b<=c
 o3:a+b<=c
theorem Ma (v:Nat->Vc) (p:Nat):mm v p p=0:=by unfold mm;rw [Nat.min_self,Nat.max_self,E2]
theorem He {n k x:Nat} (hk:k<n) (hx:x<n+1):(x=shN k k/\(x+1) % (n+1)=k+1)\/(x=k+1/\(x+1) % (n+1)=shN k ((k+1) % n))\/∃d,d<n/\d≠k/\x=shN k d/\(x+1) % (n+1)=shN k ((d+1) % n):=by
 have md:∀d,d<n->(d+1) % n=if d+1=n then 0 else d+1:=fun d hd=>by
  split
  . rename_i e;rw [e,Nat.mod_self]
  . rw [Nat.mod_eq_of_lt (by omega)]
 have mx:(x+1) % (n+1)=if x=n then 0 else x+1:=by
  split
  . rename_i e;rw [e,Nat.mod_self]
  . rw [Nat.mod_eq_of_lt (by omega)]
 rw [mx];by_cases h1:x=k
 . exact .inl ⟨by unfold shN;rw [if_neg (by omega)];exact h1,by rw [if_neg (by omega)];omega⟩
 by_cases h2:x=k+1
 . refine .inr (.inl ⟨h2,?_⟩);rw [md k hk];unfold shN;by_cases e:k+1=n
   . rw [if_pos (by omega),if_pos e,if_neg (by omega)]
   . rw [if_neg (by omega),if_neg e,if_pos (by omega)];omega
 . refine .inr (.inr ?_);by_cases h3:x<k
   . refine ⟨x,by omega,by omega,by unfold shN;rw [if_neg (by omega)],?_⟩;rw [md x (by omega),if_neg (by omega),if_neg (by omega)];unfold shN;rw [if_neg (by omega)]
   . refine ⟨x - 1,by omega,by omega,by unfold shN;rw [if_pos (by omega)];omega,?_⟩;rw [md (x - 1) (by omega)];by_cases e:x=n
     . rw [if_pos e,if_pos (by omega)];unfold shN;rw [if_neg (by omega)]
     . rw [if_neg e,if_neg (by omega)];unfold shN;rw [if_pos (by omega)];omega
theorem Fb.grow {n k:Nat} {R:Nat->Int} {v:Nat->Vc} {a b c:Int} (B:Fb n v a b c) (F:Fr n R v) (hn:3<=n) (hk:k<n):Fb (n+1) (gV n k v) b c (b+c):=by
 have hk':(k+1) % n<n:=Nat.mod_lt _ (by omega);have old:=fun p q (hp:p<n) (hq:q<n)=>Oq n k v p q hp hq
 have new:=fun p (hp:p<n)=>Op F hn k p hk hp
 have wen:∀p,p<n->mm (gV n k v) (shN k p) (k+1)=mm v k p+mm v ((k+1) % n) p:=fun p hp=>by rw [N8];exact new p hp
 have z0:=Ma (gV n k v) (k+1);have zk:=Ma v k;have zk':=Ma v ((k+1) % n);have e1:=B.hB k k hk hk;have e2:=B.hB k _ hk hk';have e3:=B.hC k k hk hk;have sy:=N8 v ((k+1) % n) k;have o0:=B.o0;have o1:=B.o1;have o2:=B.o2;have o3:=B.o3;have md:∀d,(d+1) % n<n:=fun d=>Nat.mod_lt _ (by omega)
 refine ⟨fun i j hi hj=>?_,fun x r hx hr=>?_,fun x y hx hy=>?_,by omega,o2,by omega,by omega⟩
 . rcases S8 hk hi with rfl | ⟨p,hp,rfl⟩<;>rcases S8 hk hj with rfl | ⟨q,hq,rfl⟩
   . omega
   . rw [new q hq];exact B.hB k q hk hq
   . rw [wen p hp];exact B.hB k p hk hp
   . rw [old p q hp hq];have:=B.hA p q hp hq;omega
 . rcases He hk hx with ⟨rfl,e⟩ | ⟨rfl,e⟩ | ⟨d,hd,_,rfl,e⟩<;>rw [e]<;>rcases S8 hk hr with rfl | ⟨q,hq,rfl⟩
   . rw [wen k hk];omega
   . rw [old k q hk hq,new q hq];have:=B.hA k q hk hq;have:=B.hB k q hk hq;omega
   . rw [wen _ hk'];omega
   . rw [new q hq,old _ q hk' hq];have:=B.hA _ q hk' hq;have:=B.hB k q hk hq;omega
   . rw [wen d hd,wen _ (md d)];have:=B.hC k d hk hd;omega
   . rw [old d q hd hq,old _ q (md d) hq];have:=B.hB d q hd hq;omega
 . rcases He hk hx with ⟨rfl,e⟩ | ⟨rfl,e⟩ | ⟨d,hd,_,rfl,e⟩<;>rcases He hk hy with ⟨rfl,f⟩ | ⟨rfl,f⟩ | ⟨q,hq,_,rfl,f⟩<;>first | rw [e,f] | rw [e]
   . rw [old k k hk hk,wen k hk,new k hk];omega
   . rw [wen k hk,old k _ hk hk',new _ hk'];omega
   . rw [old k q hk hq,old k _ hk (md q),new q hq,new _ (md q)];have:=B.hC k q hk hq;have h2:=B.hB q k hq hk;rw [N8 v q k,N8 v ((q+1) % n) k] at h2;omega
   . rw [new k hk,old _ k hk' hk,wen _ hk'];omega
   . rw [new _ hk',wen _ hk',old _ _ hk' hk'];omega
   . rw [new q hq,new _ (md q),old _ q hk' hq,old _ _ hk' (md q)];have:=B.hC k q hk hq;have h2:=B.hB q _ hq hk';rw [N8 v q,N8 v ((q+1) % n)] at h2;omega
   . rw [old d k hd hk,wen d hd,old _ k (md d) hk,wen _ (md d)];have:=B.hC k d hk hd;have h2:=B.hB d k hd hk;omega
   . rw [wen d hd,old d _ hd hk',wen _ (md d),old _ _ (md d) hk'];have:=B.hC k d hk hd;have h2:=B.hB d _ hd hk';omega
   . rw [old d q hd hq,old d _ hd (md q),old _ q (md d) hq,old _ _ (md d) (md q)];have:=B.hC d q hd hq;omega
def sq:Nat->Int×Int×Int
 | 0=>(1,2,3)
 | k+1=>((sq k).2.1,(sq k).2.2,(sq k).2.1+(sq k).2.2)
theorem fb3:Fb 3 v3 1 2 3:=by
 refine ⟨fun i j hi hj=>?_,fun x r hx hr=>?_,fun x y hx hy=>?_,by decide,by decide,by decide,by decide⟩
 . have h1:i=0\/i=1\/i=2:=by omega
   have h2:j=0\/j=1\/j=2:=by omega
   rcases h1 with rfl | rfl | rfl<;>rcases h2 with rfl | rfl | rfl<;>decide
 . have h1:x=0\/x=1\/x=2:=by omega
   have h2:r=0\/r=1\/r=2:=by omega
   rcases h1 with rfl | rfl | rfl<;>rcases h2 with rfl | rfl | rfl<;>decide
 . have h1:x=0\/x=1\/x=2:=by omega
   have h2:y=0\/y=1\/y=2:=by omega
   rcases h1 with rfl | rfl | rfl<;>rcases h2 with rfl | rfl | rfl<;>decide
end Cu
noncomputable section
namespace K66
open PySem PySem.Spec PyProof.Rows L2
def Wi:DS->SR:=
 (j5 [true] (N6 (eUn (r8 "int") (a9 0)) (eUn (fun d=>(C1 d).map fun b=>.bl (!b)) (eUn (r8 "bool") (a9 0)))))
def P7:List D->R D:=mOf false 1 0 Wi
def Oo:DS->SR:=
 (j5 [true,true] (eIf (i6 asB (eOp R3 (a9 0) (a9 1))) (k0 (b6 (a9 0) (b6 (a9 1) b8))) (k0 (b6 (a9 1) (b6 (a9 0) b8)))))
def X8:List D->R D:=mOf false 2 0 Oo
def Xq:DE->R Bool:=
 (i6 asB (eOp dNe (a9 0) (a9 1)))
def Xp:DE->R D:=
 (a9 0)
def Wh:DS->SR:=
 (j5 [true,true] (eCB D9 (b6 (h7 (iL (a9 0)) b1 [1] Xq Xp) b8)))
def U5:List D->R D:=mOf false 2 0 Wh
def Yo:DE->R Bool:=
 (N7 (i6 asB (eOp dEq (eOp dIx (a9 0) (eC (.int 0))) (a9 1))) (N7 (i6 asB (eOp dLe (eOp dIx (a9 0) (eC (.int 1))) (eOp dIx (a9 2) (eC (.int 1))))) (i6 asB (eOp dNe (a9 0) (a9 2)))))
def Yn:DE->R D:=
 (eOp dIx (a9 0) (eC (.int 1)))
def Yl:DS->SR:=
 (c8 (e8 true 3 [true,true,true] (h7 (iL (a9 2)) b1 [0,1] Yo Yn))
  (j5 [true,false,false,true] (eCB S0 (b6 (a9 3) (b6 (eOp l8 (a9 0) (eC (.int 1))) b8)))))
def At:List D->R D:=mOf false 3 1 Yl
def Yg:DE->R Bool:=
 (i6 asB (eOp (dIn true) (a9 0) (a9 1)))
def Ye:DE->R D:=
 (eOp R8 (a9 1) (k0 (b6 (a9 0) b8)))
def Dw:DS->SR:=
 (B6 "list" U9 2 [false,true,false,true] (b6 (h7 (iL (a9 1)) b1 [3] Yg Ye) b8))
def Xo:DS->SR:=
 (c8 (e8 true 2 [] (x4 b8))
  (c8 (t8 false [true] (iL (a9 0)) (.n 3) Dw)
  (X7 2)))
def An:List D->R D:=mOf true 2 2 Xo
def Li:DE->R Bool:=
 (i6 asB (eOp dNe (a9 1) (eC (.int 0))))
def Lh:DE->R D:=
 (k0 (b6 (a9 0) (b6 (a9 1) b8)))
def Ko:DS->SR:=
 (j5 [true] (eCB l6 (b6 (h7 (w8 (a9 0)) (bT 2) [] Li Lh) b8)))
def P6:List D->R D:=mOf true 1 0 Ko
def Xn:DS->SR:=
 (j5 [true,true] (eCB V3 (b6 (eSl dSl (a9 0) (oSo (a9 1)) (oSo (eOp l8 (a9 1) (eC (.int 1))))) b8)))
def P9:List D->R D:=mOf false 2 0 Xn
def Lu:DE->R D:=
 (k0 (b6 (eOp l8 (a9 0) (eCB M6 (b6 (eOp Bl (a9 0) (a9 2)) b8))) (b6 (eOp l8 (a9 1) (eCB M6 (b6 (eOp Bl (a9 1) (a9 2)) b8))) b8)))
def Lg:DS->SR:=
 (c8 (e8 false 3 [true] (eCB o8 (b6 (a9 0) b8)))
  (c8 (e8 true 4 [false,true,true] (h7 (iL (a9 1)) (bT 2) [2] k6 Lu))
  (c8 (sIf (i6 asB (eOp dEq (a9 2) (eOp u8 (a9 3) (eC (.int 1)))))
   (B6 "list" r6 4 [false,false,true] (b6 (k0 (b6 (eC (.int 0)) (b6 (a9 2) b8))) b8))
   (B6 "list" r6 4 [false,false,true] (b6 (k0 (b6 (a9 2) (b6 (eOp l8 (a9 2) (eC (.int 2))) b8))) b8)))
  (c8 (e8 true 5 [true] (eCB G3 (b6 (a9 0) b8)))
  (c8 (F6 C6 5 [false,false,true,false,false,true] (a9 2) (eOp l8 (eOp dIx (a9 5) (a9 2)) (eC (.int 1))))
  (c8 (F6 C6 5 [false,false,true,true,false,true] (eOp v4 (eOp l8 (a9 2) (eC (.int 1))) (a9 3)) (eOp l8 (eOp dIx (a9 5) (eOp v4 (eOp l8 (a9 2) (eC (.int 1))) (a9 3))) (eC (.int 1))))
  (c8 (B6 "list" V0 5 [false,false,true] (b6 (eOp l8 (a9 2) (eC (.int 1))) (b6 (eC (.int 1)) b8)))
  (j5 [false,false,false,false,true,true] (k0 (b6 (a9 5) (b6 (a9 4) b8)))))))))))
def U7:List D->R D:=mOf false 3 3 Lg
def Dy:DS->SR:=
 (B6 "list" r6 3 [true,false,false,true,true] (b6 (eOp u8 (eOp Bc (eOp dIx (a9 0) (a9 4)) (eOp dIx (a9 3) (eUn K3 (eC (.int 1))))) (eOp dIx (a9 3) (eUn K3 (eC (.int 2))))) b8))
def Xw:DS->SR:=
 (c8 (e8 true 3 [] (x4 (b6 (eC (.int 0)) (b6 (eC (.int 1)) b8))))
  (c8 (t8 true [false,true,true] (Q7 (b6 (eOp l8 (a9 1) (eC (.int 1))) (b6 (a9 2) b8))) (.n 4) Dy)
  (j5 [false,true,true,true] (eOp dIx (a9 3) (eOp u8 (a9 2) (a9 1))))))
def Ap:List D->R D:=mOf false 3 2 Xw
def Ym:DE->R D:=
 (k0 (b6 (a9 0) (b6 (eOp l8 (a9 0) (eC (.int 1))) b8)))
def Yd:DS->SR:=
 (j5 [true,true] (eCB l6 (b6 (eOp x0 (eOp x0 (h7 (M5 (b6 (eOp u8 (a9 0) (eC (.int 1))) b8)) b1 [] k6 Ym) (x4 (b6 (k0 (b6 (eC (.int 0)) (b6 (eOp u8 (a9 0) (eC (.int 1))) b8))) b8))) (eCB G3 (b6 (a9 1) b8))) b8)))
def Aq:List D->R D:=mOf true 2 0 Yd
def Dx:DS->SR:=
 (sIf (N7 (i6 asB (eOp (dIn false) (k0 (b6 (a9 3) (b6 (a9 5) b8))) (a9 1))) (i6 asB (eOp (dIn false) (k0 (b6 (a9 4) (b6 (a9 5) b8))) (a9 1))))
  (B6 "list" r6 2 [false,false,false,true,true,true] (b6 (k0 (b6 (a9 3) (b6 (a9 4) (b6 (a9 5) b8)))) b8))
  sNx)
def As:DS->SR:=
 (t8 true [true,false,false,false,true] (Q7 (b6 (eOp l8 (a9 4) (eC (.int 1))) (b6 (a9 0) b8))) (.n 5) Dx)
def Ln:DS->SR:=
 (c8 (e8 true 2 [] (x4 b8))
  (c8 (t8 false [false,true] (iL (a9 1)) (.t [3,4]) As)
  (j5 [false,false,true] (eCB l6 (b6 (a9 2) b8)))))
def Ao:List D->R D:=mOf true 2 4 Ln
def Q2:DE->R D:=
 (eOp (dIn false) (a9 0) (a9 1))
def Lr:DS->SR:=
 (c8 (sIf (bOr (D1 (i6 C1 (eUn (r8 "tuple") (a9 0)))) (i6 asB (eOp dNe (eCB U8 (b6 (a9 0) b8)) (a9 1))))
   (j5 [] (eC (.bl false)))
   sNx)
  (j5 [true,false,true] (eCB M7 (b6 (h7 (z8 (b6 (a9 0) (b6 (a9 2) b8))) (bT 2) [] k6 Q2) b8))))
def Q1:List D->R D:=mOf false 3 0 Lr
def Xv:DE->R D:=
 (eUn K3 (eCB M6 (b6 (eOp (dIn false) (a9 0) (a9 1)) b8)))
def Lm:DE->R Bool:=
 (i6 asB (eOp dNe (a9 0) (a9 1)))
def Ll:DE->R D:=
 (a9 0)
def Ds:DS->SR:=
 (c8 (e8 false 7 [false,false,false,false,false,true,true] (eCB D9 (b6 (h7 (iL (a9 6)) b1 [5] Lm Ll) b8)))
  (c8 (e8 false 8 [false,false,false,true,false,false,false,true] (W2 (a9 3) (a9 7)))
  (F6 C6 4 [false,false,false,false,true,false,false,false,true] (a9 8) (eOp l8 (eOp dIx (a9 4) (a9 8)) (eC (.int 1))))))
def Kx:DS->SR:=
 (c8 (e8 true 4 [false,false,true,true] (h7 (iL (a9 3)) b1 [2] k6 Xv))
  (c8 (t8 false [true,true] (z8 (b6 (a9 0) (b6 (a9 1) b8))) (.t [5,6]) Ds)
  (j5 [false,false,false,false,true] (eCB D9 (b6 (a9 4) b8)))))
def P8:List D->R D:=mOf false 4 5 Kx
def Tv:DS->SR:=
 (j5 [true] (N6 (eUn (r8 "tuple") (a9 0)) (N6 (eOp dEq (eCB o8 (b6 (a9 0) b8)) (eC (.int 2))) (N6 (g9 P7 (b6 (eOp dIx (a9 0) (eC (.int 0))) b8)) (g9 P7 (b6 (eOp dIx (a9 0) (eC (.int 1))) b8))))))
def Ac:List D->R D:=mOf false 1 0 Tv
def Yc:DS->SR:=
 (sIf (bOr (D1 (i6 C1 (g9 P7 (b6 (a9 1) b8)))) (D1 (V9 (eC (.int 0)) (T4 dLe (a9 1) (Z1 R3 (a9 0))))))
  sNo
  sNx)
def Q0:List D->R D:=mOf false 2 0 Yc
def Kw:DE->R D:=
 (g9 X8 (b6 (a9 0) (b6 (eOp v4 (eOp l8 (a9 0) (eC (.int 1))) (a9 1)) b8)))
def Vf:DS->SR:=
 (c8 (e8 false 1 [true] (eOp dIx (a9 0) (eC (.int 0))))
  (c8 (e8 true 2 [false,true] (h7 (M5 (b6 (a9 1) b8)) b1 [1] k6 Kw))
  (j5 [true,false,true] (eCB l6 (b6 (eOp x0 (a9 2) (eCB G3 (b6 (eOp dIx (a9 0) (eC (.int 1))) b8))) b8)))))
def U0:List D->R D:=mOf true 1 2 Vf
def Dv:DE->R Bool:=
 (i6 asB (eOp R3 (eOp dIx (a9 2) (eUn K3 (eC (.int 1)))) (eOp dIx (a9 0) (eC (.int 1)))))
def Du:DS->SR:=
 (B6 "list" r6 2 [true,true,true] (b6 (g9 At (b6 (eOp dIx (a9 2) (eUn K3 (eC (.int 1)))) (b6 (a9 0) (b6 (a9 1) b8)))) b8))
def Xm:DS->SR:=
 (c8 (e8 true 2 [true] (x4 (b6 (eOp dIx (a9 0) (eC (.int 0))) b8)))
  (c8 (Y6 1000 Dv Du)
  (j5 [false,false,true] (eCB D9 (b6 (a9 2) b8)))))
def Am:List D->R D:=mOf false 2 1 Xm
def Dt:DS->SR:=
 (c8 (e8 false 6 [false,false,true,false,false,true] (eOp v4 (a9 5) (eCB o8 (b6 (a9 2) b8))))
  (c8 (sIf (i6 asB (eOp dEq (eOp v4 (a9 0) (eC (.int 3))) (eC (.int 1))))
   (e8 false 6 [false,false,false,false,true] (eOp N0 (a9 4) (eC (.int 2))))
   sNx)
  (R4 (.t [2,3]) [false,false,true,true,false,false,true] (g9 U7 (b6 (a9 2) (b6 (a9 3) (b6 (a9 6) b8)))))))
def Xl:DS->SR:=
 (c8 (e8 true 2 [] (x4 (b6 (eC (.int 1)) (b6 (eC (.int 1)) (b6 (eC (.int 1)) b8)))))
  (c8 (e8 true 3 [] (x4 b8))
  (c8 (t8 false [false,true] (iEn (b6 (a9 1) b8)) (.t [4,5]) Dt)
  (j5 [false,false,true,true] (k0 (b6 (a9 2) (b6 (eCB l6 (b6 (a9 3) b8)) b8)))))))
def Ak:List D->R D:=mOf false 2 5 Xl
def Ve:DE->R D:=
 (g9 Am (b6 (a9 0) (b6 (a9 1) b8)))
def Rg:DS->SR:=
 (c8 (e8 true 2 [true,true] (eOp x0 (x4 (b6 (k0 (b6 (eC (.int 0)) (b6 (eOp u8 (a9 0) (eC (.int 1))) b8))) b8)) (eCB G3 (b6 (a9 1) b8))))
  (j5 [false,true,true] (eCB l6 (b6 (h7 (iL (a9 2)) b1 [1] k6 Ve) b8))))
def Z3:List D->R D:=mOf true 2 1 Rg
def Yk:DS->SR:=
 (sIf (bOr (D1 (i6 C1 (g9 Ac (b6 (a9 1) b8)))) (D1 (V9 (eC (.int 0)) (T4 dLe (eOp dIx (a9 1) (eC (.int 0))) (T4 R3 (eOp dIx (a9 1) (eC (.int 1))) (Z1 R3 (a9 0)))))))
  sNo
  sNx)
def Ar:List D->R D:=mOf false 2 0 Yk
def Wx:DS->SR:=
 (j5 [true] (g9 Z3 (b6 (eOp dIx (a9 0) (eC (.int 0))) (b6 (eOp dIx (a9 0) (eC (.int 1))) b8))))
def E7:List D->R D:=mOf true 1 0 Wx
def Xk:DE->R Bool:=
 (N7 (i6 asB (eOp dNe (a9 0) (a9 1))) (i6 asB (eOp dNe (a9 0) (a9 2))))
def Xj:DE->R D:=
 (a9 0)
def Lf:DS->SR:=
 (e8 true 3 [false,true,true,true,true] (g9 An (b6 (a9 3) (b6 (h7 (iL (a9 4)) b1 [1,2] Xk Xj) b8))))
def Kn:DS->SR:=
 (c8 (L1 (g9 Q0 (b6 (eOp dIx (a9 0) (eC (.int 0))) (b6 (a9 1) b8))))
  (c8 (L1 (g9 Q0 (b6 (eOp dIx (a9 0) (eC (.int 0))) (b6 (a9 2) b8))))
  (c8 (sIf (i6 asB (eOp Bl (eOp dIx (a9 0) (eC (.int 0))) (eC (.int 12))))
   sNo
   sNx)
  (c8 (sIf (i6 asB (eOp dEq (a9 1) (a9 2)))
   (j5 [] (x4 b8))
   sNx)
  (c8 (e8 true 3 [] (x4 (b6 (k0 b8) b8)))
  (c8 (t8 false [true] (iL (g9 E7 (b6 (a9 0) b8))) (.n 4) Lf)
  (X7 3)))))))
def J7:List D->R D:=mOf true 3 2 Kn
def Dr:DE->R D:=
 (g9 U5 (b6 (a9 0) (b6 (a9 1) b8)))
def Xu:DE->R D:=
 (eOp u8 (F8 (a9 1) (a9 0)) (F7 (eOp dIx (a9 2) (eC (.int 1))) (a9 0)))
def Kv:DS->SR:=
 (c8 (e8 true 2 [true,true] (h7 (R7 (b6 (g9 E7 (b6 (a9 0) b8)) (b6 (a9 1) b8))) (bT 2) [] k6 Dr))
  (j5 [true,false,true] (eCB D9 (b6 (h7 (iL (g9 U0 (b6 (a9 0) b8))) b1 [2,0] k6 Xu) b8))))
def Aj:List D->R D:=mOf false 2 1 Kv
def Dq:DS->SR:=
 (c8 (e8 false 4 [true,false,false,true] (g9 Aj (b6 (a9 0) (b6 (a9 3) b8))))
  (F6 dSetN 2 [false,false,true,false,true] (a9 4) (eOp l8 (eGetN (a9 2) (a9 4) (eC (.int 0))) (eC (.int 1)))))
def Km:DS->SR:=
 (c8 (L1 (g9 Ar (b6 (eOp dIx (a9 0) (eC (.int 0))) (b6 (a9 1) b8))))
  (c8 (e8 true 2 [] W3)
  (c8 (t8 false [true,true] (iL (g9 J7 (b6 (a9 0) (b6 (eOp dIx (a9 1) (eC (.int 0))) (b6 (eOp dIx (a9 1) (eC (.int 1))) b8))))) (.n 3) Dq)
  (j5 [false,false,true] (g9 P6 (b6 (a9 2) b8))))))
def M1:List D->R D:=mOf true 2 3 Km
def Rf:DE->R Bool:=
 (i6 asB (eOp (dIn true) (a9 0) (k0 (b6 (a9 1) (b6 (a9 2) b8)))))
def Re:DE->R D:=
 (a9 0)
def Z2:DS->SR:=
 (c8 (sIf (D1 (i6 C1 (g9 Q1 (b6 (a9 14) (b6 (a9 12) (b6 (a9 10) b8))))))
   (j5 [] (eC (.bl false)))
   sNx)
  (c8 (e8 false 15 [false,false,false,false,true,false,false,false,false,true,true,false,false,false,true] (g9 P8 (b6 (a9 14) (b6 (a9 10) (b6 (a9 4) (b6 (a9 9) b8))))))
  (F6 dSetN 13 [false,false,false,false,false,false,false,false,false,false,false,false,false,true,false,true] (a9 15) (eOp l8 (eGetN (a9 13) (a9 15) (eC (.int 0))) (eC (.int 1))))))
def L5:DE->R D:=
 (k0 (b6 (a9 0) (b6 (a9 1) b8)))
def Em:DS->SR:=
 (c8 (e8 false 1 [true] (g9 P9 (b6 (a9 0) (b6 (eC (.int 0)) b8))))
  (c8 (e8 false 2 [] (eC (.int 5)))
  (c8 (sIf (i6 asB (eOp dEq (eOp v4 (eOp N0 (a9 1) (eC (.int 3))) (eC (.int 9))) (eC (.int 1))))
   (e8 false 2 [] (eC (.int 8)))
   sNx)
  (c8 (R4 (.t [3,4]) [true,true,true] (g9 Ak (b6 (a9 1) (b6 (eSl dSl (a9 0) (oSo (eC (.int 3))) (oSo (eOp l8 (eC (.int 3)) (a9 2)))) b8))))
  (c8 (e8 false 5 [false,false,false,true] (eCB o8 (b6 (a9 3) b8)))
  (c8 (e8 false 6 [false,false,false,false,true,true] (k0 (b6 (a9 5) (b6 (eCB D9 (b6 (a9 4) b8)) b8))))
  (c8 (e8 false 7 [true,false,false,false,false,true] (eOp v4 (g9 P9 (b6 (a9 0) (b6 (eC (.int 1)) b8))) (eOp u8 (a9 5) (eC (.int 1)))))
  (c8 (e8 false 8 [true,false,false,false,false,true,false,true] (eOp l8 (eOp l8 (a9 7) (eC (.int 1))) (eOp v4 (g9 P9 (b6 (a9 0) (b6 (eC (.int 2)) b8))) (eOp u8 (eOp u8 (a9 5) (eC (.int 1))) (a9 7)))))
  (c8 (e8 true 9 [false,false,false,false,true,true] (g9 Aq (b6 (a9 5) (b6 (a9 4) b8))))
  (c8 (e8 true 10 [false,false,false,false,false,true,false,false,false,true] (g9 Ao (b6 (a9 5) (b6 (a9 9) b8))))
  (c8 (e8 true 11 [false,false,false,false,false,false,true,true,true] (g9 J7 (b6 (a9 6) (b6 (a9 7) (b6 (a9 8) b8)))))
  (c8 (sIf (bOr (D1 (i6 C1 (eUn (r8 "list") (a9 11)))) (i6 asB (eOp dNe (eCB o8 (b6 (a9 11) b8)) (g9 Ap (b6 (a9 3) (b6 (a9 7) (b6 (a9 8) b8)))))))
   (j5 [] (eC (.bl false)))
   sNx)
  (c8 (e8 true 12 [false,false,false,false,false,true,false,true,true] (h7 (M5 (b6 (a9 5) b8)) b1 [7,8] Rf Re))
  (c8 (e8 true 13 [] W3)
  (c8 (t8 false [false,false,false,false,false,false,false,false,false,false,false,true] (iL (a9 11)) (.n 14) Z2)
  (c8 (sIf (i6 asB (eOp dNe (eLS (b6 (a9 11) b8)) (eCB o8 (b6 (a9 11) b8))))
   (j5 [] (eC (.bl false)))
   sNx)
  (j5 [false,false,false,false,false,false,true,true,true,false,false,false,false,true,false,true] (eOp dEq (g9 M1 (b6 (a9 6) (b6 (k0 (b6 (a9 7) (b6 (a9 8) b8))) b8))) (eCB l6 (b6 (h7 (w8 (a9 13)) (bT 2) [] k6 L5) b8))))))))))))))))))))
def R5:List D->R D:=mOf false 1 15 Em
def top (i:Nat):Stmt:=PySem.Challenge.pw_friezeyard_k66_fractions_by_sharings.main.body.getD i (.Pass ⟨0,0,0,0⟩)
abbrev Kl:Stmt:=top 6
abbrev Fw:Stmt:=top 7
abbrev Jh:Stmt:=top 9
abbrev Lq:Stmt:=top 10
abbrev Kk:Stmt:=top 11
abbrev Jy:Stmt:=top 13
abbrev Hd:Stmt:=top 15
abbrev Le:Stmt:=top 16
abbrev Lx:Stmt:=top 17
abbrev Ku:Stmt:=top 18
abbrev Kj:Stmt:=top 20
abbrev Ld:Stmt:=top 21
abbrev Ki:Stmt:=top 23
abbrev Kh:Stmt:=top 25
abbrev Lw:Stmt:=top 26
abbrev Kt:Stmt:=top 27
abbrev Lc:Stmt:=top 29
abbrev Lb:Stmt:=top 30
abbrev La:Stmt:=top 31
abbrev Lk:Stmt:=top 32
abbrev Lp:Stmt:=top 33
abbrev Lj:Stmt:=top 34
abbrev Lo:Stmt:=top 35
abbrev Ks:Stmt:=top 36
abbrev El:Stmt:=top 37
structure Txt (mg:Str->Option Value):Prop where
 «all»:mg "all"=none
 bool:mg "bool"=none
 enumerate:mg "enumerate"=none
 int:mg "int"=none
 isinstance:mg "isinstance"=none
 len:mg "len"=none
 list:mg "list"=none
 «max»:mg "max"=none
 range:mg "range"=none
 «set»:mg "set"=none
 sorted:mg "sorted"=none
 sum:mg "sum"=none
 tuple:mg "tuple"=none
 zip:mg "zip"=none
theorem zI:FnScope ["thing"] ["thing"] (i8 Kl):=fsc
theorem vw:FnScope ["a","b"] ["a","b"] (i8 Fw):=fsc
theorem yp:FnScope ["thing"] ["thing"] (i8 Jh):=fsc
theorem z7x:FnScope ["n","thing"] ["n","thing"] (i8 Lq):=fsc
theorem zH:FnScope ["corners","corner"] ["corners","corner"] (i8 Kk):=fsc
theorem sc_letters:FnScope ["cut","n","sides"] ["cut"] (i8 Jy):=fsc
theorem sc_rooms:FnScope ["n","lines","tops"] ["n","lines"] (i8 Hd):=fsc
theorem sc_room_under:FnScope ["top","lines","room"] ["top","lines"] (i8 Le):=fsc
theorem sc_corner_behind:FnScope ["corner","top","lines","ends"] ["corner","top","lines"] (i8 Lx):=fsc
theorem zV:FnScope ["cut"] ["cut"] (i8 Ku):=fsc
theorem sc_sharings:FnScope ["cut","i","j","begun","corners"] ["cut","i","j"] (i8 Kj):=fsc
theorem sc_carried_on:FnScope ["begun","corners","found","given"] ["begun","corners"] (i8 Ld):=fsc
theorem zG:FnScope ["found"] ["found"] (i8 Ki):=fsc
theorem sc_fraction:FnScope ["cut","p","found","given","powers"] ["cut","p"] (i8 Kh):=fsc
theorem z6y:FnScope ["n","p"] ["n","p"] (i8 Lw):=fsc
theorem sc_powers_of:FnScope ["cut","given","above"] ["cut","given"] (i8 Kt):=fsc
theorem zae:FnScope ["_law_script","_law_at"] ["_law_script","_law_at"] (i8 Lc):=fsc
theorem sc__law_grown:FnScope ["_law_row","_law_lines","_law_at","_law_size","_law_some","_law_made"] ["_law_row","_law_lines","_law_at"] (i8 Lb):=fsc
theorem sc__law_floor:FnScope ["_law_way","_law_cells","_law_row","_law_lines","_law_k","_law_cell","_law_at"] ["_law_way","_law_cells"] (i8 La):=fsc
theorem sc__law_number:FnScope ["_law_row","_law_a","_law_b","_law_some","_law_at"] ["_law_row","_law_a","_law_b"] (i8 Lk):=fsc
theorem z7y:FnScope ["_law_size","_law_lines"] ["_law_size","_law_lines"] (i8 Lp):=fsc
theorem sc__law_threes:FnScope ["_law_size","_law_some","_law_found","_law_a","_law_b","_law_c"] ["_law_size","_law_some"] (i8 Lj):=fsc
theorem z7z:FnScope ["_law_way","_law_corners","_law_threes_here"] ["_law_way","_law_corners","_law_threes_here"] (i8 Lo):=fsc
theorem sc__law_term:FnScope ["_law_way","_law_threes_here","_law_lines","_law_some","_law_powers","_law_corner","_law_three","_law_opposite","_law_at"] ["_law_way","_law_threes_here","_law_lines","_law_some"] (i8 Ks):=fsc
theorem sc_law:FnScope ["_law_script","_law_way","_law_room","_law_row","_law_lines","_law_size","_law_cut","_law_a","_law_b","_law_some","_law_threes_here","_law_ways","_law_corners","_law_due","_law_one","_law_powers"] ["_law_script"] (i8 El):=fsc
abbrev Kg (P:Program) (w:World) (K:Frag) (mg:Str->Option Value) (base:Heap):Prop:=j9 P w K mg base "is_whole" ["thing"] 1 (spD K mg false P7 1)
abbrev On (P:Program) (w:World) (K:Frag) (mg:Str->Option Value) (base:Heap):Prop:=j9 P w K mg base "pair" ["a","b"] 1 (spD K mg false X8 2)
abbrev Wg (P:Program) (w:World) (K:Frag) (mg:Str->Option Value) (base:Heap):Prop:=j9 P w K mg base "opposite" ["corners","corner"] 1 (spD K mg false U5 2)
abbrev Yj (P:Program) (w:World) (K:Frag) (mg:Str->Option Value) (base:Heap):Prop:=j9 P w K mg base "corner_behind" ["corner","top","lines"] 1 (spD K mg false At 3)
abbrev Xi (P:Program) (w:World) (K:Frag) (mg:Str->Option Value) (base:Heap):Prop:=j9 P w K mg base "carried_on" ["begun","corners"] 1 (spD K mg true An 2)
abbrev Wf (P:Program) (w:World) (K:Frag) (mg:Str->Option Value) (base:Heap):Prop:=j9 P w K mg base "sum_from" ["found"] 1 (spD K mg true P6 1)
abbrev Xh (P:Program) (w:World) (K:Frag) (mg:Str->Option Value) (base:Heap):Prop:=j9 P w K mg base "_law_drawn" ["_law_script","_law_at"] 1 (spD K mg false P9 2)
abbrev Xg (P:Program) (w:World) (K:Frag) (mg:Str->Option Value) (base:Heap):Prop:=j9 P w K mg base "_law_grown" ["_law_row","_law_lines","_law_at"] 1 (spD K mg false U7 3)
abbrev Xs (P:Program) (w:World) (K:Frag) (mg:Str->Option Value) (base:Heap):Prop:=j9 P w K mg base "_law_number" ["_law_row","_law_a","_law_b"] 1 (spD K mg false Ap 3)
abbrev Yb (P:Program) (w:World) (K:Frag) (mg:Str->Option Value) (base:Heap):Prop:=j9 P w K mg base "_law_letters" ["_law_size","_law_lines"] 1 (spD K mg true Aq 2)
abbrev Xr (P:Program) (w:World) (K:Frag) (mg:Str->Option Value) (base:Heap):Prop:=j9 P w K mg base "_law_threes" ["_law_size","_law_some"] 1 (spD K mg true Ao 2)
abbrev Xz (P:Program) (w:World) (K:Frag) (mg:Str->Option Value) (base:Heap):Prop:=j9 P w K mg base "_law_sharing" ["_law_way","_law_corners","_law_threes_here"] 1 (spD K mg false Q1 3)
abbrev Ww (P:Program) (w:World) (K:Frag) (mg:Str->Option Value) (base:Heap):Prop:=j9 P w K mg base "_law_term" ["_law_way","_law_threes_here","_law_lines","_law_some"] 1 (spD K mg false P8 4)
abbrev Tu (P:Program) (w:World) (K:Frag) (mg:Str->Option Value) (base:Heap):Prop:=j9 P w K mg base "is_two" ["thing"] 2 (spD K mg false Ac 1)
abbrev Xy (P:Program) (w:World) (K:Frag) (mg:Str->Option Value) (base:Heap):Prop:=j9 P w K mg base "check_corner" ["n","thing"] 2 (spD K mg false Q0 2)
abbrev Vb (P:Program) (w:World) (K:Frag) (mg:Str->Option Value) (base:Heap):Prop:=j9 P w K mg base "letters" ["cut"] 2 (spD K mg true U0 1)
abbrev Xf (P:Program) (w:World) (K:Frag) (mg:Str->Option Value) (base:Heap):Prop:=j9 P w K mg base "room_under" ["top","lines"] 2 (spD K mg false Am 2)
abbrev Xe (P:Program) (w:World) (K:Frag) (mg:Str->Option Value) (base:Heap):Prop:=j9 P w K mg base "_law_floor" ["_law_way","_law_cells"] 2 (spD K mg false Ak 2)
abbrev Rc (P:Program) (w:World) (K:Frag) (mg:Str->Option Value) (base:Heap):Prop:=j9 P w K mg base "rooms" ["n","lines"] 3 (spD K mg true Z3 2)
abbrev Yi (P:Program) (w:World) (K:Frag) (mg:Str->Option Value) (base:Heap):Prop:=j9 P w K mg base "check_corners" ["n","p"] 3 (spD K mg false Ar 2)
abbrev Kr (P:Program) (w:World) (K:Frag) (mg:Str->Option Value) (base:Heap):Prop:=j9 P w K mg base "triangles" ["cut"] 4 (spD K mg true E7 1)
abbrev Kf (P:Program) (w:World) (K:Frag) (mg:Str->Option Value) (base:Heap):Prop:=j9 P w K mg base "sharings" ["cut","i","j"] 5 (spD K mg true J7 3)
abbrev Wv (P:Program) (w:World) (K:Frag) (mg:Str->Option Value) (base:Heap):Prop:=j9 P w K mg base "powers_of" ["cut","given"] 5 (spD K mg false Aj 2)
abbrev We (P:Program) (w:World) (K:Frag) (mg:Str->Option Value) (base:Heap):Prop:=j9 P w K mg base "fraction" ["cut","p"] 6 (spD K mg true M1 2)
section
variable {P:Program} {w:World} {K:Frag} {mg:Str->Option Value} {base:Heap} {f:Addr} {fd:FuncData}
theorem zF (F:Fun K "is_whole" "is_whole" Kl f fd) (T:Txt mg)  : FnOk P w K mg base (CX1 P w) 1 f fd ["thing"] (spD K mg false P7 1):=
 fnD (k:=0) F zI rfl rfl fun cdv A outer s H E hr=>
  (g7 (k8 (Br (W7 rfl T.isinstance boot_isinstance (qv 0) (Z9 (v:=.ty "int") rfl T.int boot_int rfl)) (Nl (qp (W7 rfl T.isinstance boot_isinstance (qv 0) (Z9 (v:=.ty "bool") rfl T.bool boot_bool rfl)))))))
theorem vv (F:Fun K "pair" "pair" Fw f fd) (T:Txt mg)  : FnOk P w K mg base (CX1 P w) 1 f fd ["a","b"] (spD K mg false X8 2):=
 fnD (k:=0) F vw rfl rfl fun cdv A outer s H E hr=>
  (g7 (k8 (y07 (D3 V8 Y5 (qv 0) (qv 1) (l9 _)) (m9 (b7 (qv 0) (b7 (qv 1) b9))) (m9 (b7 (qv 1) (b7 (qv 0) b9))))))
theorem zE (F:Fun K "opposite" "opposite" Kk f fd) (T:Txt mg)  : FnOk P w K mg base (CX1 P w) 1 f fd ["corners","corner"] (spD K mg false U5 2):=
 fnD (k:=0) F zH rfl rfl fun cdv A outer s H E hr=>
  (g7 (k8 (x8 T7 T6 rfl T.tuple boot_tuple (b7 (QE.wk (M4 (u6 (caps:=["corner"]) (ix:=[1]) rfl rfl) (by decide +kernel) rfl (v9 (qv 0)) (.one fun _ _ _=>(tN hr (qv 0) (qv 1) (l9 _))) (fun _ _ _=>(qv 0)))) b9))))
theorem z6z (F:Fun K "corner_behind" "corner_behind" Lx f fd) (T:Txt mg)  : FnOk P w K mg base (CX1 P w) 1 f fd ["corner","top","lines"] (spD K mg false At 3):=
 fnD (k:=0) F sc_corner_behind rfl rfl fun cdv A outer s H E hr=>
  (d7 (Av sc_corner_behind.nd (k:=3) rfl rfl (u6 (caps:=["corner","top"]) (ix:=[0,1]) rfl rfl) (by decide +kernel) rfl (v9 (qv 2)) (.one fun _ _ _=>(QW.pt (Bp (tE hr (qI hr (qv 0) c7) (qv 1) (l9 _)) (Bp (D3 Ee Fe (qI hr (qv 0) c7) (qI hr (qv 2) c7) (l9 _)) (Gm (tN hr (qv 0) (qv 2) (l9 _))))))) (fun _ _ _=>(qI hr (qv 0) c7)))
   (g7 (k8 (qb rfl rfl T.«max» boot_max (qv 3) (g8 n8 n9 (qv 0) c7)))))
theorem zaf (F:Fun K "carried_on" "carried_on" Ld f fd) (T:Txt mg)  : FnOk P w K mg base (CX1 P w) 1 f fd ["begun","corners"] (spD K mg true An 2):=
 fnD (k:=0) F sc_carried_on rfl rfl fun cdv A outer s H E hr=>
  (d7 (sA 2 sc_carried_on.nd (D4 b9))
   (d7 (G2 PassesOwn.leaving rfl (v9 (qv 0)) (g_n (i:=3) sc_carried_on.nd rfl (Or.inr rfl))
    (g7 (N9 PySem.F.plainAttrs_list PySem.F.slot_list_extend PySem.F.type_list_extend yV qc O5 (pw 2) (b7 (QE.wk (M4 (u6 (caps:=["given"]) (ix:=[3]) rfl rfl) (by decide +kernel) rfl (v9 (qv 1)) (.one fun _ _ _=>(D3 (Ul hr.units) S4 (qv 0) (qv 1) (by with_unfolding_all rfl))) (fun _ _ _=>(g8 vP vO (qv 1) (m9 (b7 (qv 0) b9)))))) b9))))
   (g7 (Pz (i:=2)))))
theorem zC (F:Fun K "sum_from" "sum_from" Ki f fd) (T:Txt mg)  : FnOk P w K mg base (CX1 P w) 1 f fd ["found"] (spD K mg true P6 1):=
 fnD (k:=0) F zG rfl rfl fun cdv A outer s H E hr=>
  (g7 (k8 (C0 (P1 rfl hr.units) P4 rfl T.sorted boot_sorted (b7 (QE.wk (Aw (u6 (caps:=[]) (ix:=[]) rfl rfl) (by decide +kernel) rfl rfl (Sa (qv 0)) (.one fun _ _ _=>(tN hr (qv 1) c7 (l9 _))) (fun _ _ _=>(m9 (b7 (qv 0) (b7 (qv 1) b9)))))) b9))))
theorem zag (F:Fun K "_law_drawn" "_law_drawn" Lc f fd) (T:Txt mg)  : FnOk P w K mg base (CX1 P w) 1 f fd ["_law_script","_law_at"] (spD K mg false P9 2):=
 fnD (k:=0) F zae rfl rfl fun cdv A outer s H E hr=>
  (g7 (k8 (C0 (jo rfl) ql rfl T.sum boot_sum (b7 (QE.wk (Yv To Sw (qv 0) (Ax (qv 1)) (Ax (g8 n8 n9 (qv 1) c7)))) b9))))
theorem zah (F:Fun K "_law_grown" "_law_grown" Lb f fd) (T:Txt mg)  : FnOk P w K mg base (CX1 P w) 1 f fd ["_law_row","_law_lines","_law_at"] (spD K mg false U7 3):=
 fnD (k:=0) F sc__law_grown rfl rfl fun cdv A outer s H E hr=>
  (d7 (sA 3 sc__law_grown.nd (qL T.len (qv 0)))
   (d7 (y3r sc__law_grown.nd (k:=4) rfl rfl (u6 (caps:=["_law_at"]) (ix:=[2]) rfl rfl) (by decide +kernel) rfl rfl (v9 (qv 1)) .nil (fun _ _ _=>(m9 (b7 (g8 n8 n9 (qv 0) (x8 Fi Gk rfl T.int boot_int (b7 (S3 Ed Gn (qv 0) (qv 2) (l9 _)) b9))) (b7 (g8 n8 n9 (qv 1) (x8 Fi Gk rfl T.int boot_int (b7 (S3 Ed Gn (qv 1) (qv 2) (l9 _)) b9))) b9)))))
   (d7 (B1 (tE hr (qv 2) (g8 D6 E1 (qv 3) c7) (l9 _))
    (g7 (N9 PySem.F.plainAttrs_list PySem.F.slot_list_append PySem.F.type_list_append U4 Y2 O5 (pw 4) (b7 (m9 (b7 c7 (b7 (qv 2) b9))) b9)))
    (g7 (N9 PySem.F.plainAttrs_list PySem.F.slot_list_append PySem.F.type_list_append U4 Y2 O5 (pw 4) (b7 (m9 (b7 (qv 2) (b7 (g8 n8 n9 (qv 2) c7) b9))) b9))))
   (d7 (sA 5 sc__law_grown.nd (x8 Cz Cy rfl T.list boot_list (b7 (qv 0) b9)))
   (d7 (Ez hr.units (pw 5) (qv 2) (g8 n8 n9 (qI hr (qv 5) (qv 2)) c7))
   (d7 (Ez hr.units (pw 5) (g8 K9 L4 (g8 n8 n9 (qv 2) c7) (qv 3)) (g8 n8 n9 (qI hr (qv 5) (g8 K9 L4 (g8 n8 n9 (qv 2) c7) (qv 3))) c7))
   (d7 (N9 PySem.F.plainAttrs_list PySem.F.slot_list_insert PySem.F.type_list_insert yF qe O5 (pw 5) (b7 (g8 n8 n9 (qv 2) c7) (b7 c7 b9)))
   (g7 (k8 (m9 (b7 (qv 5) (b7 (qv 4) b9))))))))))))
theorem z8f (F:Fun K "_law_number" "_law_number" Lk f fd) (T:Txt mg)  : FnOk P w K mg base (CX1 P w) 1 f fd ["_law_row","_law_a","_law_b"] (spD K mg false Ap 3):=
 fnD (k:=0) F sc__law_number rfl rfl fun cdv A outer s H E hr=>
  (d7 (sA 3 sc__law_number.nd (D4 (b7 c7 (b7 c7 b9))))
   (d7 (G2 PassesOwn.leaving rfl (Yu rfl T.range (b7 (g8 n8 n9 (qv 1) c7) (b7 (qv 2) b9))) (g_n (i:=4) sc__law_number.nd rfl (Or.inl rfl))
    (g7 (N9 PySem.F.plainAttrs_list PySem.F.slot_list_append PySem.F.type_list_append U4 Y2 O5 (pw 3) (b7 (g8 D6 E1 (g8 jv qt (qI hr (qv 0) (qv 4)) (qI hr (qv 3) (V4 X3 Y4 c7))) (qI hr (qv 3) (V4 X3 Y4 c7))) b9))))
   (g7 (k8 (qI hr (qv 3) (g8 D6 E1 (qv 2) (qv 1)))))))
theorem z82 (F:Fun K "_law_letters" "_law_letters" Lp f fd) (T:Txt mg)  : FnOk P w K mg base (CX1 P w) 1 f fd ["_law_size","_law_lines"] (spD K mg true Aq 2):=
 fnD (k:=0) F z7y rfl rfl fun cdv A outer s H E hr=>
  (g7 (k8 (C0 (P1 rfl hr.units) P4 rfl T.sorted boot_sorted (b7 (QE.wk (g8 Cl Cg (QE.wk (g8 Cl Cg (QE.wk (M4 (u6 (caps:=[]) (ix:=[]) rfl rfl) (by decide +kernel) rfl (Me rfl T.range (b7 (g8 D6 E1 (qv 0) c7) b9)) .nil (fun _ _ _=>(m9 (b7 (qv 0) (b7 (g8 n8 n9 (qv 0) c7) b9)))))) (QE.wk (D4 (b7 (m9 (b7 c7 (b7 (g8 D6 E1 (qv 0) c7) b9))) b9))))) (QE.wk (x8 Cz Cy rfl T.list boot_list (b7 (qv 1) b9))))) b9))))
theorem z8g (F:Fun K "_law_threes" "_law_threes" Lj f fd) (T:Txt mg)  : FnOk P w K mg base (CX1 P w) 1 f fd ["_law_size","_law_some"] (spD K mg true Ao 2):=
 fnD (k:=0) F sc__law_threes rfl rfl fun cdv A outer s H E hr=>
  (d7 (sA 2 sc__law_threes.nd (D4 b9))
   (d7 (G2 PassesOwn.leaving rfl (v9 (qv 1)) (g_t rfl (E4 (i:=3) sc__law_threes.nd rfl (Or.inl rfl) (E4 (i:=4) sc__law_threes.nd rfl (Or.inl rfl) Y3)))
    (g7 (G2 PassesOwn.leaving rfl (Yu rfl T.range (b7 (g8 n8 n9 (qv 4) c7) (b7 (qv 0) b9))) (g_n (i:=5) sc__law_threes.nd rfl (Or.inl rfl))
    (g7 (B1 (QW.pt (Bp (D3 (Bs hr.units) S4 (m9 (b7 (qv 3) (b7 (qv 5) b9))) (qv 1) (by with_unfolding_all rfl)) (Gm (D3 (Bs hr.units) S4 (m9 (b7 (qv 4) (b7 (qv 5) b9))) (qv 1) (by with_unfolding_all rfl)))))
    (g7 (N9 PySem.F.plainAttrs_list PySem.F.slot_list_append PySem.F.type_list_append U4 Y2 O5 (pw 2) (b7 (m9 (b7 (qv 3) (b7 (qv 4) (b7 (qv 5) b9)))) b9)))
    C2)))))
   (g7 (k8 (C0 (P1 rfl hr.units) P4 rfl T.sorted boot_sorted (b7 (qv 2) b9))))))
theorem z83 (F:Fun K "_law_sharing" "_law_sharing" Lo f fd) (T:Txt mg)  : FnOk P w K mg base (CX1 P w) 1 f fd ["_law_way","_law_corners","_law_threes_here"] (spD K mg false Q1 3):=
 fnD (k:=0) F z7z rfl rfl fun cdv A outer s H E hr=>
  (d7 (B1 (QW.pt (Ay (O0 (W8 (W7 rfl T.isinstance boot_isinstance (qv 0) (Z9 (v:=.ty "tuple") rfl T.tuple boot_tuple rfl)))) (Bq (tN hr (QE.wk (C0 y1e ky rfl T.sorted boot_sorted (b7 (qv 0) b9))) (qv 1) (l9 _)))))
    (g7 (k8 Az))
    C2)
   (g7 (k8 (C0 (jm rfl) qk rfl T.«all» boot_all (b7 (QE.wk (Aw (u6 (caps:=[]) (ix:=[]) rfl rfl) (by decide +kernel) rfl rfl (Mw rfl T.zip (b7 (qv 0) (b7 (qv 2) b9))) .nil (fun _ _ _=>(S3 (Bs hr.units) S4 (qv 0) (qv 1) (by with_unfolding_all rfl))))) b9)))))
theorem zU (F:Fun K "_law_term" "_law_term" Ks f fd) (T:Txt mg)  : FnOk P w K mg base (CX1 P w) 1 f fd ["_law_way","_law_threes_here","_law_lines","_law_some"] (spD K mg false P8 4):=
 fnD (k:=0) F sc__law_term rfl rfl fun cdv A outer s H E hr=>
  (d7 (Av sc__law_term.nd (k:=4) rfl rfl (u6 (caps:=["_law_lines"]) (ix:=[2]) rfl rfl) (by decide +kernel) rfl (v9 (qv 3)) .nil (fun _ _ _=>(V4 X3 Y4 (x8 Fi Gk rfl T.int boot_int (b7 (S3 (Bs hr.units) S4 (qv 0) (qv 1) (by with_unfolding_all rfl)) b9)))))
   (d7 (G2 PassesOwn.leaving rfl (Mw rfl T.zip (b7 (qv 0) (b7 (qv 1) b9))) (g_t rfl (E4 (i:=5) sc__law_term.nd rfl (Or.inr rfl) (E4 (i:=6) sc__law_term.nd rfl (Or.inl rfl) Y3)))
    (d7 (sA 7 sc__law_term.nd (x8 T7 T6 rfl T.tuple boot_tuple (b7 (QE.wk (M4 (u6 (caps:=["_law_corner"]) (ix:=[5]) rfl rfl) (by decide +kernel) rfl (v9 (qv 6)) (.one fun _ _ _=>(tN hr (qv 0) (qv 1) (l9 _))) (fun _ _ _=>(qv 0)))) b9)))
   (d7 (sA 8 sc__law_term.nd (xE hr.units (qv 3) (qv 7)))
   (g7 (Ez hr.units (pw 4) (qv 8) (g8 n8 n9 (qI hr (qv 4) (qv 8)) c7))))))
   (g7 (k8 (x8 T7 T6 rfl T.tuple boot_tuple (b7 (qv 4) b9))))))
theorem yo (F:Fun K "is_two" "is_two" Jh f fd) (T:Txt mg) (G_is_whole:Kg P w K mg base):FnOk P w K mg base (CX1 P w) 2 f fd ["thing"] (spD K mg false Ac 1):=
 fnD (k:=1) F yp rfl rfl fun cdv A outer s H E hr=>
  (g7 (k8 (Br (W7 rfl T.isinstance boot_isinstance (qv 0) (Z9 (v:=.ty "tuple") rfl T.tuple boot_tuple rfl)) (Br (S3 (Fd hr.units) Fc (qL T.len (qv 0)) c7 (l9 _)) (Br (j6 j8 G_is_whole hr rfl (b7 (qI hr (qv 0) c7) b9)) (Nl (j6 j8 G_is_whole hr rfl (b7 (qI hr (qv 0) c7) b9))))))))
theorem z84 (F:Fun K "check_corner" "check_corner" Lq f fd) (T:Txt mg) (G_is_whole:Kg P w K mg base):FnOk P w K mg base (CX1 P w) 2 f fd ["n","thing"] (spD K mg false Q0 2):=
 fnD (k:=1) F z7x rfl rfl fun cdv A outer s H E hr=>
  (g7 (B1 (QW.pt (Ay (O0 (W8 (j6 j8 G_is_whole hr rfl (b7 (qv 1) b9)))) (Bq (O0 (Nk c7 (Hs Ee Fe (qv 1) (Sy V8 Y5 (qv 0))))))))
   (g7 Hr)
   C2))
theorem ze (F:Fun K "letters" "letters" Jy f fd) (T:Txt mg) (G_pair:On P w K mg base):FnOk P w K mg base (CX1 P w) 2 f fd ["cut"] (spD K mg true U0 1):=
 fnD (k:=1) F sc_letters rfl rfl fun cdv A outer s H E hr=>
  (d7 (sA 1 sc_letters.nd (qI hr (qv 0) c7))
   (d7 (Av sc_letters.nd (k:=2) rfl rfl (u6 (caps:=["n"]) (ix:=[1]) rfl rfl) (by decide +kernel) rfl (Me rfl T.range (b7 (qv 1) b9)) .nil (fun _ _ _=>(j6 Dz G_pair hr rfl (b7 (qv 0) (b7 (g8 K9 L4 (g8 n8 n9 (qv 0) c7) (qv 1)) b9)))))
   (g7 (k8 (C0 (P1 rfl hr.units) P4 rfl T.sorted boot_sorted (b7 (QE.wk (g8 Cl Cg (qv 2) (QE.wk (x8 Cz Cy rfl T.list boot_list (b7 (qI hr (qv 0) c7) b9))))) b9))))))
theorem zai (F:Fun K "room_under" "room_under" Le f fd) (T:Txt mg) (G_corner_behind:Yj P w K mg base):FnOk P w K mg base (CX1 P w) 2 f fd ["top","lines"] (spD K mg false Am 2):=
 fnD (k:=1) F sc_room_under rfl rfl fun cdv A outer s H E hr=>
  (d7 (sA 2 sc_room_under.nd (D4 (b7 (qI hr (qv 0) c7) b9)))
   (d7 (wb (n:=1000) PassesOwn.leaving (D3 V8 Y5 (qI hr (qv 2) (V4 X3 Y4 c7)) (qI hr (qv 0) c7) (l9 _))
    (g7 (N9 PySem.F.plainAttrs_list PySem.F.slot_list_append PySem.F.type_list_append U4 Y2 O5 (pw 2) (b7 (j6 j8 G_corner_behind hr rfl (b7 (qI hr (qv 2) (V4 X3 Y4 c7)) (b7 (qv 0) (b7 (qv 1) b9)))) b9))))
   (g7 (k8 (x8 T7 T6 rfl T.tuple boot_tuple (b7 (qv 2) b9))))))
theorem zaj (F:Fun K "_law_floor" "_law_floor" La f fd) (T:Txt mg) (G__law_grown:Xg P w K mg base):FnOk P w K mg base (CX1 P w) 2 f fd ["_law_way","_law_cells"] (spD K mg false Ak 2):=
 fnD (k:=1) F sc__law_floor rfl rfl fun cdv A outer s H E hr=>
  (d7 (sA 2 sc__law_floor.nd (D4 (b7 c7 (b7 c7 (b7 c7 b9)))))
   (d7 (sA 3 sc__law_floor.nd (D4 b9))
   (d7 (G2 PassesOwn.leaving rfl (y3q rfl T.enumerate (b7 (qv 1) b9)) (g_t rfl (E4 (i:=4) sc__law_floor.nd rfl (Or.inl rfl) (E4 (i:=5) sc__law_floor.nd rfl (Or.inl rfl) Y3)))
    (d7 (sA 6 sc__law_floor.nd (g8 K9 L4 (qv 5) (qL T.len (qv 2))))
   (d7 (B1 (tE hr (g8 K9 L4 (qv 0) c7) c7 (l9 _))
    (g7 (sA 6 sc__law_floor.nd (g8 Qi Qc (qv 4) c7)))
    C2)
   (g7 (Ni (j6 j8 G__law_grown hr rfl (b7 (qv 2) (b7 (qv 3) (b7 (qv 6) b9)))) (g_t rfl (E4 (i:=2) sc__law_floor.nd rfl (Or.inl rfl) (E4 (i:=3) sc__law_floor.nd rfl (Or.inl rfl) Y3))))))))
   (g7 (k8 (m9 (b7 (qv 2) (b7 (QE.wk (C0 (P1 rfl hr.units) P4 rfl T.sorted boot_sorted (b7 (qv 3) b9))) b9))))))))
theorem xh (F:Fun K "rooms" "rooms" Hd f fd) (T:Txt mg) (G_room_under:Xf P w K mg base):FnOk P w K mg base (CX1 P w) 3 f fd ["n","lines"] (spD K mg true Z3 2):=
 fnD (k:=2) F sc_rooms rfl rfl fun cdv A outer s H E hr=>
  (d7 (sA 2 sc_rooms.nd (g8 Cl Cg (QE.wk (D4 (b7 (m9 (b7 c7 (b7 (g8 D6 E1 (qv 0) c7) b9))) b9))) (QE.wk (x8 Cz Cy rfl T.list boot_list (b7 (qv 1) b9)))))
   (g7 (k8 (C0 (P1 rfl hr.units) P4 rfl T.sorted boot_sorted (b7 (QE.wk (M4 (u6 (caps:=["lines"]) (ix:=[1]) rfl rfl) (by decide +kernel) rfl (v9 (qv 2)) .nil (fun _ _ _=>(j6 Dz G_room_under hr rfl (b7 (qv 0) (b7 (qv 1) b9)))))) b9)))))
theorem z70 (F:Fun K "check_corners" "check_corners" Lw f fd) (T:Txt mg) (G_is_two:Tu P w K mg base):FnOk P w K mg base (CX1 P w) 3 f fd ["n","p"] (spD K mg false Ar 2):=
 fnD (k:=2) F z6y rfl rfl fun cdv A outer s H E hr=>
  (g7 (B1 (QW.pt (Ay (O0 (W8 (j6 j8 G_is_two hr rfl (b7 (qv 1) b9)))) (Bq (O0 (Nk c7 (Hs Ee Fe (qI hr (qv 1) c7) (Hs V8 Y5 (qI hr (qv 1) c7) (Sy V8 Y5 (qv 0)))))))))
   (g7 Hr)
   C2))
theorem zT (F:Fun K "triangles" "triangles" Ku f fd) (T:Txt mg) (G_rooms:Rc P w K mg base):FnOk P w K mg base (CX1 P w) 4 f fd ["cut"] (spD K mg true E7 1):=
 fnD (k:=3) F zV rfl rfl fun cdv A outer s H E hr=>
  (g7 (k8 (j6 j8 G_rooms hr rfl (b7 (qI hr (qv 0) c7) (b7 (qI hr (qv 0) c7) b9)))))
theorem zB (F:Fun K "sharings" "sharings" Kj f fd) (T:Txt mg) (G_carried_on:Xi P w K mg base) (G_check_corner:Xy P w K mg base) (G_triangles:Kr P w K mg base):FnOk P w K mg base (CX1 P w) 5 f fd ["cut","i","j"] (spD K mg true J7 3):=
 fnD (k:=4) F sc_sharings rfl rfl fun cdv A outer s H E hr=>
  (d7 (Gj (j6 j8 G_check_corner hr rfl (b7 (qI hr (qv 0) c7) (b7 (qv 1) b9))))
   (d7 (Gj (j6 j8 G_check_corner hr rfl (b7 (qI hr (qv 0) c7) (b7 (qv 2) b9))))
   (d7 (B1 (D3 Ed Gn (qI hr (qv 0) c7) c7 (l9 _))
    (g7 Hr)
    C2)
   (d7 (B1 (tE hr (qv 1) (qv 2) (l9 _))
    (g7 (k8 (D4 b9)))
    C2)
   (d7 (sA 3 sc_sharings.nd (D4 (b7 (m9 b9) b9)))
   (d7 (G2 PassesOwn.leaving rfl (v9 (QE.wk (j6 j8 G_triangles hr rfl (b7 (qv 0) b9)))) (g_n (i:=4) sc_sharings.nd rfl (Or.inl rfl))
    (g7 (sA 3 sc_sharings.nd (j6 j8 G_carried_on hr rfl (b7 (qv 3) (b7 (QE.wk (M4 (u6 (caps:=["i","j"]) (ix:=[1,2]) rfl rfl) (by decide +kernel) rfl (v9 (qv 4)) (.one fun _ _ _=>(QW.pt (Bp (tN hr (qv 0) (qv 1) (l9 _)) (Gm (tN hr (qv 0) (qv 2) (l9 _)))))) (fun _ _ _=>(qv 0)))) b9))))))
   (g7 (Pz (i:=3)))))))))
theorem zS (F:Fun K "powers_of" "powers_of" Kt f fd) (T:Txt mg) (G_letters:Vb P w K mg base) (G_opposite:Wg P w K mg base) (G_triangles:Kr P w K mg base):FnOk P w K mg base (CX1 P w) 5 f fd ["cut","given"] (spD K mg false Aj 2):=
 fnD (k:=4) F sc_powers_of rfl rfl fun cdv A outer s H E hr=>
  (d7 (sA 2 sc_powers_of.nd (Aw (u6 (caps:=[]) (ix:=[]) rfl rfl) (by decide +kernel) rfl rfl (kJ rfl T.zip (b7 (QE.wk (j6 j8 G_triangles hr rfl (b7 (qv 0) b9))) (b7 (qv 1) b9))) .nil (fun _ _ _=>(j6 Dz G_opposite hr rfl (b7 (qv 0) (b7 (qv 1) b9))))))
   (g7 (k8 (x8 T7 T6 rfl T.tuple boot_tuple (b7 (QE.wk (M4 (u6 (caps:=["above","cut"]) (ix:=[2,0]) rfl rfl) (by decide +kernel) rfl (v9 (QE.wk (j6 j8 G_letters hr rfl (b7 (qv 0) b9)))) .nil (fun _ _ _=>(g8 D6 E1 (kB hr.units (qv 1) (qv 0)) (kA hr.units (qI hr (qv 2) c7) (qv 0)))))) b9)))))
theorem zA (F:Fun K "fraction" "fraction" Kh f fd) (T:Txt mg) (G_check_corners:Yi P w K mg base) (G_powers_of:Wv P w K mg base) (G_sharings:Kf P w K mg base) (G_sum_from:Wf P w K mg base):FnOk P w K mg base (CX1 P w) 6 f fd ["cut","p"] (spD K mg true M1 2):=
 fnD (k:=5) F sc_fraction rfl rfl fun cdv A outer s H E hr=>
  (d7 (Gj (j6 j8 G_check_corners hr rfl (b7 (qI hr (qv 0) c7) (b7 (qv 1) b9))))
   (d7 (sA 2 sc_fraction.nd Pl)
   (d7 (G2 PassesOwn.leaving rfl (v9 (QE.wk (j6 j8 G_sharings hr rfl (b7 (qv 0) (b7 (qI hr (qv 1) c7) (b7 (qI hr (qv 1) c7) b9)))))) (g_n (i:=3) sc_fraction.nd rfl (Or.inl rfl))
    (d7 (sA 4 sc_fraction.nd (j6 j8 G_powers_of hr rfl (b7 (qv 0) (b7 (qv 3) b9))))
   (g7 (Pm hr.units (pw 2) (qv 4) (g8 n8 n9 (Pj hr.units (qv 2) (qv 4) c7) c7)))))
   (g7 (k8 (j6 j8 G_sum_from hr rfl (b7 (qv 2) b9)))))))
theorem kd (F:Fun K "law" "law" El f fd) (T:Txt mg) (G__law_drawn:Xh P w K mg base) (G__law_floor:Xe P w K mg base) (G__law_letters:Yb P w K mg base) (G__law_number:Xs P w K mg base) (G__law_sharing:Xz P w K mg base) (G__law_term:Ww P w K mg base) (G__law_threes:Xr P w K mg base) (G_fraction:We P w K mg base) (G_sharings:Kf P w K mg base):FnOk P w K mg base (CX1 P w) 7 f fd ["_law_script"] (spD K mg false R5 1):=
 fnD (k:=6) F sc_law rfl rfl fun cdv A outer s H E hr=>
  (d7 (sA 1 sc_law.nd (j6 j8 G__law_drawn hr rfl (b7 (qv 0) (b7 c7 b9))))
   (d7 (sA 2 sc_law.nd c7)
   (d7 (B1 (tE hr (g8 K9 L4 (g8 Qi Qc (qv 1) c7) c7) c7 (l9 _))
    (g7 (sA 2 sc_law.nd c7))
    C2)
   (d7 (Ni (j6 j8 G__law_floor hr rfl (b7 (qv 1) (b7 (QE.wk (Yv To Sw (qv 0) (Ax c7) (Ax (g8 n8 n9 c7 (qv 2))))) b9))) (g_t rfl (E4 (i:=3) sc_law.nd rfl (Or.inl rfl) (E4 (i:=4) sc_law.nd rfl (Or.inl rfl) Y3))))
   (d7 (sA 5 sc_law.nd (qL T.len (qv 3)))
   (d7 (sA 6 sc_law.nd (m9 (b7 (qv 5) (b7 (x8 T7 T6 rfl T.tuple boot_tuple (b7 (qv 4) b9)) b9))))
   (d7 (sA 7 sc_law.nd (g8 K9 L4 (j6 j8 G__law_drawn hr rfl (b7 (qv 0) (b7 c7 b9))) (g8 D6 E1 (qv 5) c7)))
   (d7 (sA 8 sc_law.nd (g8 n8 n9 (g8 n8 n9 (qv 7) c7) (g8 K9 L4 (j6 j8 G__law_drawn hr rfl (b7 (qv 0) (b7 c7 b9))) (g8 D6 E1 (g8 D6 E1 (qv 5) c7) (qv 7)))))
   (d7 (sA 9 sc_law.nd (j6 j8 G__law_letters hr rfl (b7 (qv 5) (b7 (qv 4) b9))))
   (d7 (sA 10 sc_law.nd (j6 j8 G__law_threes hr rfl (b7 (qv 5) (b7 (qv 9) b9))))
   (d7 (sA 11 sc_law.nd (j6 j8 G_sharings hr rfl (b7 (qv 6) (b7 (qv 7) (b7 (qv 8) b9)))))
   (d7 (B1 (QW.pt (Ay (O0 (W8 (W7 rfl T.isinstance boot_isinstance (qv 11) (Z9 (v:=.ty "list") rfl T.list boot_list rfl)))) (Bq (tN hr (qL T.len (qv 11)) (j6 j8 G__law_number hr rfl (b7 (qv 3) (b7 (qv 7) (b7 (qv 8) b9)))) (l9 _)))))
    (g7 (k8 Az))
    C2)
   (d7 (Av sc_law.nd (k:=12) rfl rfl (u6 (caps:=["_law_a","_law_b"]) (ix:=[7,8]) rfl rfl) (by decide +kernel) rfl (Me rfl T.range (b7 (qv 5) b9)) (.one fun _ _ _=>(D3 (Ul hr.units) S4 (qv 0) (m9 (b7 (qv 1) (b7 (qv 2) b9))) (by with_unfolding_all rfl))) (fun _ _ _=>(qv 0)))
   (d7 (sA 13 sc_law.nd Pl)
   (d7 (G2 PassesOwn.leaving rfl (v9 (qv 11)) (g_n (i:=14) sc_law.nd rfl (Or.inl rfl))
    (d7 (B1 (O0 (W8 (j6 j8 G__law_sharing hr rfl (b7 (qv 14) (b7 (qv 12) (b7 (qv 10) b9))))))
    (g7 (k8 Az))
    C2)
   (d7 (sA 15 sc_law.nd (j6 j8 G__law_term hr rfl (b7 (qv 14) (b7 (qv 10) (b7 (qv 4) (b7 (qv 9) b9))))))
   (g7 (Pm hr.units (pw 13) (qv 15) (g8 n8 n9 (Pj hr.units (qv 13) (qv 15) c7) c7))))))
   (d7 (B1 (tN hr (xl rfl hr.units rfl T.len PyProof.Rows.Boot.«len» rfl T.set PyProof.Rows.Boot.«set» (b7 (qv 11) b9)) (qL T.len (qv 11)) (l9 _))
    (g7 (k8 Az))
    C2)
   (g7 (k8 (S3 (Fd hr.units) Fc (QE.wk (j6 j8 G_fraction hr rfl (b7 (qv 6) (b7 (m9 (b7 (qv 7) (b7 (qv 8) b9))) b9)))) (QE.wk (C0 (P1 rfl hr.units) P4 rfl T.sorted boot_sorted (b7 (QE.wk (Aw (u6 (caps:=[]) (ix:=[]) rfl rfl) (by decide +kernel) rfl rfl (Sa (qv 13)) .nil (fun _ _ _=>(m9 (b7 (qv 0) (b7 (qv 1) b9)))))) b9))) (l9 _))))))))))))))))))))
end
theorem all_mk {l:PySem.W.OpenLaw} {w:World} {K:Frag} {h:Heap} {mg:Str->Option Value} {fa:Addr} (X:K.In h) (G:h.Ns mainGlobals mg) (hfa:mg "law"=some (.ref fa))
  {f0 f1 f2 f3 f4 f5 f6 f7 f8 f9 f10 f11 f12 f13 f14 f15 f16 f17 f18 f19 f20 f21 f22 f23 f24:Addr}
  (A0:FnAt K "is_whole" Kl f0)
  (A1:FnAt K "pair" Fw f1)
  (A2:FnAt K "opposite" Kk f2)
  (A3:FnAt K "corner_behind" Lx f3)
  (A4:FnAt K "carried_on" Ld f4)
  (A5:FnAt K "sum_from" Ki f5)
  (A6:FnAt K "_law_drawn" Lc f6)
  (A7:FnAt K "_law_grown" Lb f7)
  (A8:FnAt K "_law_number" Lk f8)
  (A9:FnAt K "_law_letters" Lp f9)
  (A10:FnAt K "_law_threes" Lj f10)
  (A11:FnAt K "_law_sharing" Lo f11)
  (A12:FnAt K "_law_term" Ks f12)
  (A13:FnAt K "is_two" Jh f13)
  (A14:FnAt K "check_corner" Lq f14)
  (A15:FnAt K "letters" Jy f15)
  (A16:FnAt K "room_under" Le f16)
  (A17:FnAt K "_law_floor" La f17)
  (A18:FnAt K "rooms" Hd f18)
  (A19:FnAt K "check_corners" Lw f19)
  (A20:FnAt K "triangles" Ku f20)
  (A21:FnAt K "sharings" Kj f21)
  (A22:FnAt K "powers_of" Kt f22)
  (A23:FnAt K "fraction" Kh f23)
  (A24:FnAt K "law" El f24)
  (T:Txt mg) :
  ∃fd:FuncData,(∀(s:Shared) (v:Value),BindsTo s fd ⟨[v],[]⟩ [("_law_script",v)])/\∀base:Heap,K.In base->base.Ns mainGlobals mg->FnOk l.prog w K mg base (CX1 l.prog w) 7 fa fd ["_law_script"] (spL K false R5 1):=by
 refine kE X G hfa A24 (fun _ _ _ _ _ _ _ _=>.of_eq rfl) fun base kb nb fd F=>?_
 have G_is_whole:Kg l.prog w K mg base:=got X G A0 fun F=>zF F T 
 have G_pair:On l.prog w K mg base:=got X G A1 fun F=>vv F T 
 have G_opposite:Wg l.prog w K mg base:=got X G A2 fun F=>zE F T 
 have G_corner_behind:Yj l.prog w K mg base:=got X G A3 fun F=>z6z F T 
 have G_carried_on:Xi l.prog w K mg base:=got X G A4 fun F=>zaf F T 
 have G_sum_from:Wf l.prog w K mg base:=got X G A5 fun F=>zC F T 
 have G__law_drawn:Xh l.prog w K mg base:=got X G A6 fun F=>zag F T 
 have G__law_grown:Xg l.prog w K mg base:=got X G A7 fun F=>zah F T 
 have G__law_number:Xs l.prog w K mg base:=got X G A8 fun F=>z8f F T 
 have G__law_letters:Yb l.prog w K mg base:=got X G A9 fun F=>z82 F T 
 have G__law_threes:Xr l.prog w K mg base:=got X G A10 fun F=>z8g F T 
 have G__law_sharing:Xz l.prog w K mg base:=got X G A11 fun F=>z83 F T 
 have G__law_term:Ww l.prog w K mg base:=got X G A12 fun F=>zU F T 
 have G_is_two:Tu l.prog w K mg base:=got X G A13 fun F=>yo F T G_is_whole
 have G_check_corner:Xy l.prog w K mg base:=got X G A14 fun F=>z84 F T G_is_whole
 have G_letters:Vb l.prog w K mg base:=got X G A15 fun F=>ze F T G_pair
 have G_room_under:Xf l.prog w K mg base:=got X G A16 fun F=>zai F T G_corner_behind
 have G__law_floor:Xe l.prog w K mg base:=got X G A17 fun F=>zaj F T G__law_grown
 have G_rooms:Rc l.prog w K mg base:=got X G A18 fun F=>xh F T G_room_under
 have G_check_corners:Yi l.prog w K mg base:=got X G A19 fun F=>z70 F T G_is_two
 have G_triangles:Kr l.prog w K mg base:=got X G A20 fun F=>zT F T G_rooms
 have G_sharings:Kf l.prog w K mg base:=got X G A21 fun F=>zB F T G_carried_on G_check_corner G_triangles
 have G_powers_of:Wv l.prog w K mg base:=got X G A22 fun F=>zS F T G_letters G_opposite G_triangles
 have G_fraction:We l.prog w K mg base:=got X G A23 fun F=>zA F T G_check_corners G_powers_of G_sharings G_sum_from
 exact (kd F T G__law_drawn G__law_floor G__law_letters G__law_number G__law_sharing G__law_term G__law_threes G_fraction G_sharings).imp fun _ _ _ _ z=>z.spD
abbrev kO (n:String) (t1:Nat) (q:String) (t2 t3:Nat) (a b c d e:Int) (r1:Nat) (g:Int) (r2 r3 r4 r5:Nat) (k l:Int) (t4:Nat):Obj:=⟨.type "code",none,.fields [vs n t1,vs q t2,vs "/claim/cut.py" t3,.int a 0,.int b 0,.int c 0,.int d 0,.int e 0,.ref r1,.bool true,.int g 0,.ref r2,.none,.ref r3,.ref r4,.ref r5,.int k 0,.int l 0,vs "/claim/cut.py" t4].toArray,#[]⟩
abbrev kCo (n:String) (t1:Nat) (q:String) (t2 t3:Nat) (a b c d e:Int) (r1:Nat) (g:Int) (r2 r5:Nat) (k l:Int) (t4:Nat):Obj:=⟨.type "code",none,.fields [vs n t1,vs q t2,vs "/claim/cut.py" t3,.int a 0,.int b 0,.int c 0,.int d 0,.int e 0,.ref r1,.bool true,.int g 0,.ref r2,.none,.none,.none,.ref r5,.int k 0,.int l 0,vs "/claim/cut.py" t4].toArray,#[]⟩
abbrev fO (i:Nat) (n m:String) (t r:Nat):Obj:=oF (top i) n n .none .none .none (vs m t) none (.ref r) .none
abbrev cO (n:String) (b a ns r t1 t2:Nat):Obj:=⟨.type "type",none,.cls { name:=Str.ofString n,bases:=[.ref b],mro:=[.ref a,.ref b,.type "ValueError",.type "Exception",.type "BaseException",.type "object"],ns:=ns,qualname:=Str.ofString n,hasDict:=true,slotNames:=[],subclasses:=[],abstract:=false,collection:=none,hasDel:=false },#[some (.ref r),none,some (vs n t1),some (vs n t2),some (.builtin "ValueError.__new__"),some (.bool true)]⟩
noncomputable def K:Params->Frag:=fun P=>
 (nat_lit 2,⟨.none,none,(.dict [].toArray 0),#[]⟩) ::
 (nat_lit 3,oD [en P "__name__" 165 (vs "law_friezeyard_k66_fractions_by_sharings" 382),en P "__doc__" 166 .none,en P "__package__" 167 .none,en P "__loader__" 168 (.builtin "__main__.__loader__#opaque"),en P "__spec__" 169 .none,en P "__annotations__" 170 (.ref 6),en P "__builtins__" 171 (.ref 4),en P "__file__" 173 (vs "/claim/cut.py" 172),en P "__cached__" 174 .none,en P "FloorError" 206 (.ref 24),en P "NoLine" 222 (.ref 37),en P "NoCorner" 238 (.ref 49),en P "TooMany" 254 (.ref 61),en P "is_whole" 263 (.ref 70),en P "pair" 271 (.ref 77),en P "is_two" 280 (.ref 84),en P "check_corner" 288 (.ref 91),en P "opposite" 294 (.ref 96),en P "letters" 302 (.ref 101),en P "rooms" 310 (.ref 106),en P "room_under" 319 (.ref 113),en P "corner_behind" 325 (.ref 118),en P "triangles" 332 (.ref 125),en P "sharings" 340 (.ref 130),en P "carried_on" 346 (.ref 135),en P "sum_from" 354 (.ref 140),en P "fraction" 367 (.ref 147),en P "check_corners" 375 (.ref 154),en P "powers_of" 381 (.ref 159),en P "_law_drawn" 391 (.ref 166),en P "_law_grown" 397 (.ref 171),en P "_law_floor" 410 (.ref 178),en P "_law_number" 421 (.ref 185),en P "_law_letters" 427 (.ref 190),en P "_law_threes" 439 (.ref 197),en P "_law_sharing" 445 (.ref 202),en P "_law_term" 451 (.ref 207),en P "law" 457 (.ref 212)] 38) ::
 (nat_lit 15,oT [(.type "ValueError")]) ::
 (nat_lit 22,oT []) ::
 (nat_lit 23,oD [en P "__module__" 196 (vs "friezeyard.errors" 187),en P "__firstlineno__" 200 (.int 2 199),en P "__static_attributes__" 201 (.ref 22),en P "__weakref__" 203 (.ref 25),en P "__doc__" 204 .none] 3) ::
 (nat_lit 24,⟨(.type "type"),none,(.cls { name:=Str.ofString "FloorError",bases:=[(.type "ValueError")],mro:=[(.ref 24),(.type "ValueError"),(.type "Exception"),(.type "BaseException"),(.type "object")],ns:=23,qualname:=Str.ofString "FloorError",hasDict:=true,slotNames:=[],subclasses:=[(.ref 37),(.ref 49),(.ref 61)],abstract:=false,collection:=none,hasDel:=false }),#[some (.ref 15),none,some (vs "FloorError" 189),some (vs "FloorError" 197),some (.builtin "ValueError.__new__"),some (.bool true)]⟩) ::
 (nat_lit 25,⟨(.type "getset_descriptor"),none,(.fields [(vs "__weakref__" 202),(.ref 24),(.builtin "ExceptionGroup.__weakref__"),.none].toArray),#[]⟩) ::
 (nat_lit 28,oT [(.ref 24)]) ::
 (nat_lit 35,oT []) ::
 (nat_lit 36,oD [en P "__module__" 214 (vs "friezeyard.errors" 187),en P "__firstlineno__" 218 (.int 4 217),en P "__static_attributes__" 219 (.ref 35),en P "__doc__" 220 .none] 2) ::
 (nat_lit 37,(cO "NoLine" 24 37 36 28 207 215)) ::
 (nat_lit 40,oT [(.ref 24)]) ::
 (nat_lit 47,oT []) ::
 (nat_lit 48,oD [en P "__module__" 230 (vs "friezeyard.errors" 187),en P "__firstlineno__" 234 (.int 6 233),en P "__static_attributes__" 235 (.ref 47),en P "__doc__" 236 .none] 2) ::
 (nat_lit 49,(cO "NoCorner" 24 49 48 40 223 231)) ::
 (nat_lit 52,oT [(.ref 24)]) ::
 (nat_lit 59,oT []) ::
 (nat_lit 60,oD [en P "__module__" 246 (vs "friezeyard.errors" 187),en P "__firstlineno__" 250 (.int 8 249),en P "__static_attributes__" 251 (.ref 59),en P "__doc__" 252 .none] 2) ::
 (nat_lit 61,(cO "TooMany" 24 61 60 52 239 247)) ::
 (nat_lit 64,oT []) ::
 (nat_lit 66,oT [(vs "thing" 260)]) ::
 (nat_lit 67,oT []) ::
 (nat_lit 69,(kO "is_whole" 257 "is_whole" 258 259 11 1 0 0 3 64 181 65 66 67 68 261 11 262)) ::
 (nat_lit 70,(fO 6 "is_whole" "friezeyard.pairs" 255 69)) ::
 (nat_lit 71,oT []) ::
 (nat_lit 73,oT [(vs "a" 267),(vs "b" 268)]) ::
 (nat_lit 74,oT []) ::
 (nat_lit 76,(kO "pair" 264 "pair" 265 266 13 2 0 0 3 71 181 72 73 74 75 269 13 270)) ::
 (nat_lit 77,(fO 7 "pair" "friezeyard.pairs" 255 76)) ::
 (nat_lit 78,oT []) ::
 (nat_lit 80,oT [(vs "thing" 277)]) ::
 (nat_lit 81,oT []) ::
 (nat_lit 83,(kO "is_two" 274 "is_two" 275 276 16 1 0 0 3 78 181 79 80 81 82 278 16 279)) ::
 (nat_lit 84,(fO 9 "is_two" "friezeyard.common" 272 83)) ::
 (nat_lit 85,oT []) ::
 (nat_lit 87,oT [(vs "n" 284),(vs "thing" 285)]) ::
 (nat_lit 88,oT []) ::
 (nat_lit 90,(kO "check_corner" 281 "check_corner" 282 283 18 2 0 0 3 85 181 86 87 88 89 286 18 287)) ::
 (nat_lit 91,(fO 10 "check_corner" "friezeyard.common" 272 90)) ::
 (nat_lit 92,oT []) ::
 (nat_lit 95,(kCo "opposite" 289 "opposite" 290 291 21 2 0 0 3 92 181 93 94 292 21 293)) ::
 (nat_lit 96,(fO 11 "opposite" "friezeyard.common" 272 95)) ::
 (nat_lit 97,oT []) ::
 (nat_lit 100,(kCo "letters" 297 "letters" 298 299 24 1 0 0 3 97 181 98 99 300 24 301)) ::
 (nat_lit 101,(fO 13 "letters" "friezeyard.letters" 295 100)) ::
 (nat_lit 102,oT []) ::
 (nat_lit 105,(kCo "rooms" 305 "rooms" 306 307 29 2 0 0 3 102 181 103 104 308 29 309)) ::
 (nat_lit 106,(fO 15 "rooms" "friezeyard.rooms" 303 105)) ::
 (nat_lit 107,oT []) ::
 (nat_lit 109,oT [(vs "top" 314),(vs "lines" 315),(vs "room" 316)]) ::
 (nat_lit 110,oT []) ::
 (nat_lit 112,(kO "room_under" 311 "room_under" 312 313 32 2 0 0 3 107 181 108 109 110 111 317 32 318)) ::
 (nat_lit 113,(fO 16 "room_under" "friezeyard.rooms" 303 112)) ::
 (nat_lit 114,oT []) ::
 (nat_lit 117,(kCo "corner_behind" 320 "corner_behind" 321 322 37 3 0 0 3 114 181 115 116 323 37 324)) ::
 (nat_lit 118,(fO 17 "corner_behind" "friezeyard.rooms" 303 117)) ::
 (nat_lit 119,oT []) ::
 (nat_lit 121,oT [(vs "cut" 329)]) ::
 (nat_lit 122,oT []) ::
 (nat_lit 124,(kO "triangles" 326 "triangles" 327 328 40 1 0 0 3 119 181 120 121 122 123 330 40 331)) ::
 (nat_lit 125,(fO 18 "triangles" "friezeyard.rooms" 303 124)) ::
 (nat_lit 126,oT []) ::
 (nat_lit 129,(kCo "sharings" 335 "sharings" 336 337 43 3 0 0 3 126 181 127 128 338 43 339)) ::
 (nat_lit 130,(fO 20 "sharings" "friezeyard.sharings" 333 129)) ::
 (nat_lit 131,oT []) ::
 (nat_lit 134,(kCo "carried_on" 341 "carried_on" 342 343 54 2 0 0 3 131 181 132 133 344 54 345)) ::
 (nat_lit 135,(fO 21 "carried_on" "friezeyard.sharings" 333 134)) ::
 (nat_lit 136,oT []) ::
 (nat_lit 139,(kCo "sum_from" 349 "sum_from" 350 351 60 1 0 0 3 136 181 137 138 352 60 353)) ::
 (nat_lit 140,(fO 23 "sum_from" "friezeyard.sums" 347 139)) ::
 (nat_lit 141,oT []) ::
 (nat_lit 143,oT [(vs "cut" 360),(vs "p" 361),(vs "found" 362),(vs "given" 363),(vs "powers" 364)]) ::
 (nat_lit 144,oT []) ::
 (nat_lit 146,(kO "fraction" 357 "fraction" 358 359 63 2 0 0 3 141 181 142 143 144 145 365 63 366)) ::
 (nat_lit 147,(fO 25 "fraction" "friezeyard.fractions" 355 146)) ::
 (nat_lit 148,oT []) ::
 (nat_lit 150,oT [(vs "n" 371),(vs "p" 372)]) ::
 (nat_lit 151,oT []) ::
 (nat_lit 153,(kO "check_corners" 368 "check_corners" 369 370 70 2 0 0 3 148 181 149 150 151 152 373 70 374)) ::
 (nat_lit 154,(fO 26 "check_corners" "friezeyard.fractions" 355 153)) ::
 (nat_lit 155,oT []) ::
 (nat_lit 158,(kCo "powers_of" 376 "powers_of" 377 378 73 2 0 0 3 155 181 156 157 379 73 380)) ::
 (nat_lit 159,(fO 27 "powers_of" "friezeyard.fractions" 355 158)) ::
 (nat_lit 160,oT []) ::
 (nat_lit 162,oT [(vs "_law_script" 387),(vs "_law_at" 388)]) ::
 (nat_lit 163,oT []) ::
 (nat_lit 165,(kO "_law_drawn" 384 "_law_drawn" 385 386 77 2 0 0 3 160 181 161 162 163 164 389 77 390)) ::
 (nat_lit 166,(fO 29 "_law_drawn" "law_friezeyard_k66_fractions_by_sharings" 382 165)) ::
 (nat_lit 167,oT []) ::
 (nat_lit 170,(kCo "_law_grown" 392 "_law_grown" 393 394 79 3 0 0 3 167 181 168 169 395 79 396)) ::
 (nat_lit 171,(fO 30 "_law_grown" "law_friezeyard_k66_fractions_by_sharings" 382 170)) ::
 (nat_lit 172,oT []) ::
 (nat_lit 174,oT [(vs "_law_way" 401),(vs "_law_cells" 402),(vs "_law_row" 403),(vs "_law_lines" 404),(vs "_law_k" 405),(vs "_law_cell" 406),(vs "_law_at" 407)]) ::
 (nat_lit 175,oT []) ::
 (nat_lit 177,(kO "_law_floor" 398 "_law_floor" 399 400 91 2 0 0 3 172 181 173 174 175 176 408 91 409)) ::
 (nat_lit 178,(fO 31 "_law_floor" "law_friezeyard_k66_fractions_by_sharings" 382 177)) ::
 (nat_lit 179,oT []) ::
 (nat_lit 181,oT [(vs "_law_row" 414),(vs "_law_a" 415),(vs "_law_b" 416),(vs "_law_some" 417),(vs "_law_at" 418)]) ::
 (nat_lit 182,oT []) ::
 (nat_lit 184,(kO "_law_number" 411 "_law_number" 412 413 100 3 0 0 3 179 181 180 181 182 183 419 100 420)) ::
 (nat_lit 185,(fO 32 "_law_number" "law_friezeyard_k66_fractions_by_sharings" 382 184)) ::
 (nat_lit 186,oT []) ::
 (nat_lit 189,(kCo "_law_letters" 422 "_law_letters" 423 424 105 2 0 0 3 186 181 187 188 425 105 426)) ::
 (nat_lit 190,(fO 33 "_law_letters" "law_friezeyard_k66_fractions_by_sharings" 382 189)) ::
 (nat_lit 191,oT []) ::
 (nat_lit 193,oT [(vs "_law_size" 431),(vs "_law_some" 432),(vs "_law_found" 433),(vs "_law_a" 434),(vs "_law_b" 435),(vs "_law_c" 436)]) ::
 (nat_lit 194,oT []) ::
 (nat_lit 196,(kO "_law_threes" 428 "_law_threes" 429 430 107 2 0 0 3 191 181 192 193 194 195 437 107 438)) ::
 (nat_lit 197,(fO 34 "_law_threes" "law_friezeyard_k66_fractions_by_sharings" 382 196)) ::
 (nat_lit 198,oT []) ::
 (nat_lit 201,(kCo "_law_sharing" 440 "_law_sharing" 441 442 114 3 0 0 3 198 181 199 200 443 114 444)) ::
 (nat_lit 202,(fO 35 "_law_sharing" "law_friezeyard_k66_fractions_by_sharings" 382 201)) ::
 (nat_lit 203,oT []) ::
 (nat_lit 206,(kCo "_law_term" 446 "_law_term" 447 448 118 4 0 0 3 203 181 204 205 449 118 450)) ::
 (nat_lit 207,(fO 36 "_law_term" "law_friezeyard_k66_fractions_by_sharings" 382 206)) ::
 (nat_lit 208,oT []) ::
 (nat_lit 211,(kCo "law" 452 "law" 453 454 125 1 0 0 3 208 181 209 210 455 125 456)) ::
 (nat_lit 212,(fO 37 "law" "law_friezeyard_k66_fractions_by_sharings" 382 211))::[]
noncomputable def places:List Addr:=[2,3,15,22,23,24,25,28,35,36,37,40,47,48,49,52,59,60,61,64,66,67,69,70,71,73,74,76,77,78,80,81,83,84,85,87,88,90,91,92,95,96,97,100,101,102,105,106,107,109,110,112,113,114,117,118,119,121,122,124,125,126,129,130,131,134,135,136,139,140,141,143,144,146,147,148,150,151,153,154,155,158,159,160,162,163,165,166,167,170,171,172,174,175,177,178,179,181,182,184,185,186,189,190,191,193,194,196,197,198,201,202,203,206,207,208,211,212]
theorem xg:∀P,places=(K P).map (·.1):=fun _=>by kernel_rfl
noncomputable def hook:PySem.W.Hook:=PySem.W.kHook K places xg
noncomputable def q:Program:=PySem.W.view PySem.Challenge.pw_friezeyard_k66_fractions_by_sharings [1,2,3,4,6,7,9,10,11,13,15,16,17,18,20,21,23,25,26,27,29,30,31,32,33,34,35,36,37]
noncomputable def xtH (s:Shared):Bool:=PySem.W.xlAt q [] s&&PySem.W.recOk (PySem.W.RowW.records PySem.Challenge.rw_friezeyard_k66_fractions_by_sharings.row.toRowW) s
noncomputable def out (w:World) (os:OsState):=outAt PySem.Challenge.pw_friezeyard_k66_fractions_by_sharings q [] xtH (fun s=>places.map s.heap.get?) 3360 w os
noncomputable def good:=PySem.W.openGood q []
example:((fun (_:Params->Obj) (_:Str)=>true) PySem.W.boot_o_0 (Str.ofString "dull"))=true:=by k_qdec
lay_quick out good
theorem kc:∀w os,out w os=some (true,good,(K w.params).map fun p=>some p.2):=fun w os=>(congrFun (congrFun PySem.W.Fast.te13133450919830432295 w) os).trans (by rw [PySem.W.Fast.te2136752196699144759];kernel_rfl)
theorem left:PySem.W.LeftO PySem.Challenge.pw_friezeyard_k66_fractions_by_sharings q [] xtH (PySem.W.Hook.obs hook) (PySem.W.Hook.val hook) 3360:=vz (by kernel_rfl) (by kernel_rfl) (fun _=>by kernel_rfl) kc
end K66
namespace K66
open L2 Bd Cu
local macro_rules | `(tactic| walk_at "dz")=>do
 let a:=("G6,wT,qa,Sj,Z0,zzo,X7,sNx,R4,B6,zzt,y15,F6,t8,L1,J1,zvi,zrf,wS,zvc,zvd,zrd,zve,zvf,zvg,zre,y0f,y0g,y0h,Fq,Fp,zvj,Gu,Ji,zrg,zvk,zw1,y0v,y0w,y0x,zw2,zrl,zm6,Wc,Dl,zvv,zvl,Si,Ab,zrh,Uw,N5,Gv,Option.bind_some,Bool.and_true,Bool.true_and,y0i,y0j,y0k,y0l,y3s,y3t,eC,eOp,eUn,b8,b6,g9,eCB,k0,x4,eIf,eSl,oSo,oNo,N7,bOr,D1,i6,N6,eOr,y3h,V9,zzj,zzk,Z1,T4,h7,iL,zrq,zrr,zrj,L2.R.bind_ok,L2.R.of_some,l8,u8,R3,dLe,Bl,dGe,y0m,K3,y0n,zo6,zvm,wR,zvn,zvo,Gs,wQ,wP,zvq,y0p,zvw,y0u,y10,zw7,zw8,zrt,zm9,zvz,y0t,y2y,y0a,y09,y11,y13,zma,Y9,wN,y0o,zvr,zri,zvs,zvt,wO,zvu,Sf,List.map_cons,List.map_nil,List.length_cons,List.length_nil,List.cons_append,List.nil_append,List.replicate_succ,List.replicate_zero,List.getElem?_cons_zero,List.getElem?_cons_succ,List.set_cons_zero,List.set_cons_succ,Option.map_some,Option.getD_some,if_true,if_false,Bool.false_eq_true,Bool.not_true,Bool.not_false,Bool.and_false,Bool.false_and,Bool.or_true,Bool.true_or,Bool.or_false,Bool.false_or,Nat.reduceAdd,Nat.reduceLeDiff,Nat.reduceEqDiff,reduceCtorEq,decide_true,decide_false,Int.reduceEq".splitOn ",").toArray.map fun s=>Lean.mkIdent s.toName
 `(tactic| try simp (implicitDefEqProofs:=false) only [$[$a:term],*])
def drw (ns:List Int) (k:Int):Int:=(B2 ns (some k) (some (k+1))).sum
theorem Ha (ns:List Int) (k:Int):P9 [.scr ns,.int k]=.ok (.int (drw ns k)):=by unfold P9 Xn drw;walk_at "dz"
structure Flr (row:List Int) (ls:List P2) (T:List P3) (v:Nat->Vc):Prop where
 good:Good row v
 inv:CInv (row.length:Int) ls T
 rw':Rw row T
 len:ls.length+3=row.length
theorem y3v:Flr [1,1,1] [] [(0,1,2)] v3:=⟨y1k,y3u,rw3,rfl⟩
theorem Flr.grow {row:List Int} {ls:List P2} {T:List P3} {v:Nat->Vc} (F:Flr row ls T v) (c:Nat) (hc:c<row.length) :
  Flr (x5 row c) (ls.map (sh2 (c:Int))++[l5 (row.length:Int) (c:Int)]) (T.map (sh3 (c:Int))++[j1 (row.length:Int) (c:Int)]) (gV row.length c v):=by
 have hl:=U1 row c hc
 refine ⟨F.good.grow c hc,?_,F.rw'.grow c hc F.good.len,?_⟩
 . have:=F.inv.grow (c:Int) (by omega) (by omega);rw [hl];exact this
 . rw [hl,List.length_append,List.length_map,List.length_singleton];have:=F.len;omega
theorem Yq (c x:Int):x+(if decide (c<x)=true then 1 else 0)=sh c x:=by
 unfold sh;by_cases h:c<x
 . rw [decide_eq_true h,if_pos rfl,if_pos h]
 . rw [decide_eq_false h,if_neg Bool.false_ne_true,if_neg h];omega
theorem i7 {a r:DS->SR} {ρ ρ':DS} (h:a ρ=.nx ρ'):c8 a r ρ=r ρ':=by rw [wT,h,wS]
theorem vt (row:List Int) (ls:List P2) (c:Int) (h0:0<=c) (h1:c<row.length) (h3:row.length<1000) (hl:ls.length<1000) :
  U7 [L row,.lst (ls.map T2),.int c]=.ok (.tup [L (x5 row c.toNat),.lst ((ls.map (sh2 c)++[l5 (row.length:Int) c]).map T2)]):=by
 have hm0:0<=(c+1) % (row.length:Int):=Int.emod_nonneg _ (by omega)
 have hm1:(c+1) % (row.length:Int)<row.length:=Int.emod_lt_of_pos _ (by omega)
 have hm2:((c+1) % (row.length:Int)).toNat=(c.toNat+1) % row.length:=by
  have:c+1=((c.toNat+1:Nat):Int):=by omega
  rw [this];rfl
 have s2:∀(ρ:DS),ρ=[.im (L row),.im (.lst (ls.map T2)),.im (.int c),.im (.int (row.length:Int)),.em,.em] ->
   e8 true 4 [false,true,true] (h7 (iL (a9 1)) (bT 2) [2] k6 Lu) ρ=.nx [.im (L row),.im (.lst (ls.map T2)),.im (.int c),.im (.int (row.length:Int)),.ow (.lst ((ls.map (sh2 c)).map T2)),.em]:=fun ρ hρ=>by
  subst hρ
  walk_at "dz"
  rw [if_pos (by rw [List.length_map];omega),J4 (en:=T2) (bs:=fun q=>[D.int q.1,D.int q.2]) (g:=fun q=>T2 (sh2 c q)) ls (fun x _=>rfl) (fun q _=>by unfold Lu;walk_at "dz";rw [Yq,Yq];rfl)]
  simp only [R.bind_ok]
  rw [show ls.map (fun q=>T2 (sh2 c q))=(ls.map (sh2 c)).map T2 by rw [List.map_map];rfl]
  generalize ls.map (sh2 c)=ls'
  walk_at "dz"
 have s3:∀(ls':List P2),ls'.length<1000->sIf (i6 asB (eOp dEq (a9 2) (eOp u8 (a9 3) (eC (.int 1)))))
   (B6 "list" r6 4 [false,false,true] (b6 (k0 (b6 (eC (.int 0)) (b6 (a9 2) b8))) b8))
   (B6 "list" r6 4 [false,false,true] (b6 (k0 (b6 (a9 2) (b6 (eOp l8 (a9 2) (eC (.int 2))) b8))) b8))
   [.im (L row),.im (.lst (ls.map T2)),.im (.int c),.im (.int (row.length:Int)),.ow (.lst (ls'.map T2)),.em]=.nx [.im (L row),.im (.lst (ls.map T2)),.im (.int c),.im (.int (row.length:Int)),.ow (.lst ((ls'++[l5 (row.length:Int) c]).map T2)),.em]:=fun ls' hl'=>by
  walk_at "dz"
  by_cases q:c=(row.length:Int) - 1
  . rw [decide_eq_true q];walk_at "dz";rw [Po (by omega)];walk_at "dz";unfold l5;rw [if_pos q]
  . rw [decide_eq_false q];walk_at "dz";rw [Po (by omega)];walk_at "dz";unfold l5;rw [if_neg q]
 have s1:e8 false 3 [true] (eCB o8 (b6 (a9 0) b8)) [.im (L row),.im (.lst (ls.map T2)),.im (.int c),.em,.em,.em]=.nx [.im (L row),.im (.lst (ls.map T2)),.im (.int c),.im (.int (row.length:Int)),.em,.em]:=by walk_at "dz"
 unfold U7
 rw [G6,if_pos (show [L row,D.lst (ls.map T2),D.int c].length=3 from rfl)]
 show SR.out false (Lg [.im (L row),.im (.lst (ls.map T2)),.im (.int c),.em,.em,.em])=_
 unfold Lg
 rw [i7 s1,i7 (s2 _ rfl),i7 (s3 _ (by rw [List.length_map];exact hl))]
 generalize (ls.map (sh2 c)++[l5 (row.length:Int) c])=xs
 walk_at "dz"
 rw [Md h0 (by omega)]
 walk_at "dz"
 rw [Ew h0 h1]
 walk_at "dz"
 rw [G0 (by omega)]
 walk_at "dz"
 rw [Md hm0 (by rw [List.length_set];omega)]
 walk_at "dz"
 rw [G0 (by omega)]
 walk_at "dz"
 rw [Ew hm0 (by rw [List.length_set];omega)]
 walk_at "dz"
 rw [y0s (by omega) (by rw [List.length_set,List.length_set];omega) (by rw [List.length_set,List.length_set];omega)]
 walk_at "dz"
 rw [show (c+1).toNat=c.toNat+1 by omega,hm2];rfl
def own (b:Bool) (d:D):Sl:=if b then .ow d else .im d
theorem Gz (b:Bool) (d:D):Sl.see true (own b d)=some d:=by cases b<;>rfl
theorem jZ (d:Int) (ns:List Int):S0 [L ns,.int d]=some (.int (mxD d ns)):=by simp only [L,S0,Ah,Option.map_some]
theorem xb (c:Int) (p:P2) (ls:List P2) (hl:ls.length<=1000):At [.int c,T2 p,.tup (ls.map T2)]=.ok (.int (mxD (c+1) (ends c p ls))):=by
 unfold At Yl;walk_at "dz";rw [if_pos (by rw [List.length_map];omega),P0 (en:=T2) (bs:=fun l=>[T2 l]) (p:=pk c p) (g:=fun l=>D.int l.2) ls (fun x _=>rfl) (fun l _=>by
  unfold Yo;simp only [T2];walk_at "dz";rfl) (fun l _ _=>by
  unfold Yn;simp only [T2];walk_at "dz")]
 simp only [R.bind_ok];rw [show D.lst ((ls.filter (pk c p)).map fun l=>D.int l.2)=L (ends c p ls) by unfold L ends;rw [List.map_map];rfl];walk_at "dz";rw [jZ];walk_at "dz"
theorem Jg (t:DE->R Bool) (g:DS->SR) (n:Nat) (ρ:DS):G9 t g (n+1) ρ=(t (see ρ)).toS fun b=>if b=true then (g ρ).itr (G9 t g n) else .nx ρ:=by rw [G9];congr 1
theorem Om (xs:List Int) (v:Int):dIx (L (xs++[v])) (.int (-1))=some (.int v):=by
 have:(xs++[v]).map D.int=xs.map D.int++[D.int v]:=by simp
 simp only [L,dIx,dOr,B3,this,yc]
theorem Gy (ls:List P2) (p:P2) (xs:List Int) (v:Int):Dv [some (T2 p),some (.tup (ls.map T2)),some (L (xs++[v]))]=.ok (decide (v<p.2)):=by unfold Dv;simp only [T2];walk_at "dz";rw [Om];walk_at "dz"
theorem Rb (ls:List P2) (hl:ls.length<=1000) (p:P2) (xs:List Int) (v:Int) (hx:xs.length<1000):Du [.im (T2 p),.im (.tup (ls.map T2)),.ow (L (xs++[v]))]=.nx [.im (T2 p),.im (.tup (ls.map T2)),.ow (L (xs++[v]++[mxD (v+1) (ends v p ls)]))]:=by unfold Du;walk_at "dz";rw [Om];walk_at "dz";rw [xb _ _ _ hl];walk_at "dz";rw [Ng (by simp;omega)];walk_at "dz"
theorem vq {n:Int} {ls ls':List P2} {T:List P3} (I:CInv n ls T) (p:ls'.Perm ls) (hl:ls'.length<=1000) (a c b:Int) (h:(a,c,b)∈T) :
  Am [T2 (a,b),.tup (ls'.map T2)]=.ok (T3 (a,c,b)):=by
 obtain ⟨g1,g2,g3,g4,_⟩:=I.tri a c b h
 unfold Am Xm
 walk_at "dz"
 have w:Y6 1000 Dv Du [.im (T2 (a,b)),.im (.tup (ls'.map T2)),.ow (L [a])]=.nx [.im (T2 (a,b)),.im (.tup (ls'.map T2)),.ow (L [a,c,b])]:=by have t1:=Gy ls' (a,b) [] a;have t2:=Gy ls' (a,b) [a] c;have t3:=Gy ls' (a,b) [a,c] b;have b1:=Rb ls' hl (a,b) [] a (by simp);have b2:=Rb ls' hl (a,b) [a] c (by simp);rw [I.beh1 p h] at b1;rw [I.beh2 p h] at b2;simp only [List.nil_append,List.cons_append] at t1 t2 t3 b1 b2;unfold Y6;rw [show (1000:Nat)=997+1+1+1 from rfl,Jg];simp only [Fp,Gu,Ji,Fq];rw [t1,J1,decide_eq_true (show a<b by omega),if_pos rfl,b1,Sf,Jg];simp only [Fp,Gu,Ji,Fq];rw [t2,J1,decide_eq_true (show c<b by omega),if_pos rfl,b2,Sf,Jg];simp only [Fp,Gu,Ji,Fq];rw [t3,J1,decide_eq_false (show ¬b<b by omega),if_neg Bool.false_ne_true]
 rw [show D.lst [D.int a]=L [a] from rfl,w]
 walk_at "dz"
 rfl
theorem vp {n:Int} {ls ls':List P2} {T:List P3} (I:CInv n ls T) (p:ls'.Perm ls) (hl:ls.length<=60) :
  Z3 [.int n,.tup (ls'.map T2)]=.ok (.lst ((so3 T).map T3)):=by
 have hl':ls'.length<=60:=by rw [p.length_eq];exact hl
 unfold Z3 Rg
 walk_at "dz"
 rw [show x0 (D.lst [D.tup [D.int 0,D.int (n - 1)]]) (D.lst (ls'.map T2))=some (.lst (((0,n - 1)::ls').map T2)) by simp only [x0];rw [if_pos (by simp;omega)];rfl]
 obtain ⟨tops,ht⟩:∃tops:List P2,tops=(0,n - 1)::ls':=⟨_,rfl⟩
 have hlt:tops.length<=61:=by rw [ht,List.length_cons];omega
 rw [<-ht]
 have kp:keeps true (D.lst (tops.map T2))=true:=by rw [Dl];exact y8 _ _ fun x _=>Y9 x
 simp only [R.of_some,J1,kp]
 walk_at "dz"
 rw [if_pos (by rw [List.length_map];omega),J4 (en:=T2) (bs:=fun q=>[T2 q]) (g:=fun q=>T3 (thr T q)) tops (fun x _=>rfl) (fun q hq=>by obtain ⟨m1,m2⟩:=I.top_in p (by rw [<-ht];exact hq);unfold Ve;walk_at "dz";generalize thr T q=u at m1 m2;obtain ⟨a,c,b⟩:=u;rw [<-m2];exact vq I p (by omega) a c b m1)]
 walk_at "dz"
 have e1:tops.map (fun q=>T3 (thr T q))=(tops.map (thr T)).map T3:=by rw [List.map_map];rfl
 have pm:(tops.map (thr T)).Perm T:=by rw [ht];exact I.tops p
 rw [e1,Vm _ (by rw [List.length_map];omega),Di pm]
 walk_at "dz"
theorem Wu {n:Int} {ls ls':List P2} {T:List P3} (I:CInv n ls T) (p:ls'.Perm ls) (hl:ls.length<=60) :
  E7 [.tup [.int n,.tup (ls'.map T2)]]=.ok (.lst ((so3 T).map T3)):=by
 unfold E7 Wx
 walk_at "dz"
 rw [vp I p hl]
 walk_at "dz"
theorem Gx (i:Int):P7 [.int i]=.ok (.bl true):=by unfold P7 Wi;walk_at "dz"
theorem wZ (n c:Int) (h:0<=c/\c<n):Q0 [.int n,.int c]=.ok .non:=by unfold Q0 Yc;walk_at "dz";rw [Gx];walk_at "dz";rw [decide_eq_true h.1,decide_eq_true h.2];walk_at "dz"
theorem Ra (k:Int) (xs:List Int):dIn true (.int k) (TuI xs)=some (.bl (!decide (k∈xs))):=by
 have e:(xs.map D.int).any (fun e=>eqD e (.int k))=decide (k∈xs):=by
  rw [List.any_map,Bool.eq_iff_iff,List.any_eq_true,decide_eq_true_eq];constructor
  . rintro ⟨x,hx,h⟩;simp only [Function.comp,eqD,beq_iff_eq] at h;rw [<-h];exact hx
  . intro h;exact ⟨k,h,by simp [eqD]⟩
 have h1:j2 (xs.map D.int)<=0:=E3 xs D.int 0 fun x=>by simp [D.dep]
 have h2:pls (xs.map D.int)=true:=pls_of xs D.int fun x=>rfl
 unfold dIn dOr M9;simp only [TuI,D.pl,h2,true_and,if_pos (show j2 (xs.map D.int)<=20 by omega),e,if_true]
theorem jY (g:List Int) (c:Int) (h:g.length<=1000):R8 (TuI g) (.tup [.int c])=some (TuI (g++[c])):=by simp only [TuI,R8,List.length_map,List.length_cons,List.length_nil];rw [if_pos (by omega),List.map_append];rfl
def E8 (cs:List Int) (g:List Int):List (List Int):=(cs.filter fun c=>decide (c∉g)).map fun c=>g++[c]
theorem Qz (cs g:List Int):(E8 cs g).length<=cs.length:=by unfold E8;rw [List.length_map];exact List.length_filter_le _ _
theorem Qy (g:List Int):(TuI g).noL=true:=by unfold TuI;simp only [D.noL];exact y8 _ _ fun x _=>Ab x
theorem yn (B0:Sl) (cs:List Int) (hc:cs.length<=100) (F:List (List Int)) (g:List Int) (hg:g.length<=1000) (hF:F.length<=99000) :
  Dw [B0,.im (L cs),.ow (.lst (F.map TuI)),.im (TuI g)]=.nx [B0,.im (L cs),.ow (.lst ((F++E8 cs g).map TuI)),.im (TuI g)]:=by
 unfold Dw
 walk_at "dz"
 rw [if_pos (by rw [List.length_map];omega),P0 (en:=D.int) (bs:=fun x=>[D.int x]) (p:=fun c=>decide (c∉g)) (g:=fun c=>TuI (g++[c])) cs (fun x _=>rfl) (fun c _=>by
  unfold Yg;walk_at "dz";rw [Ra];walk_at "dz";congr 1;by_cases h:c∈g<;>simp [h]) (fun c _ _=>by
  unfold Ye;walk_at "dz";rw [jY g c hg];walk_at "dz")]
 have hl:=Qz cs g
 rw [show List.map (fun c=>TuI (g++[c])) (cs.filter fun c=>decide (c∉g))=(E8 cs g).map TuI by unfold E8;rw [List.map_map];rfl]
 generalize E8 cs g=X at hl
 walk_at "dz"
 rw [show U9 (.lst (F.map TuI)) [.lst (X.map TuI)]=some (.lst ((F++X).map TuI)) by simp only [U9,List.length_map];rw [if_pos (by omega),List.map_append]]
 walk_at "dz"
 try rw [Sl.frz_false]
theorem ym (B:List (List Int)) (cs:List Int) (hc:cs.length<=3) (hB:B.length<=20000) (hg:∀g∈B,g.length<=1000):An [.lst (B.map TuI),L cs]=.ok (.lst ((B.flatMap (E8 cs)).map TuI)):=by
 unfold An Xo;walk_at "dz";obtain ⟨ρ',e,F,s3,h1,h2,hr⟩:=O8 (tg:=.n 3) (g:=Dw) (en:=TuI)
  (fun r ρ=>∃(F:List (List Int)) (s3:Sl),F++r.flatMap (E8 cs)=B.flatMap (E8 cs)/\(F.length+3 * r.length<=60000/\∀g∈r,g.length<=1000)/\ρ=[.im (.lst (B.map TuI)),.im (L cs),.ow (.lst (F.map TuI)),s3])
  B [.im (.lst (B.map TuI)),.im (L cs),.ow (.lst []),.em] ⟨[],.em,rfl,⟨by simp;omega,hg⟩,rfl⟩ (by
   rintro g r ρ ⟨F,s3,h1,⟨h2,h3⟩,rfl⟩;simp only [List.length_cons] at h2;have hl:=Qz cs g;refine ⟨_,_,rfl,Or.inl (yn _ cs (by omega) F g (h3 g (by simp)) (by omega)),⟨_,_,?_,⟨?_,fun u hu=>h3 u (by simp [hu])⟩,rfl⟩⟩
   . rw [<-h1,List.flatMap_cons,List.append_assoc]
   . rw [List.length_append];omega)
 rw [e,hr];rw [List.flatMap_nil,List.append_nil] at h1;walk_at "dz";rw [h1]
theorem Ol (E:List Int):∀(ts:List P3) (B:List (List Int)),(Sg E ts B).length<=B.length * 3 ^ ts.length
 | [],B=>by simp [Sg]
 | t::ts,B=>by
  have h:=Ol E ts (B.flatMap (xt E t));have h2:(B.flatMap (xt E t)).length<=3 * B.length:=by
   clear h;induction B with
   | nil=>simp
   | cons g B ih=>
    have:(xt E t g).length<=3:=by unfold xt;rw [List.length_map];exact Nat.le_trans (List.length_filter_le _ _) (Nat.le_trans (List.length_filter_le _ _) (Nat.le_refl 3))
    rw [List.flatMap_cons,List.length_append,List.length_cons];omega
  rw [List.length_cons,Nat.pow_succ];show (Sg E ts (B.flatMap (xt E t))).length<=_
  calc (Sg E ts (B.flatMap (xt E t))).length<=(B.flatMap (xt E t)).length * 3 ^ ts.length:=h
   _<=(3 * B.length) * 3 ^ ts.length:=Nat.mul_le_mul_right _ h2
   _=B.length * (3 ^ ts.length * 3):=by rw [Nat.mul_comm 3,Nat.mul_assoc,Nat.mul_comm 3]
def shr (i j:Int) (ts:List P3):List (List Int):=if i=j then [] else Sh [i,j] ts
theorem Wd {n:Int} {ls:List P2} {T:List P3} (I:CInv n ls T) (hl:(ls.length:Int)+3=n) (h12:n<=12) (i j:Int) (hi:0<=i/\i<n) (hj:0<=j/\j<n) :
  J7 [.tup [.int n,.tup ((so2 ls).map T2)],.int i,.int j]=.ok (.lst ((shr i j (so3 T)).map TuI)):=by
 have et:=Wu I (u9 ls) (by omega)
 have hT:(so3 T).length<=10:=by have:=I.prm.length_eq;rw [List.length_map,List.length_cons] at this;rw [(t6 T).length_eq];omega
 generalize hcut:(D.tup [.int n,.tup ((so2 ls).map T2)])=cut at et
 have c0:dIx cut (.int 0)=some (.int n):=by rw [<-hcut];exact Gs _ _
 generalize so3 T=ts at et hT
 have s1:∀k (hk:0<=k/\k<n) (v:Nat) (ρ:DS),see ρ=[some cut,some (.int i),some (.int j),none,none]->a9 v [some cut,some (.int i),some (.int j),none,none]=.ok (.int k)->L1 (g9 Q0 (b6 (eOp dIx (a9 0) (eC (.int 0))) (b6 (a9 v) b8))) ρ=.nx ρ:=fun k hk v ρ hs hv=>by simp only [L1,hs,g9,b6,eOp,b8,hv];walk_at "dz";rw [c0];walk_at "dz";rw [wZ n k hk];walk_at "dz"
 unfold J7
 rw [G6,if_pos (show [cut,D.int i,.int j].length=3 from rfl)]
 show SR.out true (Kn [.im cut,.im (.int i),.im (.int j),.em,.em])=_
 unfold Kn
 rw [i7 (s1 i hi 1 _ rfl rfl),i7 (s1 j hj 2 _ rfl rfl)]
 rw [i7 (ρ':=[.im cut,.im (.int i),.im (.int j),.em,.em]) (by walk_at "dz";rw [c0];walk_at "dz";rw [decide_eq_false (by first | exact Int.not_lt.mpr h12 | omega)];walk_at "dz")]
 by_cases hij:i=j
 . subst hij;walk_at "dz";unfold shr;rw [if_pos rfl];rfl
 . rw [i7 (ρ':=[.im cut,.im (.int i),.im (.int j),.em,.em]) (by
    walk_at "dz"
    rw [decide_eq_false hij]
    walk_at "dz")]
   rw [i7 (ρ':=[.im cut,.im (.int i),.im (.int j),.ow (.lst ([[]].map TuI)),.em]) (by walk_at "dz";rfl)]
   walk_at "dz"
   rw [et]
   walk_at "dz"
   obtain ⟨ρ',e,B,s4,h1,h2,hr⟩:=O8 (tg:=.n 4) (g:=Lf) (en:=T3)
    (fun r ρ=>∃(B:List (List Int)) (s4:Sl),Sg [i,j] r B=Sh [i,j] ts/\(B.length * 3 ^ r.length<=59049/\∀g∈B,g.length+r.length<=10)/\ρ=[.im cut,.im (.int i),.im (.int j),.ow (.lst (B.map TuI)),s4])
    ts [.im cut,.im (.int i),.im (.int j),.ow (.lst ([[]].map TuI)),.em] ⟨[[]],.em,rfl,⟨by
     show 1 * 3 ^ ts.length<=3 ^ 10;rw [Nat.one_mul];exact Nat.pow_le_pow_right (by decide) hT,by simp;omega⟩,rfl⟩ (by
     rintro t r ρ ⟨B,s4,h1,⟨h2,h3⟩,rfl⟩;have hB:B.length<=19683:=by rw [List.length_cons,Nat.pow_succ] at h2;exact Nat.le_of_mul_le_mul_right (Nat.le_trans (Nat.mul_le_mul_left _ (Nat.le_mul_of_pos_left 3 (Nat.pow_pos (by decide)))) h2:B.length * 3<=19683 * 3) (by decide)
     have hcs:((cor t).filter fun c=>decide (c∉[i,j])).length<=3:=Nat.le_trans (List.length_filter_le _ _) (Nat.le_refl 3);refine ⟨_,[.im cut,.im (.int i),.im (.int j),.ow (.lst ((B.flatMap (xt [i,j] t)).map TuI)),.im (T3 t)],rfl,Or.inl ?_,⟨_,_,h1,⟨?_,fun g hg=>?_⟩,rfl⟩⟩
     . unfold Lf;walk_at "dz";rw [show [D.int t.1,D.int t.2.1,D.int t.2.2]=(cor t).map D.int from rfl,P0 (en:=D.int) (bs:=fun x=>[D.int x]) (p:=fun c=>decide (c∉[i,j])) (g:=fun c=>D.int c) (cor t) (fun x _=>rfl) (fun c _=>by
        unfold Xk;walk_at "dz";congr 1;rw [Bool.eq_iff_iff];simp only [Bool.and_eq_true,Bool.not_eq_true',decide_eq_false_iff_not,decide_eq_true_eq,List.mem_cons,List.not_mem_nil,or_false,not_or]) (fun c _ _=>by
        unfold Xj;walk_at "dz")]
       simp only [R.bind_ok];have hg':∀g∈B,g.length<=1000:=fun g hg=>Nat.le_trans (Nat.le_add_right _ _) (Nat.le_trans (h3 g hg) (by decide))
       have e1:=ym B ((cor t).filter fun c=>decide (c∉[i,j])) hcs (Nat.le_trans hB (by decide)) hg';rw [show (D.lst (List.map (fun c=>D.int c) ((cor t).filter fun c=>decide (c∉[i,j]))))=L ((cor t).filter fun c=>decide (c∉[i,j])) from rfl,e1];rw [show E8 ((cor t).filter fun c=>decide (c∉[i,j]))=xt [i,j] t from rfl];rw [J1,show keeps true (D.lst ((B.flatMap (xt [i,j] t)).map TuI))=true by rw [Dl];exact y8 _ _ fun x _=>Qy x];walk_at "dz"
     . have:=Ol [i,j] [t] B;have e3:(B.flatMap (xt [i,j] t)).length<=B.length * 3:=this;rw [List.length_cons,Nat.pow_succ] at h2
       calc (B.flatMap (xt [i,j] t)).length * 3 ^ r.length<=(B.length * 3) * 3 ^ r.length:=Nat.mul_le_mul_right _ e3
        _=B.length * (3 ^ r.length * 3):=by rw [Nat.mul_assoc,Nat.mul_comm 3]
        _<=59049:=h2
     . obtain ⟨g0,hg0,hx⟩:=List.mem_flatMap.mp hg;obtain ⟨c,_,_,_,rfl⟩:=mem_xt.mp hx;have:=h3 g0 hg0;rw [List.length_cons] at this;rw [List.length_append,List.length_singleton];omega)
   simp only [List.map_cons,List.map_nil] at e
   rw [e,hr]
   have h1':B=Sh [i,j] ts:=h1
   walk_at "dz"
   unfold shr
   rw [if_neg hij,<-h1']
abbrev Tm:=List Int×Int
def TM (t:Tm):D:=.tup [.tup (t.1.map D.int),.int t.2]
theorem Wt:∀{a b:List Int},a.map D.int=b.map D.int->a=b
 | [],[],_=>rfl
 | [],_::_,h=>by simp at h
 | _::_,[],h=>by simp at h
 | x::a,y::b,h=>by simp only [List.map_cons,List.cons.injEq,D.int.injEq] at h;rw [h.1,Wt h.2]
def j3 (l:List Tm):List (List Int):=l.map (·.1)
def k5 (l:List Tm) (k:List Int):Int:=((l.find? fun t=>decide (t.1=k)).map (·.2)).getD 0
def p9 (l:List Tm) (k:List Int) (v:Int):List Tm:=if k∈j3 l then l.map (fun t=>if t.1=k then (k,v) else t) else l++[(k,v)]
def y4 (a b:List Tm):List Tm:=b.foldl (fun d t=>p9 d t.1 (k5 d t.1+t.2)) a
def tot:List Tm->List Int->Int
 | [],_=>0
 | t::r,k=>(if t.1=k then t.2 else 0)+tot r k
theorem Qx (k:List Int):k5 [] k=0:=rfl
theorem L9 (t:Tm) (l:List Tm) (k:List Int):k5 (t::l) k=if t.1=k then t.2 else k5 l k:=by
 unfold k5;by_cases h:t.1=k
 . rw [List.find?_cons_of_pos (by simpa using h),if_pos h];rfl
 . rw [List.find?_cons_of_neg (by simpa using h),if_neg h]
theorem vo {l:List Tm} {t:Tm} (hn:(j3 l).Nodup) (h:t∈l):k5 l t.1=t.2:=by
 induction l with
 | nil=>cases h
 | cons x l ih=>
  simp only [j3,List.map_cons,List.nodup_cons] at hn
  rw [L9]
  rcases List.mem_cons.mp h with rfl | h
  . rw [if_pos rfl]
  . rw [if_neg (fun z=>hn.1 (by rw [z];exact List.mem_map.mpr ⟨t,h,rfl⟩))];exact ih hn.2 h
theorem Va {k:List Int} (v:Int) {j:List Int} (hj:j≠k):∀l:List Tm,k5 (l.map (fun t=>if t.1=k then (k,v) else t)) j=k5 l j
 | []=>rfl
 | t::l=>by
  rw [List.map_cons,L9,L9,Va v hj l];by_cases h:t.1=k
  . rw [if_pos h,if_neg (fun z=>hj z.symm),if_neg (fun z=>hj (by rw [<-z,h]))]
  . rw [if_neg h]
theorem Uz {k:List Int} (v:Int):∀l:List Tm,k∈j3 l->k5 (l.map (fun t=>if t.1=k then (k,v) else t)) k=v
 | [],h=>by cases h
 | t::l,h=>by
  rw [List.map_cons,L9];by_cases z:t.1=k
  . rw [if_pos z,if_pos rfl]
  . rw [if_neg z,if_neg z];refine Uz v l ?_;rcases List.mem_cons.mp h with q | q
    . exact absurd q.symm z
    . exact q
theorem zd (l:List Tm) (k:List Int) (v:Int) (j:List Int) (h:k∉j3 l):k5 (l++[(k,v)]) j=if j=k then v else k5 l j:=by
 induction l with
 | nil=>
  rw [List.nil_append,L9,Qx]
  by_cases hj:j=k
  . rw [if_pos hj.symm,if_pos hj]
  . rw [if_neg (fun z=>hj z.symm),if_neg hj]
 | cons t l ih=>
  simp only [j3,List.map_cons,List.mem_cons,not_or] at h
  rw [List.cons_append,L9,L9,ih h.2]
  by_cases hj:j=k
  . subst hj;rw [if_neg (fun z=>h.1 z.symm),if_pos rfl,if_pos rfl]
  . rw [if_neg hj,if_neg hj]
theorem vn (l:List Tm) (k:List Int) (v:Int) (j:List Int):k5 (p9 l k v) j=if j=k then v else k5 l j:=by
 unfold p9;by_cases h:k∈j3 l
 . rw [if_pos h];by_cases hj:j=k
   . rw [if_pos hj,hj];exact Uz v l h
   . rw [if_neg hj];exact Va v hj l
 . rw [if_neg h];exact zd l k v j h
theorem Jf (l:List Tm) (k:List Int) (v:Int):j3 (p9 l k v)=if k∈j3 l then j3 l else j3 l++[k]:=by
 unfold p9;by_cases h:k∈j3 l
 . rw [if_pos h,if_pos h];unfold j3;rw [List.map_map];apply List.map_congr_left;intro t _;show (if t.1=k then (k,v) else t).1=t.1;split
   . rename_i z;exact z.symm
   . rfl
 . rw [if_neg h,if_neg h];simp [j3]
theorem yl {l:List Tm} (k:List Int) (v:Int) (h:(j3 l).Nodup):(j3 (p9 l k v)).Nodup:=by
 rw [Jf];split
 . exact h
 . rename_i hk;exact List.nodup_append.mpr ⟨h,by simp,fun x hx y hy e=>hk (by rw [List.mem_singleton.mp hy] at e;rw [<-e];exact hx)⟩
theorem Ai (a:List Tm) (t:Tm) (b:List Tm):y4 a (t::b)=y4 (p9 a t.1 (k5 a t.1+t.2)) b:=rfl
theorem Qw:∀(b a:List Tm) (j:List Int),k5 (y4 a b) j=k5 a j+tot b j
 | [],a,j=>by simp [y4,tot]
 | t::b,a,j=>by
  rw [Ai,Qw b,vn,tot];by_cases h:j=t.1
  . subst h;rw [if_pos rfl,if_pos rfl];omega
  . rw [if_neg h,if_neg (fun z=>h z.symm)];omega
theorem Uy:∀(b a:List Tm),(j3 a).Nodup->(j3 (y4 a b)).Nodup
 | [],a,h=>h
 | t::b,a,h=>by rw [Ai];exact Uy b _ (yl _ _ h)
theorem Tt:∀(b a:List Tm) (k:List Int),k∈j3 (y4 a b)->k∈j3 a\/k∈j3 b
 | [],a,k,h=>.inl h
 | t::b,a,k,h=>by
  rw [Ai] at h;simp only [j3,List.map_cons,List.mem_cons];rcases Tt b _ k h with h | h
  . rw [Jf] at h;split at h
    . exact .inl h
    . rcases List.mem_append.mp h with h | h
      . exact .inl h
      . exact .inr (.inl (List.mem_singleton.mp h))
  . exact .inr (.inr h)
def soM (ls:List Tm):List Tm:=F9 (fun a b=>ltT (TM a) (TM b)) ls
theorem vm (ls:List Tm):l7 (ls.map TM)=(soM ls).map TM:=Ag _ _
theorem y1o (a:Tm):(TM a).oi=true:=by simp only [TM,D.oi,ois,Bool.and_true];exact y6 _ _ Au
def nz (t:Tm):Bool:=decide (t.2≠0)
def Cn (l:List Tm):List Tm:=soM (l.filter nz)
def kN (ps:List Int):NK:=.t (ps.map NK.i)
theorem Qv:∀ps:List Int,z9 (ps.map D.int)=some (ps.map NK.i)
 | []=>by simp only [List.map_nil,z9]
 | p::ps=>by simp only [List.map_cons,z9,nkD,Qv ps]
theorem Fv (ps:List Int):nkD (.tup (ps.map D.int))=some (kN ps):=by simp only [nkD,Qv,Option.map_some,kN]
theorem Ts:∀ps:List Int,u0 (ps.map NK.i)=0
 | []=>by simp only [List.map_nil,u0]
 | p::ps=>by simp only [List.map_cons,u0,Ts ps,NK.dep,Nat.max_self]
theorem Fu (ps:List Int):(kN ps).dep<=8:=by simp only [kN,NK.dep,Ts];decide
theorem Oj:∀ps:List Int,L3 (ps.map NK.i)=ps.map D.int
 | []=>by simp only [List.map_nil,L3]
 | p::ps=>by simp only [List.map_cons,L3,v7,Oj ps]
theorem y3w (ps:List Int):v7 (kN ps)=.tup (ps.map D.int):=by simp only [kN,v7,Oj]
theorem Oi:∀a b:List Int,(k7 (a.map D.int) (b.map D.int)).isSome=true
 | [],[]=>by simp [k7]
 | [],_::_=>by simp [k7]
 | _::_,[]=>by simp [k7]
 | x::a,y::b=>by
  simp only [List.map_cons,k7];split
  . exact Oi a b
  . exact y0z x y
theorem jX (a b:List Int×Int):(e7 (TM a) (TM b)).isSome=true:=by
 simp only [TM,e7,k7];split
 . split
   . rfl
   . rfl
 . exact Oi a.1 b.1
theorem Oh (a:List Int×Int):(TM a).dep<=3:=by have:=E3 a.1 D.int 0 (fun x=>by simp [D.dep]);simp only [TM,D.dep,j2];omega
theorem yk (ls:List (List Int×Int)) (h:ls.length<64):G8 (ls.map TM)=true:=by unfold G8;rw [List.length_map,decide_eq_true h,y6 _ _ y1o,decide_eq_true (Nat.le_trans (E3 ls TM 3 Oh) (by decide)),G7 ls TM (fun d=>(ls.map TM).all fun e=>(e7 d e).isSome) (fun x=>G7 _ _ _ fun y=>jX x y),G7 ls TM M3 (fun x=>rfl)];simp
theorem Ux:∀{a b:List Int},a.map NK.i=b.map NK.i->a=b
 | [],[],_=>rfl
 | [],_::_,h=>by simp at h
 | _::_,[],h=>by simp at h
 | x::a,y::b,h=>by simp only [List.map_cons,List.cons.injEq,NK.i.injEq] at h;rw [h.1,Ux h.2]
theorem Bv {a b:List Int} (h:kN a=kN b):a=b:=Ux (NK.t.inj h)
def dnA (l:List Tm):D:=.dn (l.map fun t=>kN t.1) (l.map fun t=>.int t.2)
theorem kmem {k:List Int} {l:List Tm}:kN k∈(l.map fun t=>kN t.1)↔k∈j3 l:=by
 unfold j3;rw [List.mem_map,List.mem_map];constructor
 . rintro ⟨t,h,e⟩;exact ⟨t,h,Bv e⟩
 . rintro ⟨t,h,e⟩;exact ⟨t,h,by rw [e]⟩
theorem Mp (k:List Int):∀l:List Tm,(valN (l.map fun t=>kN t.1) (l.map fun t=>D.int t.2) (kN k)).getD (.int 0)=.int (k5 l k)
 | []=>rfl
 | t::l=>by
  rw [L9,List.map_cons,List.map_cons];unfold valN;rw [List.zip_cons_cons];by_cases h:t.1=k
  . rw [List.find?_cons_of_pos (by simp [h]),if_pos h];rfl
  . rw [List.find?_cons_of_neg (by simpa using fun e=>h (Bv e)),if_neg h];exact Mp k l
theorem Mo (l:List Tm) (k:List Int):dGetN (dnA l) (.tup (k.map D.int)) (.int 0)=some (.int (k5 l k)):=by simp only [dnA,dGetN,Fv];rw [if_pos (Fu k),Mp]
theorem Mn (k:List Int) (v:Int):∀l:List Tm,List.zipWith (fun k' d'=>if k'=kN k then D.int v else d') (l.map fun t=>kN t.1) (l.map fun t=>D.int t.2)=(l.map fun t=>if t.1=k then (k,v) else t).map fun t=>D.int t.2
 | []=>rfl
 | t::l=>by
  rw [List.map_cons,List.map_cons,List.map_cons,List.map_cons,List.zipWith_cons_cons,Mn k v l];congr 1;by_cases h:t.1=k
  . rw [if_pos (by rw [h]),if_pos h]
  . rw [if_neg (fun e=>h (Bv e)),if_neg h]
theorem Mm {l:List Tm} (hl:l.length<=1000) (k:List Int) (v:Int):dSetN (dnA l) (.tup (k.map D.int)) (.int v)=some (dnA (p9 l k v)):=by
 simp only [dnA,dSetN,Fv];rw [if_pos ⟨by rw [List.length_map];omega,Fu k⟩];have ek:C3 (l.map fun t=>kN t.1) (kN k)=(p9 l k v).map fun t=>kN t.1:=by
  have:=congrArg (List.map kN) (Jf l k v);have e2:∀x:List Tm,(j3 x).map kN=x.map fun t=>kN t.1:=fun x=>by unfold j3;rw [List.map_map];rfl
  rw [e2] at this;rw [this];unfold C3;by_cases h:k∈j3 l
  . rw [if_pos (kmem.mpr h),if_pos h,e2]
  . rw [if_neg (fun z=>h (kmem.mp z)),if_neg h,List.map_append,e2];rfl
 have ev:m8 (l.map fun t=>kN t.1) (l.map fun t=>D.int t.2) (kN k) (.int v)=(p9 l k v).map fun t=>D.int t.2:=by
  unfold m8 p9;by_cases h:k∈j3 l
  . rw [if_pos (kmem.mpr h),if_pos h,Mn]
  . rw [if_neg (fun z=>h (kmem.mp z)),if_neg h,List.map_append];rfl
 rw [ek,ev]
theorem Tr (l:List Tm) (h:l.length<64):l6 [.lst (l.map TM)]=some (.lst ((soM l).map TM)):=by simp only [l6,yk l h,if_true,vm]
theorem Ml:∀l:List Tm,(((l.map fun t=>kN t.1).zip (l.map fun t=>D.int t.2)).map fun p=>D.tup [v7 p.1,p.2])=l.map TM
 | []=>rfl
 | t::l=>by rw [List.map_cons,List.map_cons,List.zip_cons_cons,List.map_cons,List.map_cons,Ml l];show D.tup [v7 (kN t.1),.int t.2]::_=TM t::_;rw [y3w];rfl
theorem Qu {l:List Tm} {f:DE->R D} {ρ:DE} (h:f ρ=.ok (dnA l)):w8 f ρ=.ok (l.map TM):=by unfold w8;rw [h,R.bind_ok];show (if (l.map fun t=>kN t.1).length=(l.map fun t=>D.int t.2).length then R.ok (((l.map fun t=>kN t.1).zip (l.map fun t=>D.int t.2)).map fun p=>D.tup [v7 p.1,p.2]) else .st)=_;rw [if_pos (by rw [List.length_map,List.length_map]),Ml]
theorem y1p {l:List Tm} {f:DE->R D} {ρ:DE} {t1:DE->R Bool} {f2:DE->R D} (h:f ρ=.ok (dnA l)) (hl:l.length<64) (h1:∀t:Tm,t1 [some (.tup (t.1.map D.int)),some (.int t.2)]=.ok (nz t)) (h2:∀t:Tm,f2 [some (.tup (t.1.map D.int)),some (.int t.2)]=.ok (TM t)) :
  eCB l6 (b6 (h7 (w8 f) (bT 2) [] t1 f2) b8) ρ=.ok (.lst ((Cn l).map TM)):=by
 have hc:h7 (w8 f) (bT 2) [] t1 f2 ρ=.ok (.lst ((l.filter nz).map TM)):=by unfold h7;rw [Qu h,R.bind_ok,if_pos (by rw [List.length_map];omega)];show ((x9 (bT 2) t1 f2 [] (l.map TM)).bind fun ys=>R.ok (D.lst ys))=_;rw [P0 (bn:=bT 2) (en:=TM) (bs:=fun t=>[.tup (t.1.map D.int),.int t.2]) (p:=nz) (g:=TM) l (fun x _=>rfl) (fun t _=>h1 t) (fun t _ _=>h2 t)];rfl
 unfold eCB b6
 rw [hc,R.bind_ok]
 show R.of (l6 [_])=_
 rw [Tr _ (Nat.lt_of_le_of_lt (List.length_filter_le _ _) hl)];rfl
theorem Og {fd fk fz:DE->R D} {ρ:DE} {ks:List NK} {ds:List D} {es:List D} {v:Int} (h1:fd ρ=.ok (.dn ks ds)) (h2:fk ρ=.ok (.tup es)) (h3:fz ρ=.ok (.int 0)) (h:dGetN (.dn ks ds) (.tup es) (.int 0)=some (.int v)):eGetN fd fk fz ρ=.ok (.int v):=by unfold eGetN;rw [h1,R.bind_ok];show ((fk ρ).bind fun k=>(fz ρ).bind fun z=>R.of (dGetN (.dn ks ds) k z))=_;rw [h2,R.bind_ok,h3,R.bind_ok,h];rfl
theorem Qt (l:List Tm) (k:List Int) (v:Int):(p9 l k v).length<=l.length+1:=by
 unfold p9;split
 . rw [List.length_map];omega
 . rw [List.length_append];exact Nat.le_refl _
theorem jW (t:Tm):Li [some (.tup (t.1.map D.int)),some (.int t.2)]=.ok (nz t):=by unfold Li;walk_at "dz";simp [nz]
theorem jV (t:Tm):Lh [some (.tup (t.1.map D.int)),some (.int t.2)]=.ok (TM t):=by unfold Lh;walk_at "dz";rfl
theorem jU (l:List Tm) (hl:l.length<64):P6 [dnA l]=.ok (.lst ((Cn l).map TM)):=by unfold P6;rw [G6,if_pos (show [dnA l].length=1 from rfl)];show SR.out true (Ko [.im (dnA l)])=_;unfold Ko;rw [Z0,y1p (l:=l) rfl hl jW jV];rfl
theorem pls_of {α:Type} (f:α->D) (h:∀x,(f x).pl=true):∀l:List α,pls (l.map f)=true
 | []=>rfl
 | x::l=>by rw [List.map_cons];simp only [pls,h x,pls_of f h l,Bool.and_true]
theorem y1q (t:Tm):(TM t).pl=true:=by simp only [TM,D.pl,pls,Bool.and_true];exact pls_of D.int (fun _=>rfl) t.1
theorem y3x (l:List Tm):(D.lst (l.map TM)).pl=true:=by simp only [D.pl];exact pls_of TM y1q l
theorem y1r (l:List Tm):(D.lst (l.map TM)).dep<=4:=by have:=E3 l TM 3 Oh;simp only [D.dep];omega
theorem vk {d:D} (h:d.pl=true) (h2:d.dep<=5):dEq d d=some (.bl true):=by unfold dEq;rw [if_pos ⟨h,h,by omega⟩,Js d h]
structure Fx (row:List Int) (ls:List P2) (T:List P3) (v:Nat->Vc):Prop where
 f:Flr row ls T v
 sc:Sc row.length T v
 fb:∃k,row.length=k+3/\Fb row.length v (sq k).1 (sq k).2.1 (sq k).2.2
theorem fx3:Fx [1,1,1] [] [(0,1,2)] v3:=⟨y3v,sc3,0,rfl,fb3⟩
theorem Fx.grow {row:List Int} {ls:List P2} {T:List P3} {v:Nat->Vc} (F:Fx row ls T v) (c:Nat) (hc:c<row.length) :
  Fx (x5 row c) (ls.map (sh2 (c:Int))++[l5 (row.length:Int) (c:Int)]) (T.map (sh3 (c:Int))++[j1 (row.length:Int) (c:Int)]) (gV row.length c v):=by
 have hl:=U1 row c hc
 obtain ⟨k,hk,B⟩:=F.fb
 refine ⟨F.f.grow c hc,?_,k+1,by omega,?_⟩
 . rw [hl];exact F.sc.grow F.f.good.fr F.f.inv F.f.len c hc
 . rw [hl];exact B.grow F.f.good.fr F.f.good.len hc
theorem y1s:∀k,k<=8->(sq k).1<=55:=by decide
theorem vj (way:Int) (cells:List Int) (row:List Int) (ls:List P2) (b2 b3:Bool) (i cell:Int) (s6:Sl) (hi:0<=i/\i<900) (hn:(row.length:Int)=i+3) (hl:ls.length<1000) :
  ∃c:Nat,c<row.length/\∃s,Dt [.im (.int way),.im (L cells),own b2 (L row),own b3 (.lst (ls.map T2)),.im (.int i),.im (.int cell),s6] =
   .nx [.im (.int way),.im (L cells),.im (L (x5 row c)),.im (.lst ((ls.map (sh2 (c:Int))++[l5 (row.length:Int) (c:Int)]).map T2)),.im (.int i),.im (.int cell),s]:=by
 have m0:0<=cell % (row.length:Int):=Int.emod_nonneg _ (by omega)
 have m1:cell % (row.length:Int)<row.length:=Int.emod_lt_of_pos _ (by omega)
 have fin:∀(c:Int),0<=c->c<row.length->R4 (.t [2,3]) [false,false,true,true,false,false,true] (g9 U7 (b6 (a9 2) (b6 (a9 3) (b6 (a9 6) b8)))) [.im (.int way),.im (L cells),own b2 (L row),own b3 (.lst (ls.map T2)),.im (.int i),.im (.int cell),.im (.int c)] =
   .nx [.im (.int way),.im (L cells),.im (L (x5 row c.toNat)),.im (.lst ((ls.map (sh2 c)++[l5 (row.length:Int) c]).map T2)),.im (.int i),.im (.int cell),.im (.int c)]:=fun c c0 c1=>by
  walk_at "dz"
  simp only [Gz]
  walk_at "dz"
  rw [vt row ls c c0 c1 (by omega) hl]
  simp only [J1]
  rw [show keeps false (D.tup [L (x5 row c.toNat),.lst ((ls.map (sh2 c)++[l5 (row.length:Int) c]).map T2)])=false by rw [Wc,Si];simp only [L,Uw,Bool.false_and]]
  walk_at "dz"
 have s1:e8 false 6 [false,false,true,false,false,true] (eOp v4 (a9 5) (eCB o8 (b6 (a9 2) b8))) [.im (.int way),.im (L cells),own b2 (L row),own b3 (.lst (ls.map T2)),.im (.int i),.im (.int cell),s6] =
   .nx [.im (.int way),.im (L cells),own b2 (L row),own b3 (.lst (ls.map T2)),.im (.int i),.im (.int cell),.im (.int (cell % (row.length:Int)))]:=by
  walk_at "dz"
  simp only [Gz]
  walk_at "dz"
  rw [G0 (by omega)]
  walk_at "dz"
 have s2:∀c:Int,sIf (i6 asB (eOp dEq (eOp v4 (a9 0) (eC (.int 3))) (eC (.int 1)))) (e8 false 6 [false,false,false,false,true] (eOp N0 (a9 4) (eC (.int 2)))) sNx [.im (.int way),.im (L cells),own b2 (L row),own b3 (.lst (ls.map T2)),.im (.int i),.im (.int cell),.im (.int c)] =
   .nx [.im (.int way),.im (L cells),own b2 (L row),own b3 (.lst (ls.map T2)),.im (.int i),.im (.int cell),.im (.int (if way % 3=1 then i / 2 else c))]:=fun c=>by
  walk_at "dz"
  rw [G0 (by omega)]
  walk_at "dz"
  by_cases w:way % 3=1
  . rw [decide_eq_true w,if_pos w];walk_at "dz";rw [Ev (by omega)];walk_at "dz"
  . rw [decide_eq_false w,if_neg w];walk_at "dz"
 unfold Dt
 rw [i7 s1,i7 (s2 _)]
 obtain ⟨c,hc⟩:∃c:Int,c=(if way % 3=1 then i / 2 else cell % (row.length:Int)):=⟨_,rfl⟩
 have c0:0<=c/\c<row.length:=by rw [hc];split<;>omega
 rw [<-hc,fin c c0.1 c0.2]
 exact ⟨c.toNat,by omega,_,by rw [show ((c.toNat:Nat):Int)=c by omega]⟩
theorem vi (way:Int) (cs:List Int) (hl:cs.length<=8):∃(row:List Int) (ls:List P2) (T:List P3) (v:Nat->Vc),Fx row ls T v/\row.length<=11/\Ak [.int way,L cs]=.ok (.tup [L row,.lst ((so2 ls).map T2)]):=by
 unfold Ak Xl;walk_at "dz";simp only [iEn];walk_at "dz";obtain ⟨ρ',e,row,ls,T,v,b2,b3,s4,s5,s6,F,hn,hr⟩:=Uf (tg:=.t [4,5]) (g:=Dt) cs.length (fun (i:Nat)=>D.tup [.int (i:Int),(D.int∘fun i=>cs.getD i 0) i])
  (fun k ρ=>∃(row:List Int) (ls:List P2) (T:List P3) (v:Nat->Vc) (b2 b3:Bool) (s4 s5 s6:Sl),Fx row ls T v/\row.length=k+3/\ρ=[.im (.int way),.im (L cs),own b2 (L row),own b3 (.lst (ls.map T2)),s4,s5,s6])
  [.im (.int way),.im (L cs),.ow (L [1,1,1]),.ow (.lst []),.em,.em,.em] ⟨[1,1,1],[],[(0,1,2)],v3,true,true,.em,.em,.em,fx3,rfl,rfl⟩ (by rintro i hi ρ ⟨row,ls,T,v,b2,b3,s4,s5,s6,F,hn,rfl⟩;have hll:=F.f.len;obtain ⟨c,hc,s,e⟩:=vj way cs row ls b2 b3 (i:Int) (cs.getD i 0) s6 (by omega) (by omega) (by omega);refine ⟨_,_,rfl,Or.inl e,⟨_,_,_,_,false,false,_,_,_,F.grow c hc,?_,rfl⟩⟩;rw [U1 _ _ hc,hn])
 have e2:((zD 0 (cs.map D.int).length).zip (cs.map D.int)).map (fun p=>D.tup [p.1,p.2])=(List.range cs.length).map (fun (i:Nat)=>D.tup [.int (i:Int),(D.int∘fun i=>cs.getD i 0) i]):=by
  conv=>lhs;rw [kX cs 0,List.map_map,xH]
 simp only [L,List.map_cons,List.map_nil] at e ⊢;walk_at "dz";rw [e2,e,hr];have hll:=F.f.len;walk_at "dz";simp only [Gz];walk_at "dz";rw [Ka _ (by omega)];walk_at "dz";exact ⟨row,ls,T,v,F,by omega,rfl⟩
def sd (n k:Nat):P2:=if k+1=n then (0,(k:Int)) else ((k:Int),(k:Int)+1)
def Sd (n:Nat):List P2:=(List.range n).map (sd n)
def Ls (n:Nat) (ls:List P2):List P2:=so2 (Sd n++so2 ls)
theorem S7 {n:Nat} (hn:3<=n) {p:P2}:p∈Sd n↔0<=p.1/\p.2<n/\(p.2=p.1+1\/(p.1=0/\p.2=n - 1)):=by
 unfold Sd;rw [List.mem_map];constructor
 . rintro ⟨k,hk,rfl⟩;rw [List.mem_range] at hk;unfold sd;by_cases h:k+1=n
   . rw [if_pos h];exact ⟨Int.le_refl 0,by dsimp only;omega,.inr ⟨rfl,by dsimp only;omega⟩⟩
   . rw [if_neg h];exact ⟨by dsimp only;omega,by dsimp only;omega,.inl rfl⟩
 . obtain ⟨a,b⟩:=p;rintro ⟨h1,h2,h3 | ⟨h3,h4⟩⟩
   . simp only at h1 h2 h3;refine ⟨a.toNat,List.mem_range.mpr (by omega),?_⟩;unfold sd;rw [if_neg (by omega),Prod.mk.injEq];omega
   . simp only at h1 h2 h3 h4;refine ⟨n - 1,List.mem_range.mpr (by omega),?_⟩;unfold sd;rw [if_pos (by omega),Prod.mk.injEq];omega
theorem mem_Ls {n:Nat} {ls:List P2} {p:P2}:p∈Ls n ls↔p∈Sd n\/p∈ls:=by unfold Ls;rw [(u9 _).mem_iff,List.mem_append,(u9 _).mem_iff]
theorem Ft (n:Nat) (ls:List P2):(Ls n ls).length=n+ls.length:=by unfold Ls Sd;rw [(u9 _).length_eq,List.length_append,List.length_map,List.length_range,(u9 _).length_eq]
theorem jT (a b:Int):X8 [.int a,.int b]=.ok (if a<b then T2 (a,b) else T2 (b,a)):=by
 unfold X8 Oo;walk_at "dz";by_cases h:a<b
 . rw [decide_eq_true h,if_pos h];rfl
 . rw [decide_eq_false h,if_neg h];rfl
theorem y1t (n k:Nat) (hn:2<=n) (hk:k<n):Kw [some (.int (k:Int)),some (.int (n:Int))]=.ok (T2 (sd n k)):=by
 unfold Kw;walk_at "dz";rw [G0 (by omega)];walk_at "dz";rw [jT];unfold sd;by_cases h:k+1=n
 . rw [if_pos h,show ((k:Int)+1) % (n:Int)=0 by rw [show (k:Int)+1=(n:Int) by omega];exact Int.emod_self,if_neg (by omega)]
 . rw [if_neg h,Int.emod_eq_of_lt (by omega) (by omega),if_pos (by omega)]
theorem Lz (n:Nat):zD 0 n=(List.range n).map fun (k:Nat)=>D.int (k:Int):=by unfold zD;apply List.map_congr_left;intro k _;rw [Int.zero_add]
theorem cat_T2 {a b:List P2} (h:a.length+b.length<=1000):x0 (.lst (a.map T2)) (.lst (b.map T2))=some (.lst ((a++b).map T2)):=by simp only [x0,List.length_map];rw [if_pos (by omega),List.map_append]
theorem yj (n:Nat) (hn:3<=n) (h60:n<=20) (ls:List P2) (hl:ls.length<=20):U0 [.tup [.int (n:Int),.tup ((so2 ls).map T2)]]=.ok (.lst ((Ls n ls).map T2)):=by
 have hl':(so2 ls).length<=20:=by rw [(u9 ls).length_eq];exact hl
 unfold U0 Vf;walk_at "dz";rw [Eu (n:Int) (by omega) (by walk_at "dz")];walk_at "dz";rw [Int.toNat_natCast,Lz,if_pos (by simp;omega),J4 (en:=fun (k:Nat)=>D.int (k:Int)) (bs:=fun k=>[D.int (k:Int)]) (g:=fun k=>T2 (sd n k)) (List.range n) (fun x _=>rfl) (fun k hk=>y1t n k (by omega) (List.mem_range.mp hk))];rw [show (List.range n).map (fun k=>T2 (sd n k))=(Sd n).map T2 by unfold Sd;rw [List.map_map];rfl];have hs:(Sd n).length=n:=by unfold Sd;rw [List.length_map,List.length_range]
 unfold Ls;generalize Sd n=S at hs ⊢;generalize so2 ls=l' at hl' ⊢;walk_at "dz";rw [cat_T2 (by omega)];walk_at "dz";rw [Ka _ (by simp only [List.length_append,List.length_cons,List.length_nil];omega)];walk_at "dz"
theorem jS (n:Nat) (hn:3<=n) (h60:n<=20) (ls:List P2) (hl:ls.length<=20):Aq [.int (n:Int),.lst ((so2 ls).map T2)]=.ok (.lst ((Ls n ls).map T2)):=by
 have hl':(so2 ls).length<=20:=by rw [(u9 ls).length_eq];exact hl
 obtain ⟨m,rfl⟩:∃m,n=m+1:=⟨n - 1,by omega⟩;have e:(List.range m).map (fun (k:Nat)=>((k:Int),(k:Int)+1))++[(0,(m:Int))]=Sd (m+1):=by
  unfold Sd;rw [List.range_succ,List.map_append];congr 1
  . apply List.map_congr_left;intro k hk;rw [List.mem_range] at hk;unfold sd;rw [if_neg (by omega)]
  . simp [sd]
 unfold Aq Yd;walk_at "dz";rw [Eu (m:Int) (by omega) (by walk_at "dz";rw [show ((m+1:Nat):Int) - 1=(m:Int) by omega])];walk_at "dz";rw [Int.toNat_natCast,Lz,if_pos (by simp;omega),J4 (en:=fun (k:Nat)=>D.int (k:Int)) (bs:=fun k=>[D.int (k:Int)]) (g:=fun k=>T2 ((k:Int),(k:Int)+1)) (List.range m) (fun x _=>rfl) (fun k hk=>by unfold Ym;walk_at "dz";rfl)];rw [show (List.range m).map (fun (k:Nat)=>T2 ((k:Int),(k:Int)+1))=((List.range m).map (fun (k:Nat)=>((k:Int),(k:Int)+1))).map T2 by rw [List.map_map];rfl,show ((m+1:Nat):Int) - 1=(m:Int) by omega];have hs:((List.range m).map (fun (k:Nat)=>((k:Int),(k:Int)+1))).length=m:=by rw [List.length_map,List.length_range]
 unfold Ls;rw [<-e];generalize (List.range m).map (fun (k:Nat)=>((k:Int),(k:Int)+1))=S at hs ⊢;generalize so2 ls=l' at hl' ⊢;walk_at "dz";rw [show (D.lst [.tup [.int 0,.int (m:Int)]])=.lst ([((0:Int),(m:Int))].map T2) from rfl,cat_T2 (by simp;omega)];walk_at "dz";rw [cat_T2 (by simp;omega)];walk_at "dz";rw [Ka _ (by simp only [List.length_append,List.length_cons,List.length_nil];omega)];walk_at "dz"
theorem y1v (a b:Int):Ac [.tup [.int a,.int b]]=.ok (.bl true):=by unfold Ac Tv;walk_at "dz";rw [Gx];walk_at "dz";rw [Gx];walk_at "dz";rfl
def o7 (n:Nat) (ls:List P2):D:=.tup [.int (n:Int),.tup ((so2 ls).map T2)]
theorem y1w (n:Nat) (ls:List P2):dIx (o7 n ls) (.int 0)=some (.int (n:Int)):=Gs _ _
theorem y1x (n:Nat) (ls:List P2):dIx (o7 n ls) (.int 1)=some (.tup ((so2 ls).map T2)):=wQ _ _ _
theorem jR {n a b:Int} (h:0<=a/\a<b/\b<n):Ar [.int n,.tup [.int a,.int b]]=.ok .non:=by unfold Ar Yk;walk_at "dz";rw [y1v];walk_at "dz";rw [decide_eq_true h.1,decide_eq_true h.2.1,decide_eq_true h.2.2];walk_at "dz"
theorem Mk {t:P3} (ht:t.1<t.2.1/\t.2.1<t.2.2) {c:Int} (hc:c∈cor t):((cor t).filter fun x=>decide (x≠c)).map D.int=[.int (opp t c).1,.int (opp t c).2]:=by
 obtain ⟨a,d,b⟩:=t;simp only at ht;simp only [cor,List.mem_cons,List.not_mem_nil,or_false] at hc;unfold opp cor;dsimp only;rcases hc with rfl | rfl | rfl
 . rw [if_pos rfl,List.filter_cons_of_neg (by simp),List.filter_cons_of_pos (by simp;omega),List.filter_cons_of_pos (by simp;omega)];rfl
 . rw [if_neg (by omega),if_pos rfl,List.filter_cons_of_pos (by simp;omega),List.filter_cons_of_neg (by simp),List.filter_cons_of_pos (by simp;omega)];rfl
 . rw [if_neg (by omega),if_neg (by omega),List.filter_cons_of_pos (by simp;omega),List.filter_cons_of_pos (by simp;omega),List.filter_cons_of_neg (by simp)];rfl
theorem y1y {t:P3} (ht:t.1<t.2.1/\t.2.1<t.2.2) {c:Int} (hc:c∈cor t):U5 [T3 t,.int c]=.ok (T2 (opp t c)):=by
 have e:=Mk ht hc;unfold U5 Wh;walk_at "dz";rw [show [D.int t.1,D.int t.2.1,D.int t.2.2]=(cor t).map D.int from rfl,P0 (en:=D.int) (bs:=fun x=>[D.int x]) (p:=fun x=>decide (x≠c)) (g:=fun x=>D.int x) (cor t) (fun x _=>rfl) (fun x _=>by
  unfold Xq;walk_at "dz";congr 1;by_cases h:x=c<;>simp [h]) (fun x _ _=>by
  unfold Xp;walk_at "dz")]
 rw [show List.map (fun x=>D.int x) ((cor t).filter fun x=>decide (x≠c))=_ from e];walk_at "dz";rfl
theorem Of (S:List P2) (q:P2):J9 (S.map T2) (T2 q)=some (.int ((S.count q:Nat):Int)):=by unfold J9;have:=E3 S T2 1 Y1;rw [if_pos ⟨L2.pls_of S T2 K5,K5 q,by omega⟩,List.countP_map];congr 3;apply List.countP_congr;intro x _;simp only [Function.comp,Y0,decide_eq_true_eq,beq_iff_eq]
def pw (L:List P2) (A l:List P2):List Int:=L.map fun q=>((A.count q:Nat):Int) - ((l.count q:Nat):Int)
theorem Oe:∀{ts:List P3} {x:List Int},Al x ts->Asc ts->(∀p∈ts.zip x,U5 [T3 p.1,.int p.2]=.ok (T2 (opp p.1 p.2)))/\(ts.zip x).map (fun p=>T2 (opp p.1 p.2))=(ab ts x).map T2
 | [],x,_,_=>by simp [ab]
 | t::ts,[],h,_=>by simp [ab]
 | t::ts,c::x,h,ha=>by
  unfold Cu.Al at h;obtain ⟨h1,h2⟩:=Oe h.2 fun u hu=>ha u (by simp [hu])
  refine ⟨fun p hp=>?_,?_⟩
  . rw [List.zip_cons_cons,List.mem_cons] at hp;rcases hp with rfl | hp
    . exact y1y (ha t (by simp)) h.1
    . exact h1 p hp
  . rw [List.zip_cons_cons,List.map_cons,h2];rfl
theorem wY {n:Nat} (hn:3<=n) (h60:n<=20) {ls:List P2} (hl:ls.length<=20) {T:List P3} (I:CInv (n:Int) ls T) {x:List Int} (h:Al x (so3 T)) :
  Aj [o7 n ls,TuI x]=.ok (TuI (pw (Ls n ls) (ab (so3 T) x) (so2 ls))):=by
 have et:E7 [o7 n ls]=_:=Wu I (u9 ls) (by omega)
 have e1:=y1x n ls
 have e2:U0 [o7 n ls]=_:=yj n hn h60 ls (by omega)
 have l1:(Ls n ls).length<=120:=by rw [Ft];omega
 have hT:(so3 T).length<=60:=by have:=I.prm.length_eq;rw [List.length_map,List.length_cons] at this;rw [(t6 T).length_eq];omega
 obtain ⟨z1,z2⟩:=Oe h I.asc
 have hx:=h.len
 generalize so3 T=ts at *
 generalize Ls n ls=S at *
 generalize o7 n ls=cut at *
 have hz:R7 (b6 (g9 E7 (b6 (a9 0) b8)) (b6 (a9 1) b8)) [some cut,some (TuI x),none]=.ok ((ts.zip x).map fun p=>D.tup [T3 p.1,.int p.2]):=by unfold R7;rw [show b6 (g9 E7 (b6 (a9 0) b8)) (b6 (a9 1) b8) [some cut,some (TuI x),none]=.ok [.lst (ts.map T3),TuI x] by walk_at "dz";rw [et];walk_at "dz",R.bind_ok];show R.of (if (ts.map T3).length=(x.map D.int).length then some (((ts.map T3).zip (x.map D.int)).map fun p=>D.tup [p.1,p.2]) else none)=_;rw [if_pos (by rw [List.length_map,List.length_map,hx]),R.of_some,List.zip_map,List.map_map];rfl
 have hc:h7 (R7 (b6 (g9 E7 (b6 (a9 0) b8)) (b6 (a9 1) b8))) (bT 2) [] k6 Dr [some cut,some (TuI x),none]=.ok (.lst ((ab ts x).map T2)):=by unfold h7;rw [hz,R.bind_ok,if_pos (by rw [List.length_map,List.length_zip];omega)];show ((x9 (bT 2) k6 Dr [] ((ts.zip x).map fun p=>D.tup [T3 p.1,.int p.2])).bind fun ys=>R.ok (D.lst ys))=_;rw [J4 (bn:=bT 2) (en:=fun p:P3×Int=>D.tup [T3 p.1,.int p.2]) (bs:=fun p=>[T3 p.1,.int p.2]) (g:=fun p=>T2 (opp p.1 p.2)) (ts.zip x) (fun x _=>rfl) (fun p hp=>by unfold Dr;walk_at "dz";exact z1 p hp),z2];rfl
 unfold Aj
 rw [G6,if_pos (show [cut,TuI x].length=2 from rfl)]
 show SR.out false (Kv [.im cut,.im (TuI x),.em])=_
 unfold Kv
 rw [i7 (ρ':=[.im cut,.im (TuI x),.ow (.lst ((ab ts x).map T2))]) (by rw [Sj];show (h7 _ _ _ _ _ [some cut,some (TuI x),none]).toS _=_;rw [hc,J1,show keeps true (D.lst ((ab ts x).map T2))=true by rw [Dl];exact y8 _ _ fun x _=>Y9 x];rfl)]
 generalize ab ts x=A at *
 generalize TuI x=X at *
 walk_at "dz"
 rw [e2]
 walk_at "dz"
 rw [if_pos (by rw [List.length_map];omega),J4 (en:=T2) (bs:=fun q=>[T2 q]) (g:=fun q=>D.int (((A.count q:Nat):Int) - (((so2 ls).count q:Nat):Int))) S (fun x _=>rfl) (fun q _=>by
  unfold Xu;show eOp u8 (F8 (a9 1) (a9 0)) (F7 (eOp dIx (a9 2) (eC (.int 1))) (a9 0)) [some (T2 q),some (.lst (A.map T2)),some cut]=_;have c1:F8 (a9 1) (a9 0) [some (T2 q),some (.lst (A.map T2)),some cut]=.ok (.int ((A.count q:Nat):Int)):=by unfold F8;show R.of (J9 (A.map T2) (T2 q))=_;rw [Of];rfl
  have c2:F7 (eOp dIx (a9 2) (eC (.int 1))) (a9 0) [some (T2 q),some (.lst (A.map T2)),some cut]=.ok (.int (((so2 ls).count q:Nat):Int)):=by unfold F7;rw [show eOp dIx (a9 2) (eC (.int 1)) [some (T2 q),some (.lst (A.map T2)),some cut]=.ok (.tup ((so2 ls).map T2)) by walk_at "dz";rw [e1];rfl,R.bind_ok];show R.of (J9 ((so2 ls).map T2) (T2 q))=_;rw [Of];rfl
  rw [show eOp u8 (F8 (a9 1) (a9 0)) (F7 (eOp dIx (a9 2) (eC (.int 1))) (a9 0)) [some (T2 q),some (.lst (A.map T2)),some cut]=(F8 (a9 1) (a9 0) [some (T2 q),some (.lst (A.map T2)),some cut]).bind fun x=>(F7 (eOp dIx (a9 2) (eC (.int 1))) (a9 0) [some (T2 q),some (.lst (A.map T2)),some cut]).bind fun y=>R.of (u8 x y) from rfl,c1,R.bind_ok,c2,R.bind_ok];rfl)]
 walk_at "dz"
 unfold pw TuI
 rw [List.map_map];rfl
def fr (L:List P2) (l:List P2) (ts:List P3) (x:List Int):Tm:=(pw L (ab ts x) l,1)
def frZ (L:List P2) (l:List P2) (ts:List P3) (S:List (List Int)):List Tm:=y4 [] (S.map (fr L l ts))
theorem jQ {n:Nat} (hn:3<=n) (h60:n<=20) {ls:List P2} (hl:ls.length<=20) {T:List P3} (I:CInv (n:Int) ls T) (P:D) (l:List Tm) (h1:l.length<=1000) {x:List Int} (h:Al x (so3 T)) (s4:Sl) :
  Dq [.im (o7 n ls),.im P,.ow (dnA l),.im (TuI x),s4]=.nx [.im (o7 n ls),.im P,.ow (dnA (p9 l (fr (Ls n ls) (so2 ls) (so3 T) x).1 (k5 l (fr (Ls n ls) (so2 ls) (so3 T) x).1+1))),.im (TuI x),.im (.tup ((fr (Ls n ls) (so2 ls) (so3 T) x).1.map D.int))]:=by
 have ep:=wY hn h60 hl I h
 rw [show TuI (pw (Ls n ls) (ab (so3 T) x) (so2 ls))=.tup ((fr (Ls n ls) (so2 ls) (so3 T) x).1.map D.int) from rfl] at ep
 generalize (fr (Ls n ls) (so2 ls) (so3 T) x).1=k at *
 have e1:=Mo l k
 have e2:=Mm h1 k (k5 l k+1)
 have n1:j4 (k.map D.int)=true:=y8 D.int _ fun x _=>Ab x
 generalize hw:k5 l k=w at *
 generalize p9 l k (w+1)=l' at e2 ⊢
 unfold dnA at *
 generalize (l.map fun t=>kN t.1)=ks at *
 generalize (l.map fun t=>D.int t.2)=ds at *
 generalize (l'.map fun t=>kN t.1)=ks' at *
 generalize (l'.map fun t=>D.int t.2)=ds' at *
 generalize k.map D.int=es at *
 generalize o7 n ls=cut at *
 generalize TuI x=X at *
 unfold Dq
 walk_at "dz"
 rw [ep]
 walk_at "dz"
 rw [n1]
 walk_at "dz"
 rw [Og rfl rfl rfl e1]
 walk_at "dz"
 rw [n1]
 walk_at "dz"
 rw [e2]
 walk_at "dz"
theorem vh {n:Nat} (hn:3<=n) {ls:List P2} {T:List P3} (I:CInv (n:Int) ls T) (hl:ls.length+3=n) (h12:n<=12) {a b:Int} (h:0<=a/\a<b/\b<(n:Int)) (hS:(Sh [a,b] (so3 T)).length<=63) :
  M1 [o7 n ls,.tup [.int a,.int b]]=.ok (.lst ((Cn (frZ (Ls n ls) (so2 ls) (so3 T) (Sh [a,b] (so3 T)))).map TM)):=by
 have e0:=y1w n ls
 have es:J7 [o7 n ls,.int a,.int b]=_:=Wd I (by omega) (by omega) a b (by omega) (by omega)
 rw [show shr a b (so3 T)=Sh [a,b] (so3 T) by unfold shr;rw [if_neg (by omega)]] at es
 have hA:∀x∈Sh [a,b] (so3 T),Al x (so3 T):=fun x hx=>(mem_Sh.mp hx).1
 have fb:=fun (l:List Tm) (h1:l.length<=1000) (x:List Int) (hx:Al x (so3 T)) (s4:Sl)=>jQ hn (by omega) (by omega) I (.tup [.int a,.int b]) l h1 hx s4
 unfold frZ
 have hf:∀x,(fr (Ls n ls) (so2 ls) (so3 T) x).2=1:=fun _=>rfl
 generalize Sh [a,b] (so3 T)=S at *
 generalize fr (Ls n ls) (so2 ls) (so3 T)=f at *
 generalize o7 n ls=cut at *
 unfold M1
 rw [G6,if_pos (show [cut,D.tup [.int a,.int b]].length=2 from rfl)]
 show SR.out true (Km [.im cut,.im (.tup [.int a,.int b]),.em,.em,.em])=_
 unfold Km
 rw [i7 (ρ':=[.im cut,.im (.tup [.int a,.int b]),.em,.em,.em]) (by walk_at "dz";rw [e0];walk_at "dz";rw [jR h];walk_at "dz")]
 rw [i7 (ρ':=[.im cut,.im (.tup [.int a,.int b]),.ow (dnA []),.em,.em]) (by walk_at "dz";simp only [W3];walk_at "dz";rw [show keeps true (D.dn [] [])=true from rfl];walk_at "dz";rfl)]
 obtain ⟨ρ',q,l',s3,s4,⟨h1,h2,_⟩,hr⟩:=O8 (tg:=.n 3) (g:=Dq) (en:=TuI)
  (fun r ρ=>∃(l':List Tm) (s3 s4:Sl),(y4 l' (r.map f)=y4 [] (S.map f)/\l'.length+r.length<=63/\∀x∈r,Al x (so3 T))/\ρ=[.im cut,.im (.tup [.int a,.int b]),.ow (dnA l'),s3,s4])
  S [.im cut,.im (.tup [.int a,.int b]),.ow (dnA []),.em,.em] ⟨[],.em,.em,⟨rfl,by simpa using hS,hA⟩,rfl⟩ (by
   rintro x r ρ ⟨l',s3,s4,⟨h1,h2,h3⟩,rfl⟩;rw [List.length_cons] at h2;refine ⟨_,_,rfl,Or.inl (fb l' (by omega) x (h3 x List.mem_cons_self) s4),⟨_,_,_,⟨?_,?_,fun u hu=>h3 u (List.mem_cons_of_mem _ hu)⟩,rfl⟩⟩
   . rw [<-h1,List.map_cons,Ai];rw [show (f x).2=1 from hf x]
   . have:=Qt l' (f x).1 (k5 l' (f x).1+1);omega)
 rw [i7 (ρ':=ρ') (by rw [<-q];unfold t8;rw [show iL (g9 J7 (b6 (a9 0) (b6 (eOp dIx (a9 1) (eC (.int 0))) (b6 (eOp dIx (a9 1) (eC (.int 1))) b8)))) (vis [true,true] [.im cut,.im (.tup [.int a,.int b]),.ow (dnA []),.em,.em])=.ok (S.map TuI) by walk_at "dz";rw [es];walk_at "dz"];rfl)]
 have e':l'=y4 [] (S.map f):=h1
 have ll:l'.length<64:=by rw [List.length_nil] at h2;omega
 rw [hr,Z0]
 rw [show g9 P6 (b6 (a9 2) b8) (vis [false,false,true] [.im cut,.im (.tup [.int a,.int b]),.ow (dnA l'),s3,s4])=P6 [dnA l'] from rfl,jU _ ll,e']
 rfl
def bnd (v:Nat->Vc) (n i:Nat):List Int:=(List.range n).map fun d=>dt (v i) (v (i+d))
theorem Qs (v:Nat->Vc) (n i:Nat):(bnd v n i).length=n:=by simp [bnd]
theorem Fs (v:Nat->Vc) (n i d:Nat) (h:d<n):(bnd v n i).getD d 0=dt (v i) (v (i+d)):=by unfold bnd;rw [List.getD_eq_getElem?_getD,List.getElem?_map,List.getElem?_range h];rfl
theorem vg (v:Nat->Vc) (n i:Nat):bnd v n i++[dt (v i) (v (i+n))]=bnd v (n+1) i:=by unfold bnd;rw [List.range_succ,List.map_append];rfl
theorem Yp {xs:List Int} {k:Nat} {i:Int} (h:i=(k:Int) - xs.length) (hk:k<xs.length) (hl:xs.length<1000):dIx (L xs) (.int i)=some (.int (xs.getD k 0)):=by
 have e:atI (xs.map D.int) i=some (.int (xs.getD k 0)):=by
  rw [Sz];have:atI xs i=some (xs.getD k 0):=by unfold atI;rw [show ixN xs.length i=some k by unfold ixN;rw [if_neg (by omega),if_pos (by omega)];congr 1;omega];rw [List.getD_eq_getElem?_getD,List.getElem?_eq_getElem hk];simp [List.getElem?_eq_getElem hk]
  rw [this];rfl
 simp only [L,dIx,dOr,B3,e]
theorem y1z {row:List Int} {v:Nat->Vc} (G:Good row v) (h60:row.length<=60) (a b d:Nat) (hd:a+d+1<row.length) :
  Dy [.im (L row),.im (.int (a:Int)),.im (.int (b:Int)),.ow (L (bnd v (d+2) a)),.im (.int (((a:Int)+1)+(d:Int)))]=.nx [.im (L row),.im (.int (a:Int)),.im (.int (b:Int)),.ow (L (bnd v (d+1+2) a)),.im (.int (((a:Int)+1)+(d:Int)))]:=by
 have rb:=G.rb (a+d+1)
 have bl:=Qs v (d+2) a
 unfold Dy
 walk_at "dz"
 rw [show ((a:Int)+1)+(d:Int)=((a+d+1:Nat):Int) by omega,Mc hd]
 walk_at "dz"
 rw [Yp (k:=d+1) (by rw [bl];omega) (by omega) (by omega),Fs _ _ _ _ (by omega)]
 walk_at "dz"
 rw [y0y (by omega),Yp (k:=d) (by rw [bl];omega) (by omega) (by omega),Fs _ _ _ _ (by omega)]
 walk_at "dz"
 rw [Ng (by omega)]
 walk_at "dz"
 have F:=G.fr.rc (v a) (a+d)
 rw [Nat.mod_eq_of_lt hd,show a+d+1=a+(d+1) by omega,show a+d+2=a+(d+2) by omega] at F
 rw [show a+d+1=a+(d+1) by omega,<-F,vg,show d+2+1=d+1+2 by omega]
theorem wX {row:List Int} {v:Nat->Vc} (G:Good row v) (h60:row.length<=60) (a b:Nat) (hab:a<b) (hb:b<row.length) :
  Ap [L row,.int (a:Int),.int (b:Int)]=.ok (.int (dt (v a) (v b))):=by
 unfold Ap Xw
 walk_at "dz"
 rw [Nf ((a:Int)+1) (b:Int) (by omega) (by omega) (by walk_at "dz")]
 walk_at "dz"
 simp only [zD]
 obtain ⟨ρ',e,x,hr⟩:=Uf (tg:=.n 4) (g:=Dy) (b - a - 1) (fun (d:Nat)=>D.int (((a:Int)+1)+(d:Int)))
  (fun d ρ=>∃x:Sl,ρ=[.im (L row),.im (.int (a:Int)),.im (.int (b:Int)),.ow (L (bnd v (d+2) a)),x])
  [.im (L row),.im (.int (a:Int)),.im (.int (b:Int)),.ow (L [0,1]),.em] ⟨.em,by
   have:bnd v 2 a=[0,1]:=by show [dt (v a) (v (a+0)),dt (v a) (v (a+1))]=[0,1];rw [G.fr.one a,Nat.add_zero,E2]
   rw [this]⟩ (by
   rintro d hd ρ ⟨x,rfl⟩;exact ⟨_,_,rfl,Or.inl (y1z G h60 a b d (by omega)),⟨_,rfl⟩⟩)
 rw [show ((b:Int) - ((a:Int)+1)).toNat=b - a - 1 by omega]
 simp only [L,List.map_cons,List.map_nil] at e
 simp only [L]
 rw [e,hr]
 walk_at "dz"
 rw [show (b:Int) - (a:Int)=((b - a:Nat):Int) by omega,Mc (by rw [Qs];omega),Fs _ _ _ _ (by omega),show a+(b - a)=b by omega]
 rfl
theorem Mj {n:Nat} (hn:3<=n) {ls:List P2} {T:List P3} (I:CInv (n:Int) ls T):(Ls n ls).Nodup:=by
 unfold Ls;refine (u9 _).nodup_iff.mpr (List.nodup_append.mpr ⟨?_,(u9 ls).nodup_iff.mpr I.nd,fun p hp q hq e=>?_⟩)
 . unfold Sd List.Nodup;rw [List.pairwise_map];refine List.pairwise_lt_range.imp_of_mem fun {i j} hi hj h e=>?_
   rw [List.mem_range] at hi hj;unfold sd at e;rw [if_neg (by omega)] at e;split at e<;>(rw [Prod.mk.injEq] at e;omega)
 . subst e;have h1:=(S7 hn).mp hp;have h2:=I.lin p.1 p.2 ((u9 ls).mem_iff.mp hq);omega
theorem Od {n:Nat} (hn:3<=n) {ls:List P2} {T:List P3} (I:CInv (n:Int) ls T) {t:P3} (h:t∈T):(t.1,t.2.1)∈Ls n ls/\(t.1,t.2.2)∈Ls n ls/\(t.2.1,t.2.2)∈Ls n ls:=by
 obtain ⟨a,c,b⟩:=t;obtain ⟨i0,i1,i2,i3,i4,i5⟩:=I.tri a c b h;have o:=I.prm.mem_iff.mp (List.mem_map.mpr ⟨_,h,rfl⟩);simp only [outer] at o;refine ⟨mem_Ls.mpr ?_,mem_Ls.mpr ?_,mem_Ls.mpr ?_⟩
 . rcases i4 with z | z
   . exact .inr z
   . exact .inl ((S7 hn).mpr ⟨i0,by show c<n;omega,.inl z⟩)
 . rcases List.mem_cons.mp o with z | z
   . rw [Prod.mk.injEq] at z;exact .inl ((S7 hn).mpr ⟨i0,by show b<n;omega,.inr z⟩)
   . exact .inr z
 . rcases i5 with z | z
   . exact .inr z
   . exact .inl ((S7 hn).mpr ⟨by show 0<=c;omega,by show b<n;omega,.inl z⟩)
theorem Bm {n:Nat} (hn:3<=n) {ls:List P2} {T:List P3} (I:CInv (n:Int) ls T) {p:P2} (h:p∈Ls n ls):0<=p.1/\p.1<p.2/\p.2<n:=by
 rcases mem_Ls.mp h with h | h
 . have:=(S7 hn).mp h;omega
 . have:=I.lin p.1 p.2 h;omega
theorem jP {n:Nat} (hn:3<=n) {ls:List P2} {T:List P3} (I:CInv (n:Int) ls T) {p q r:Int} (h1:(p,q)∈Ls n ls) (h2:(p,r)∈Ls n ls) (h3:(q,r)∈Ls n ls) (hq:p<q) (hr:q<r):(p,q,r)∈T:=by
 have l1:=Bm hn I h1;have l2:=Bm hn I h2;simp only at l1 l2;have line:∀x y:Int,(x,y)∈Ls n ls->x+2<=y->(x≠0\/y≠n - 1)->(x,y)∈ls:=fun x y h z1 z2=>by
  rcases mem_Ls.mp h with h | h
  . have:=(S7 hn).mp h;simp only at this;omega
  . exact h
 have o:(p,r)∈((0,(n:Int) - 1)::ls):=by
  by_cases z:p=0/\r=n - 1
  . rw [z.1,z.2];exact List.mem_cons_self
  . exact List.mem_cons_of_mem _ (line p r h2 (by omega) (by omega))
 obtain ⟨⟨p',m,r'⟩,ht,e⟩:=List.mem_map.mp (I.prm.mem_iff.mpr o);simp only [outer,Prod.mk.injEq] at e;obtain ⟨rfl,rfl⟩:=e;obtain ⟨i0,i1,i2,i3,i4,i5⟩:=I.tri p' m r' ht;rcases Int.lt_trichotomy q m with z | z | z
 . exfalso;have a1:(p',m)∈ls:=i4.resolve_right (by omega);have a2:=line q r' h3 (by omega) (by omega);exact I.nc p' m q r' a1 a2 ⟨hq,z,i2⟩
 . rw [z];exact ht
 . exfalso;have a1:(m,r')∈ls:=i5.resolve_right (by omega);have a2:=line p' q h1 (by omega) (by omega);exact I.nc p' q m r' a2 a1 ⟨i1,z,hr⟩
def cs3 (n:Nat) (p:P2):List Int:=(List.range ((n:Int) - (p.2+1)).toNat).map fun (k:Nat)=>p.2+1+(k:Int)
def th3 (S:List P2) (n:Nat) (p:P2):List P3:=((cs3 n p).filter fun c=>decide ((p.1,c)∈S)&&decide ((p.2,c)∈S)).map fun c=>(p.1,p.2,c)
theorem mem_th3 {S:List P2} {n:Nat} {p:P2} {t:P3}:t∈th3 S n p↔t.1=p.1/\t.2.1=p.2/\p.2<t.2.2/\t.2.2<n/\(p.1,t.2.2)∈S/\(p.2,t.2.2)∈S:=by
 obtain ⟨a,b,c⟩:=t;unfold th3 cs3;simp only [List.mem_map,List.mem_filter,Bool.and_eq_true,decide_eq_true_eq,Prod.mk.injEq,List.mem_range];constructor
 . rintro ⟨c',⟨⟨k,hk,rfl⟩,h1,h2⟩,rfl,rfl,rfl⟩;exact ⟨rfl,rfl,by omega,by omega,h1,h2⟩
 . rintro ⟨rfl,rfl,h1,h2,h3,h4⟩;exact ⟨c,⟨⟨(c - (p.2+1)).toNat,by omega,by omega⟩,h3,h4⟩,rfl,rfl,rfl⟩
theorem wW {n:Nat} (hn:3<=n) {ls:List P2} {T:List P3} (I:CInv (n:Int) ls T):((Ls n ls).flatMap (th3 (Ls n ls) n)).Perm T:=by
 have nT:T.Nodup:=by have:(T.map outer).Nodup:=I.prm.nodup_iff.mpr (List.nodup_cons.mpr ⟨fun h=>(I.lin _ _ h).2.2.2 ⟨rfl,rfl⟩,I.nd⟩);unfold List.Nodup at this ⊢;rw [List.pairwise_map] at this;exact this.imp fun z e=>z (by rw [e])
 refine (List.perm_ext_iff_of_nodup ?_ nT).mpr fun t=>?_
 . unfold List.Nodup;rw [List.pairwise_flatMap];refine ⟨fun p _=>?_,(Mj hn I).imp fun {p q} h t ht u hu e=>?_⟩
   . unfold th3 cs3;rw [List.pairwise_map];refine List.Pairwise.filter _ ?_;rw [List.pairwise_map];refine List.pairwise_lt_range.imp fun {i j} h e=>?_
     rw [Prod.mk.injEq,Prod.mk.injEq] at e;omega
   . subst e;have h1:=mem_th3.mp ht;have h2:=mem_th3.mp hu;exact h (Prod.ext (h1.1.symm.trans h2.1) (h1.2.1.symm.trans h2.2.1))
 . rw [List.mem_flatMap];obtain ⟨a,b,c⟩:=t;constructor
   . rintro ⟨⟨p,q⟩,hp,h⟩;obtain ⟨rfl,rfl,h1,h2,h3,h4⟩:=mem_th3.mp h;have:=Bm hn I hp;exact jP hn I hp h3 h4 this.2.1 h1
   . intro h;obtain ⟨h1,h2,h3⟩:=Od hn I h;have:=I.tri a b c h;exact ⟨(a,b),h1,mem_th3.mpr ⟨rfl,rfl,by show b<c;omega,by show c<n;omega,h2,h3⟩⟩
theorem app_T3 {F:List P3} (h:F.length<1000) (a b c:Int):r6 (.lst (F.map T3)) [.tup [.int a,.int b,.int c]]=some (.lst ((F++[(a,b,c)]).map T3)):=by simp only [r6,List.length_map];rw [if_pos (by omega),List.map_append];rfl
theorem Ly (p:P2) (ls:List P2):dIn false (T2 p) (.lst (ls.map T2))=some (.bl (decide (p∈ls))):=by have h:=kQ p ls;have h1:=E3 ls T2 1 Y1;unfold dIn dOr M9 at h ⊢;simp only [K5,L2.pls_of ls T2 K5,true_and,if_pos (show j2 (ls.map T2)<=20 by omega),Bool.false_eq_true,if_false,Option.some.injEq,D.bl.injEq] at h ⊢;rw [h]
theorem jO (n:D) (S:List P2) (F:List P3) (hF:F.length<1000) (a b c:Int) :
  Dx [.im n,.im (.lst (S.map T2)),.ow (.lst (F.map T3)),.im (.int a),.im (.int b),.im (.int c)] =
   .nx [.im n,.im (.lst (S.map T2)),.ow (.lst ((F++(if (decide ((a,c)∈S)&&decide ((b,c)∈S))=true then [(a,b,c)] else [])).map T3)),.im (.int a),.im (.int b),.im (.int c)]:=by
 have e1:dIn false (.tup [.int a,.int c]) _=_:=Ly (a,c) S
 have e2:dIn false (.tup [.int b,.int c]) _=_:=Ly (b,c) S
 have e3:=app_T3 hF a b c
 generalize decide ((a,c)∈S)=A at *
 generalize decide ((b,c)∈S)=B at *
 generalize S.map T2=s at *
 unfold Dx
 walk_at "dz"
 rw [e1]
 walk_at "dz"
 rw [e2]
 walk_at "dz"
 cases A<;>cases B
 . simp only [Bool.and_false,Bool.false_eq_true,if_false,List.append_nil]
 . simp only [Bool.and_true,Bool.false_eq_true,if_false,List.append_nil]
 . simp only [Bool.and_false,Bool.false_eq_true,if_false,List.append_nil,if_true]
 . simp only [Bool.and_true,if_true];walk_at "dz";rw [e3];walk_at "dz"
theorem jN (n:Nat) (hn:n<=20) (S:List P2) (F:List P3) (p:P2) (hp:0<=p.2) (hb:p.2<=1000) (hF:F.length+30<900) (s5:Sl):∃s5',
  As [.im (.int (n:Int)),.im (.lst (S.map T2)),.ow (.lst (F.map T3)),.im (.int p.1),.im (.int p.2),s5] =
   .nx [.im (.int (n:Int)),.im (.lst (S.map T2)),.ow (.lst ((F++th3 S n p).map T3)),.im (.int p.1),.im (.int p.2),s5']:=by
 have hl:(cs3 n p).length<=20:=by unfold cs3;rw [List.length_map,List.length_range];omega
 . obtain ⟨ρ',q,F',s5',h1,h2,hr⟩:=O8 (tg:=.n 5) (g:=Dx) (en:=D.int)
    (fun r ρ=>∃(F':List P3) (s5':Sl),F'++((r.filter fun c=>decide ((p.1,c)∈S)&&decide ((p.2,c)∈S)).map fun c=>(p.1,p.2,c))=F++th3 S n p/\F'.length+r.length<=F.length+20/\ρ=[.im (.int (n:Int)),.im (.lst (S.map T2)),.ow (.lst (F'.map T3)),.im (.int p.1),.im (.int p.2),s5'])
    (cs3 n p) [.im (.int (n:Int)),.im (.lst (S.map T2)),.ow (.lst (F.map T3)),.im (.int p.1),.im (.int p.2),s5] ⟨F,s5,rfl,by omega,rfl⟩ (by
     rintro c r ρ ⟨F',s5',h1,h2,rfl⟩;rw [List.length_cons] at h2;refine ⟨_,_,rfl,Or.inl (jO (.int (n:Int)) S F' (by omega) p.1 p.2 c),⟨_,_,?_,?_,rfl⟩⟩
     . rw [<-h1,List.append_assoc];congr 1;by_cases z:(decide ((p.1,c)∈S)&&decide ((p.2,c)∈S))=true
       . rw [if_pos z,List.filter_cons_of_pos (by exact z)];rfl
       . rw [if_neg z,List.filter_cons_of_neg (by exact z)];rfl
     . rw [List.length_append];have:(if (decide ((p.1,c)∈S)&&decide ((p.2,c)∈S))=true then [(p.1,p.2,c)] else []).length<=1:=by split<;>simp
       omega)
   refine ⟨s5',?_⟩
   have e:As [.im (.int (n:Int)),.im (.lst (S.map T2)),.ow (.lst (F.map T3)),.im (.int p.1),.im (.int p.2),s5]=.nx ρ':=by rw [<-q];unfold As t8;rw [Nf (p.2+1) (n:Int) (by omega) (by omega) (by walk_at "dz")];unfold cs3;rw [List.map_map];rfl
   rw [e,hr]
   rw [List.filter_nil,List.map_nil,List.append_nil] at h1
   rw [h1]
theorem wV {n:Nat} (hn:3<=n) (h20:n<=12) {ls:List P2} {T:List P3} (I:CInv (n:Int) ls T) (hl:ls.length+3=n):Ao [.int (n:Int),.lst ((Ls n ls).map T2)]=.ok (.lst ((so3 T).map T3)):=by
 have pm:=wW hn I;have hT:=I.tlen hl;have lt:=fun p hp=>Bm hn I (p:=p) hp
 have ll:(Ls n ls).length<=21:=by rw [Ft];omega
 generalize Ls n ls=S at *;unfold Ao;rw [G6,if_pos (show [D.int (n:Int),D.lst (S.map T2)].length=2 from rfl)];show SR.out true (Ln [.im (.int (n:Int)),.im (.lst (S.map T2)),.em,.em,.em,.em])=_;unfold Ln;rw [i7 (ρ':=[.im (.int (n:Int)),.im (.lst (S.map T2)),.ow (.lst (([]:List P3).map T3)),.em,.em,.em]) (by generalize S.map T2=s;walk_at "dz";try rfl)];obtain ⟨ρ',q,F,s3,s4,s5,⟨h1,_⟩,hr⟩:=O8 (tg:=.t [3,4]) (g:=As) (en:=T2)
  (fun r ρ=>∃(F:List P3) (s3 s4 s5:Sl),(F++r.flatMap (th3 S n)=S.flatMap (th3 S n)/\F.length+20 * r.length<=420/\∀p∈r,p∈S)/\ρ=[.im (.int (n:Int)),.im (.lst (S.map T2)),.ow (.lst (F.map T3)),s3,s4,s5])
  S [.im (.int (n:Int)),.im (.lst (S.map T2)),.ow (.lst (([]:List P3).map T3)),.em,.em,.em] ⟨[],.em,.em,.em,⟨rfl,by simp;omega,fun p hp=>hp⟩,rfl⟩ (by
   rintro p r ρ ⟨F,s3,s4,s5,⟨h1,h2,h3⟩,rfl⟩;rw [List.length_cons] at h2;have hp:=lt p (h3 p List.mem_cons_self);obtain ⟨s5',e⟩:=jN n (by omega) S F p (by omega) (by omega) (by omega) s5;refine ⟨_,_,rfl,Or.inl e,⟨_,_,_,_,⟨?_,?_,fun u hu=>h3 u (List.mem_cons_of_mem _ hu)⟩,rfl⟩⟩
   . rw [<-h1,List.flatMap_cons,List.append_assoc]
   . have:(th3 S n p).length<=20:=by
      unfold th3 cs3
      rw [List.length_map]
      refine Nat.le_trans (List.length_filter_le _ _) ?_
      rw [List.length_map,List.length_range];omega
     rw [List.length_append];omega)
 rw [i7 (ρ':=ρ') (by rw [<-q];rfl)];rw [List.flatMap_nil,List.append_nil] at h1;rw [hr];have fl:F.length<64:=by rw [h1,pm.length_eq];omega
 rw [Z0];show SR.out true ((R.of (l6 [.lst (F.map T3)])).toS _)=_;rw [Vm _ fl,Di (show F.Perm T by rw [h1];exact pm)];rfl
def crn (n:Nat) (a b:Int):List Int:=((List.range n).map fun (k:Nat)=>(k:Int)).filter fun c=>!decide (c=a\/c=b)
theorem mem_crn {n:Nat} {a b c:Int}:c∈crn n a b↔0<=c/\c<n/\c≠a/\c≠b:=by
 unfold crn;simp only [List.mem_filter,List.mem_map,List.mem_range,Bool.not_eq_true',decide_eq_false_iff_not,not_or];constructor
 . rintro ⟨⟨k,hk,rfl⟩,h⟩;omega
 . rintro ⟨h1,h2,h3,h4⟩;exact ⟨⟨c.toNat,by omega,by omega⟩,h3,h4⟩
theorem Oc (n:Nat) (a b:Int):(crn n a b).Pairwise (·<·):=by unfold crn;refine List.Pairwise.filter _ ?_;rw [List.pairwise_map];exact List.pairwise_lt_range.imp fun h=>by omega
theorem vf {n:Nat} {a b:Int} {x:List Int} (p:x.Perm (crn n a b)):soI x=crn n a b:=by
 have h1:(soI x).map D.int=(crn n a b).map D.int:=by rw [<-Ho];have hoi:ois (x.map D.int)=true:=y6 x D.int Au;refine J3 (O9 (y9 _) hoi) ((y9 _).trans (p.map _)) (E6 hoi) ?_;refine List.pairwise_map.mpr ((Oc n a b).imp fun {a b} hab=>?_);simp only [ltT,decide_eq_false_iff_not];omega
 exact Wt h1
theorem ve {n:Nat} {ls:List P2} {T:List P3} (I:CInv (n:Int) ls T) (hl:ls.length+3=n) {a b:Int} (ha:0<=a/\a<n) (hb:0<=b/\b<n) (hab:a≠b) {x:List Int} (hx:x∈Sh [a,b] (so3 T)):x.Perm (crn n a b):=by
 obtain ⟨h1,h2,h3⟩:=mem_Sh.mp hx;have hsub:∀c∈x,c∈crn n a b:=fun c hc=>by obtain ⟨u,hu,hk⟩:=h1.mem c hc;have:=I.tri u.1 u.2.1 u.2.2 ((t6 T).mem_iff.mp hu);have h4:=h3 c hc;simp only [List.mem_cons,List.not_mem_nil,or_false,not_or] at h4;unfold cor at hk;simp only [List.mem_cons,List.not_mem_nil,or_false] at hk;exact mem_crn.mpr ⟨by omega,by omega,h4.1,h4.2⟩
 have nd:(crn n a b).Nodup:=(Oc n a b).imp fun h=>by omega
 have len:(crn n a b).length<=x.length:=by
  have hlx:x.length+2=n:=by rw [h1.len,(t6 T).length_eq];exact I.tlen hl
  have:(a::b::crn n a b).length<=((List.range n).map fun (k:Nat)=>(k:Int)).length:=Bx (List.nodup_cons.mpr ⟨by simp [hab,mem_crn],List.nodup_cons.mpr ⟨by simp [mem_crn],nd⟩⟩) fun c hc=>by
   simp only [List.mem_cons] at hc;refine List.mem_map.mpr ⟨c.toNat,List.mem_range.mpr ?_,?_⟩
   . rcases hc with rfl | rfl | hc
     . omega
     . omega
     . have:=mem_crn.mp hc;omega
   . rcases hc with rfl | rfl | hc
     . omega
     . omega
     . have:=mem_crn.mp hc;omega
  simp only [List.length_cons,List.length_map,List.length_range] at this;omega
 refine (List.perm_ext_iff_of_nodup h2 nd).mpr fun c=>⟨hsub c,fun hc=>?_⟩
 apply Classical.byContradiction;intro hn;have:=Bx (xs:=c::x) (ys:=crn n a b) (List.nodup_cons.mpr ⟨hn,h2⟩) fun z hz=>by
  rcases List.mem_cons.mp hz with rfl | hz
  . exact hc
  . exact hsub z hz
 rw [List.length_cons] at this;omega
theorem Gw:∀{ts:List P3} {x:List Int},Cu.Al x ts->(x.zip ts).all (fun p=>decide (p.1∈cor p.2))=true
 | [],x,_=>by simp
 | t::ts,[],h=>by simp
 | t::ts,c::x,h=>by unfold Cu.Al at h;rw [List.zip_cons_cons,List.all_cons,Gw h.2,Bool.and_true];exact decide_eq_true h.1
theorem jM (c:Int) (t:P3):dIn false (.int c) (T3 t)=some (.bl (decide (c∈cor t))):=by rw [y12];congr 2;rw [Bool.eq_iff_iff];simp [cor]
theorem yi {n:Nat} (hn:n<=20) {ts:List P3} {a b:Int} {x:List Int} (p:x.Perm (crn n a b)) (h:Cu.Al x ts) (hl:x.length<=20):Q1 [TuI x,L (crn n a b),.lst (ts.map T3)]=.ok (.bl true):=by
 have e1:U8 [TuI x]=some (L (crn n a b)):=by unfold U8 TuI;simp only [Ah];rw [if_pos (by omega),Ho,vf p];rfl
 have hz:z8 (b6 (a9 0) (b6 (a9 2) b8)) [some (TuI x),none,some (.lst (ts.map T3))]=.ok ((x.zip ts).map fun p=>D.tup [.int p.1,T3 p.2]):=by unfold z8;show R.of (if (x.map D.int).length=(ts.map T3).length then some (((x.map D.int).zip (ts.map T3)).map fun p=>D.tup [p.1,p.2]) else none)=_;rw [if_pos (by rw [List.length_map,List.length_map,h.len]),R.of_some,List.zip_map,List.map_map];rfl
 have hc:h7 (z8 (b6 (a9 0) (b6 (a9 2) b8))) (bT 2) [] k6 Q2 [some (TuI x),none,some (.lst (ts.map T3))]=.ok (.lst ((x.zip ts).map fun p=>.bl (decide (p.1∈cor p.2)))):=by unfold h7;rw [hz,R.bind_ok,if_pos (by rw [List.length_map,List.length_zip];omega)];show ((x9 (bT 2) k6 Q2 [] ((x.zip ts).map fun p=>D.tup [.int p.1,T3 p.2])).bind fun ys=>R.ok (D.lst ys))=_;rw [J4 (bn:=bT 2) (en:=fun p:Int×P3=>D.tup [.int p.1,T3 p.2]) (bs:=fun p=>[.int p.1,T3 p.2]) (g:=fun p=>.bl (decide (p.1∈cor p.2))) (x.zip ts) (fun x _=>rfl) (fun p _=>by unfold Q2;show eOp (dIn false) (a9 0) (a9 1) [some (.int p.1),some (T3 p.2)]=_;generalize hT:T3 p.2=Q;walk_at "dz";rw [<-hT,jM];rfl)];rfl
 have ht:r8 "tuple" (TuI x)=some (.bl true):=wO _;have en:dNe (L (crn n a b)) (L (crn n a b))=some (.bl false):=by rw [y2y];simp
 unfold Q1;rw [G6,if_pos (show [TuI x,L (crn n a b),D.lst (ts.map T3)].length=3 from rfl)];show SR.out false (Lr [.im (TuI x),.im (L (crn n a b)),.im (.lst (ts.map T3))])=_;unfold Lr;rw [i7 (ρ':=[.im (TuI x),.im (L (crn n a b)),.im (.lst (ts.map T3))]) (by generalize TuI x=X at *;generalize L (crn n a b)=C at *;generalize ts.map T3=t' at *;walk_at "dz";rw [ht];walk_at "dz";rw [e1];walk_at "dz";rw [en];walk_at "dz")];rw [Z0];show SR.out false ((eCB M7 (b6 (h7 (z8 (b6 (a9 0) (b6 (a9 2) b8))) (bT 2) [] k6 Q2) b8) [some (TuI x),none,some (.lst (ts.map T3))]).toS _)=_;rw [show eCB M7 (b6 (h7 (z8 (b6 (a9 0) (b6 (a9 2) b8))) (bT 2) [] k6 Q2) b8) [some (TuI x),none,some (.lst (ts.map T3))]=.ok (.bl true) by unfold eCB;rw [show b6 (h7 (z8 (b6 (a9 0) (b6 (a9 2) b8))) (bT 2) [] k6 Q2) b8 [some (TuI x),none,some (.lst (ts.map T3))]=.ok [.lst ((x.zip ts).map fun p=>.bl (decide (p.1∈cor p.2)))] by show (h7 _ _ _ _ _ _).bind _=_;rw [hc];rfl];rw [R.bind_ok,all_map,Gw h];rfl];rfl
theorem Qr:∀{ts:List P3} {x:List Int},x.length=ts.length->(x.zip ts).map (fun p=>opp p.2 p.1)=ab ts x
 | [],x,_=>by simp [ab]
 | t::ts,[],h=>by simp at h
 | t::ts,c::x,h=>by rw [List.zip_cons_cons,List.map_cons,Qr (by simpa using h)];rfl
theorem y21 {S:List P2} (hl:S.length<=1000) {q:P2} (h:q∈S):∃k,∃hk:k<S.length,S[k]=q/\Z5 (.lst (S.map T2)) (T2 q)=some (.int (k:Int)):=by
 have hx:∃x∈S,(fun e=>eqD (T2 e) (T2 q)) x=true:=⟨q,h,by simp only [Y0,decide_true]⟩;have hk:=List.findIdx_lt_length_of_exists hx;refine ⟨S.findIdx (fun e=>eqD (T2 e) (T2 q)),hk,?_,?_⟩
 . have:=List.findIdx_getElem (w:=hk);simpa only [Y0,decide_eq_true_eq] using this
 . have:=E3 S T2 1 Y1;simp only [Z5];rw [show (S.map T2).findIdx (fun e=>eqD e (T2 q))=S.findIdx (fun e=>eqD (T2 e) (T2 q)) by rw [List.findIdx_map];rfl];rw [if_pos ⟨L2.pls_of S T2 K5,K5 q,by omega,by rw [List.length_map];omega,by rw [List.length_map];exact hk⟩]
theorem jL {S:List P2} (hn:S.Nodup) {k:Nat} (hk:k<S.length) (f:P2->Int):(S.map f).set k (f S[k]+1)=S.map fun p=>f p+if p=S[k] then 1 else 0:=by
 apply List.ext_getElem
 . simp
 . intro i h1 h2;have hi:i<S.length:=by simpa using h2
   rw [List.getElem_set];by_cases z:k=i
   . subst z;simp
   . rw [if_neg z,List.getElem_map,List.getElem_map,if_neg (fun e=>by
      rcases Nat.lt_or_gt_of_ne z with w | w
      . exact List.pairwise_iff_getElem.mp hn k i hk hi w e.symm
      . exact List.pairwise_iff_getElem.mp hn i k hi hk w e),Int.add_zero]
theorem jK {S l:List P2} (hS:S.length<=1000) (hn:S.Nodup) (W Z:D) (f:P2->Int) {t:P3} (ht:t.1<t.2.1/\t.2.1<t.2.2) {c:Int} (hc:c∈cor t) (hq:opp t c∈S) (s7 s8:Sl):∃s8',
  Ds [.im W,.im Z,.im (.lst (l.map T2)),.im (.lst (S.map T2)),.ow (L (S.map f)),.im (.int c),.im (T3 t),s7,s8] =
   .nx [.im W,.im Z,.im (.lst (l.map T2)),.im (.lst (S.map T2)),.ow (L (S.map fun p=>f p+if p=opp t c then 1 else 0)),.im (.int c),.im (T3 t),.im (T2 (opp t c)),s8']:=by
 have e:=Mk ht hc
 obtain ⟨k,hk,ek,ei⟩:=y21 hS hq
 have es:=jL hn hk f
 rw [ek] at es
 have eg:(S.map f).getD k 0=f (opp t c):=by rw [List.getD_eq_getElem?_getD,List.getElem?_map,List.getElem?_eq_getElem hk,ek];rfl
 have s1:e8 false 7 [false,false,false,false,false,true,true] (eCB D9 (b6 (h7 (iL (a9 6)) b1 [5] Lm Ll) b8)) [.im W,.im Z,.im (.lst (l.map T2)),.im (.lst (S.map T2)),.ow (L (S.map f)),.im (.int c),.im (T3 t),s7,s8] =
   .nx [.im W,.im Z,.im (.lst (l.map T2)),.im (.lst (S.map T2)),.ow (L (S.map f)),.im (.int c),.im (T3 t),.im (T2 (opp t c)),s8]:=by
  generalize S.map f=ps
  generalize l.map T2=l'
  generalize S.map T2=S'
  walk_at "dz"
  rw [show [D.int t.1,D.int t.2.1,D.int t.2.2]=(cor t).map D.int from rfl,P0 (en:=D.int) (bs:=fun x=>[D.int x]) (p:=fun x=>decide (x≠c)) (g:=fun x=>D.int x) (cor t) (fun x _=>rfl) (fun x _=>by
   unfold Lm;walk_at "dz";congr 1;by_cases h:x=c<;>simp [h]) (fun x _ _=>by
   unfold Ll;walk_at "dz")]
  rw [show List.map (fun x=>D.int x) ((cor t).filter fun x=>decide (x≠c))=_ from e]
  walk_at "dz"
  rfl
 have kT:keeps false (D.int (k:Int))=true:=rfl
 refine ⟨.im (.int (k:Int)),?_⟩
 unfold Ds
 rw [i7 s1]
 rw [i7 (ρ':=[.im W,.im Z,.im (.lst (l.map T2)),.im (.lst (S.map T2)),.ow (L (S.map f)),.im (.int c),.im (T3 t),.im (T2 (opp t c)),.im (.int (k:Int))]) (by rw [Sj];rw [show W2 (a9 3) (a9 7) (vis [false,false,false,true,false,false,false,true] [.im W,.im Z,.im (.lst (l.map T2)),.im (.lst (S.map T2)),.ow (L (S.map f)),.im (.int c),.im (T3 t),.im (T2 (opp t c)),s8])=.ok (.int (k:Int)) by show R.of (Z5 (.lst (S.map T2)) (T2 (opp t c)))=_;rw [ei];rfl];rw [J1];cases s8<;>rfl)]
 generalize l.map T2=l' at *
 generalize S.map T2=S' at *
 have hkl:k<(S.map f).length:=by rw [List.length_map];exact hk
 have h1000:(S.map f).length<=1000:=by rw [List.length_map];exact hS
 generalize (S.map fun p=>f p+if p=opp t c then 1 else 0)=ps' at *
 generalize S.map f=ps at *
 walk_at "dz"
 rw [Mc hkl,eg]
 walk_at "dz"
 rw [Ew (by omega) (by omega),Int.toNat_natCast,es]
 walk_at "dz"
theorem jJ {S l:List P2} (hS:S.length<=900) (hn:S.Nodup) (hln:l.Nodup) {ts:List P3} {x:List Int} (h:Cu.Al x ts) (ha:Asc ts) (hT:ts.length<=900) (hin:∀t∈ts,∀c∈cor t,opp t c∈S) :
  P8 [TuI x,.lst (ts.map T3),.lst (l.map T2),.lst (S.map T2)]=.ok (TuI (pw S (ab ts x) l)):=by
 have hlen:=h.len
 have hz:z8 (b6 (a9 0) (b6 (a9 1) b8)) (vis [true,true] [.im (TuI x),.im (.lst (ts.map T3)),.im (.lst (l.map T2)),.im (.lst (S.map T2)),.ow (L (S.map fun q=>-(if q∈l then 1 else 0))),.em,.em,.em,.em])=.ok ((x.zip ts).map fun p=>D.tup [.int p.1,T3 p.2]):=by unfold z8;show R.of (if (x.map D.int).length=(ts.map T3).length then some (((x.map D.int).zip (ts.map T3)).map fun p=>D.tup [p.1,p.2]) else none)=_;rw [if_pos (by rw [List.length_map,List.length_map,hlen]),R.of_some,List.zip_map,List.map_map];rfl
 have hzm:∀p∈x.zip ts,(p.2.1<p.2.2.1/\p.2.2.1<p.2.2.2)/\p.1∈cor p.2/\opp p.2 p.1∈S:=fun p hp=>by have m2:=(List.of_mem_zip hp).2;have:=List.all_eq_true.mp (Gw h) p hp;have hc:p.1∈cor p.2:=of_decide_eq_true this;exact ⟨ha _ m2,hc,hin _ m2 _ hc⟩
 unfold P8
 rw [G6,if_pos (show [TuI x,D.lst (ts.map T3),D.lst (l.map T2),D.lst (S.map T2)].length=4 from rfl)]
 show SR.out false (Kx [.im (TuI x),.im (.lst (ts.map T3)),.im (.lst (l.map T2)),.im (.lst (S.map T2)),.em,.em,.em,.em,.em])=_
 unfold Kx
 rw [i7 (ρ':=[.im (TuI x),.im (.lst (ts.map T3)),.im (.lst (l.map T2)),.im (.lst (S.map T2)),.ow (L (S.map fun q=>-(if q∈l then 1 else 0))),.em,.em,.em,.em]) (by
  have i2:=fun q=>Ly q l
  generalize TuI x=X;generalize ts.map T3=ts';walk_at "dz";rw [if_pos (by rw [List.length_map];omega),J4 (en:=T2) (bs:=fun q=>[T2 q]) (g:=fun q=>D.int (-(if q∈l then 1 else 0))) S (fun x _=>rfl) (fun q _=>by unfold Xv;show eUn K3 (eCB M6 (b6 (eOp (dIn false) (a9 0) (a9 1)) b8)) [some (T2 q),some (.lst (l.map T2))]=_;have:=i2 q;generalize T2 q=Q at *;generalize l.map T2=l' at *;walk_at "dz";rw [this];walk_at "dz";by_cases z:q∈l<;>simp [z])];rw [show (S.map fun q=>D.int (-(if q∈l then 1 else 0)))=(S.map fun q=>-(if q∈l then 1 else 0)).map D.int by rw [List.map_map];rfl];generalize (S.map fun q=>(-(if q∈l then 1 else 0):Int))=ps;generalize l.map T2=l';generalize S.map T2=S';walk_at "dz";rw [show j4 (ps.map D.int)=true from y8 D.int _ fun x _=>Ab x];rfl)]
 obtain ⟨ρ',q,f,s5,s6,s7,s8,⟨h1,_⟩,hr⟩:=O8 (tg:=.t [5,6]) (g:=Ds) (en:=fun p:Int×P3=>D.tup [.int p.1,T3 p.2])
  (fun r ρ=>∃(f:P2->Int) (s5 s6 s7 s8:Sl),((∀q,f q+(((r.map fun p=>opp p.2 p.1).count q:Nat):Int)=(((ab ts x).count q:Nat):Int) - (if q∈l then 1 else 0))/\∀p∈r,p∈x.zip ts)/\ρ=[.im (TuI x),.im (.lst (ts.map T3)),.im (.lst (l.map T2)),.im (.lst (S.map T2)),.ow (L (S.map f)),s5,s6,s7,s8])
  (x.zip ts) [.im (TuI x),.im (.lst (ts.map T3)),.im (.lst (l.map T2)),.im (.lst (S.map T2)),.ow (L (S.map fun q=>-(if q∈l then 1 else 0))),.em,.em,.em,.em]
  ⟨_,.em,.em,.em,.em,⟨fun q=>by rw [Qr hlen];omega,fun p hp=>hp⟩,rfl⟩ (by
   rintro ⟨c,t⟩ r ρ ⟨f,s5,s6,s7,s8,⟨h1,h2⟩,rfl⟩;obtain ⟨z1,z2,z3⟩:=hzm _ (h2 _ List.mem_cons_self);obtain ⟨s8',e⟩:=jK (l:=l) (by omega) hn (TuI x) (.lst (ts.map T3)) f z1 z2 z3 s7 s8;refine ⟨_,_,rfl,Or.inl e,⟨_,_,_,_,_,⟨fun q=>?_,fun p hp=>h2 p (List.mem_cons_of_mem _ hp)⟩,rfl⟩⟩;rw [<-h1 q,List.map_cons,List.count_cons];by_cases z:q=opp t c
   . rw [if_pos z,if_pos (by simp [z])];omega
   . rw [if_neg z,if_neg (by simpa using fun e=>z e.symm)];omega)
 rw [i7 (ρ':=ρ') (by rw [<-q];unfold t8;rw [hz];rfl)]
 rw [hr]
 have ef:S.map f=pw S (ab ts x) l:=by
  unfold pw;apply List.map_congr_left;intro q _;have:=h1 q;rw [List.map_nil,List.count_nil] at this;rw [hln.count];split at this<;>rename_i z
  . rw [if_pos z];omega
  . rw [if_neg z];omega
 rw [ef]
 generalize pw S (ab ts x) l=P
 generalize TuI x=X
 generalize ts.map T3=ts'
 generalize l.map T2=l'
 generalize S.map T2=S'
 walk_at "dz"
 try rfl
theorem Ob:∀(b:List Tm) (j:List Int),(∀t∈b,0<=t.2)->0<=tot b j
 | [],j,_=>Int.le_refl 0
 | t::b,j,h=>by
  have:=Ob b j fun u hu=>h u (List.mem_cons_of_mem _ hu)
  have h1:=h t List.mem_cons_self;rw [tot];split<;>omega
theorem Qq:∀(b:List Tm) (j:List Int),(∀t∈b,1<=t.2)->j∈j3 b->1<=tot b j
 | [],j,_,h=>by simp [j3] at h
 | t::b,j,h,hj=>by
  have h1:=h t List.mem_cons_self;have nn:=Ob b j fun u hu=>by have:=h u (List.mem_cons_of_mem _ hu);omega
  rw [tot];by_cases z:t.1=j
  . rw [if_pos z];omega
  . rw [if_neg z];have hj':j∈j3 b:=by
     unfold j3 at hj ⊢;rw [List.map_cons] at hj;rcases List.mem_cons.mp hj with e | e
     . exact absurd e.symm z
     . exact e
    have:=Qq b j (fun u hu=>h u (List.mem_cons_of_mem _ hu)) hj';omega
theorem y22 (S1 l:List P2) (ts:List P3) (S:List (List Int)):Cn (frZ S1 l ts S)=soM (frZ S1 l ts S):=by
 unfold Cn;rw [List.filter_eq_self.mpr fun t ht=>?_];have nd:(j3 (frZ S1 l ts S)).Nodup:=Uy _ _ (by simp [j3]);have e:=vo nd ht;have hk:t.1∈j3 (S.map (fr S1 l ts)):=by
  rcases Tt _ _ _ (List.mem_map.mpr ⟨t,ht,rfl⟩) with z | z
  . simp [j3] at z
  . exact z
 have e2:=Qw (S.map (fr S1 l ts)) [] t.1;rw [Qx] at e2;have:=Qq (S.map (fr S1 l ts)) t.1 (fun u hu=>by obtain ⟨x,_,rfl⟩:=List.mem_map.mp hu;exact Int.le_refl 1) hk;unfold frZ at e;unfold nz;exact decide_eq_true (by omega)
theorem Oa:∀S:List (List Int),z9 (S.map TuI)=some (S.map kN)
 | []=>by simp only [List.map_nil,z9]
 | x::S=>by simp only [List.map_cons,z9,Oa S];rw [show nkD (TuI x)=some (kN x) from Fv x]
theorem y3y {S:List (List Int)} (nd:S.Nodup) (h:S.length<=63):dLS [.lst (S.map TuI)]=some (.int (S.length:Int)):=by
 have c1:(S.map kN).Nodup:=by unfold List.Nodup at *;rw [List.pairwise_map];exact nd.imp fun z e=>z (Bv e)
 have c2:(S.map kN).length<=64:=by rw [List.length_map];omega
 have c3:∀k∈S.map kN,k.dep<=8:=fun k hk=>by obtain ⟨x,_,rfl⟩:=List.mem_map.mp hk;exact Fu x
 have c4:(S.map TuI).all Bz=true:=by rw [List.all_eq_true];intro d hd;obtain ⟨x,_,rfl⟩:=List.mem_map.mp hd;rfl
 simp only [dLS,Oa];rw [if_pos ⟨c1,c2,c3,c4⟩,List.length_map]
theorem y23 (a0 a1 a2 a3 a5 a6 a7 a8 a11:Sl) (l4 s9 t10 c12:List D) (X:D) (l:List Tm) (h1:l.length<=1000) (k:List Int) (e1:Q1 [X,.lst c12,.lst t10]=.ok (.bl true)) (e2:P8 [X,.lst t10,.lst l4,.lst s9]=.ok (.tup (k.map D.int))) (s15:Sl) :
  Z2 [a0,a1,a2,a3,.im (.lst l4),a5,a6,a7,a8,.ow (.lst s9),.ow (.lst t10),a11,.ow (.lst c12),.ow (dnA l),.im X,s15] =
   .nx [a0,a1,a2,a3,.im (.lst l4),a5,a6,a7,a8,.ow (.lst s9),.ow (.lst t10),a11,.ow (.lst c12),.ow (dnA (p9 l k (k5 l k+1))),.im X,.im (.tup (k.map D.int))]:=by
 have g1:=Mo l k
 have g2:=Mm h1 k (k5 l k+1)
 have n1:j4 (k.map D.int)=true:=y8 D.int _ fun x _=>Ab x
 generalize hw:k5 l k=w at *
 generalize p9 l k (w+1)=l' at g2 ⊢
 unfold dnA at *
 generalize (l.map fun t=>kN t.1)=ks at *
 generalize (l.map fun t=>D.int t.2)=ds at *
 generalize (l'.map fun t=>kN t.1)=ks' at *
 generalize (l'.map fun t=>D.int t.2)=ds' at *
 generalize k.map D.int=es at *
 unfold Z2
 rw [i7 (ρ':=[a0,a1,a2,a3,.im (.lst l4),a5,a6,a7,a8,.ow (.lst s9),.ow (.lst t10),a11,.ow (.lst c12),.ow (.dn ks ds),.im X,s15]) (by walk_at "dz";rw [e1];walk_at "dz")]
 rw [i7 (ρ':=[a0,a1,a2,a3,.im (.lst l4),a5,a6,a7,a8,.ow (.lst s9),.ow (.lst t10),a11,.ow (.lst c12),.ow (.dn ks ds),.im X,.im (.tup es)]) (by walk_at "dz";rw [e2];walk_at "dz";rw [n1];walk_at "dz")]
 walk_at "dz"
 rw [Og rfl rfl rfl g1]
 walk_at "dz"
 rw [n1]
 walk_at "dz"
 rw [g2]
 walk_at "dz"
theorem y24 {x y:List Int} (h:lx x y):x≠y:=fun e=>by subst e;exact Bn _ _ h h
theorem jI (c a b:Int):dIn true (.int c) (.tup [.int a,.int b])=some (.bl (!decide (c=a\/c=b))):=by rw [show (D.tup [.int a,.int b])=TuI [a,b] from rfl,Ra];congr 3;simp
section
variable {row:List Int} {ls:List P2} {T:List P3} {v:Nat->Vc}
theorem Fx.cnt (F:Fx row ls T v) {a b:Nat} (hab:a<b) (hb:b<row.length):((Sh [(a:Int),(b:Int)] (so3 T)).length:Int)=dt (v a) (v b):=by have:=F.sc a b (by omega) hb;unfold cn mm at this;rw [if_neg (by omega),Nat.min_eq_left (by omega),Nat.max_eq_right (by omega)] at this;exact this
theorem Fx.few (F:Fx row ls T v) (h11:row.length<=11) {a b:Nat} (hab:a<b) (hb:b<row.length):(Sh [(a:Int),(b:Int)] (so3 T)).length<=63:=by have h1:=F.cnt hab hb;obtain ⟨k,hk,B⟩:=F.fb;have h2:=B.hA a b (by omega) hb;have h3:=y1s k (by omega);unfold mm at h2;rw [Nat.min_eq_left (by omega),Nat.max_eq_right (by omega)] at h2;omega
noncomputable abbrev gE:DS->SR:=
 (c8 (t8 false [false,false,false,false,false,false,false,false,false,false,false,true] (iL (a9 11)) (.n 14) Z2)
 (c8 (sIf (i6 asB (eOp dNe (eLS (b6 (a9 11) b8)) (eCB o8 (b6 (a9 11) b8))))
  (j5 [] (eC (.bl false)))
  sNx)
 (j5 [false,false,false,false,false,false,true,true,true,false,false,false,false,true,false,true] (eOp dEq (g9 M1 (b6 (a9 6) (b6 (k0 (b6 (a9 7) (b6 (a9 8) b8))) b8))) (eCB l6 (b6 (h7 (w8 (a9 13)) (bT 2) [] k6 L5) b8))))))
theorem y3z (F:Fx row ls T v) (h11:row.length<=11) {a b:Nat} (hab:a<b) (hb:b<row.length) (a0 a1 a2 a3 a5:Sl) :
  SR.out false (gE [a0,a1,a2,a3,.im (.lst ((so2 ls).map T2)),a5,.im (o7 row.length ls),.im (.int (a:Int)),.im (.int (b:Int)),.ow (.lst ((Ls row.length ls).map T2)),.ow (.lst ((so3 T).map T3)),.ow (.lst ((Sh [(a:Int),(b:Int)] (so3 T)).map TuI)),.ow (L (crn row.length (a:Int) (b:Int))),.ow (dnA []),.em,.em])=.ok (.bl true):=by
 have h3:=F.f.good.len
 have hl:=F.f.len
 have I:=F.f.inv
 have few:=F.few h11 hab hb
 have ef:=vh h3 I hl (by omega) (a:=(a:Int)) (b:=(b:Int)) (by omega) few
 rw [y22] at ef
 have hT:=I.tlen hl
 have l1:(Ls row.length ls).length<=30:=by rw [Ft];omega
 have nd:=Mj h3 I
 have nS:(Sh [(a:Int),(b:Int)] (so3 T)).Nodup:=(W0 (E:=[(a:Int),(b:Int)]) I.asc).imp fun h=>y24 h
 have tT:(so3 T).length<=20:=by rw [(t6 T).length_eq];omega
 have hin:∀t∈so3 T,∀c∈cor t,opp t c∈Ls row.length ls:=fun t ht c hc=>by
  obtain ⟨z1,z2,z3⟩:=Od h3 I ((t6 T).mem_iff.mp ht);unfold opp;split
  . exact z3
  . split
    . exact z2
    . exact z1
 have nl:(so2 ls).Nodup:=(u9 ls).nodup_iff.mpr I.nd
 have q1:∀x∈Sh [(a:Int),(b:Int)] (so3 T),Q1 [TuI x,L (crn row.length (a:Int) (b:Int)),.lst ((so3 T).map T3)]=.ok (.bl true):=fun x hx=>by have hA:=(mem_Sh.mp hx).1;exact yi (by omega) (ve I hl ⟨by omega,by omega⟩ ⟨by omega,by omega⟩ (by omega) hx) hA (by rw [hA.len];omega)
 have q2:∀x∈Sh [(a:Int),(b:Int)] (so3 T),P8 [TuI x,.lst ((so3 T).map T3),.lst ((so2 ls).map T2),.lst ((Ls row.length ls).map T2)]=.ok (.tup ((fr (Ls row.length ls) (so2 ls) (so3 T) x).1.map D.int)):=fun x hx=>
  jJ (by omega) nd nl (mem_Sh.mp hx).1 I.asc (by omega) hin
 have el:=y3y nS few
 unfold frZ at ef
 have hf:∀x,(fr (Ls row.length ls) (so2 ls) (so3 T) x).2=1:=fun _=>rfl
 generalize Sh [(a:Int),(b:Int)] (so3 T)=S at *
 generalize fr (Ls row.length ls) (so2 ls) (so3 T)=f at *
 generalize o7 row.length ls=cut at *
 obtain ⟨ρ',q,l',s14,s15,⟨h1,h2,_⟩,hr⟩:=O8 (tg:=.n 14) (g:=Z2) (en:=TuI)
  (fun r ρ=>∃(l':List Tm) (s14 s15:Sl),(y4 l' (r.map f)=y4 [] (S.map f)/\l'.length+r.length<=63/\∀x∈r,x∈S)/\ρ=[a0,a1,a2,a3,.im (.lst ((so2 ls).map T2)),a5,.im cut,.im (.int (a:Int)),.im (.int (b:Int)),.ow (.lst ((Ls row.length ls).map T2)),.ow (.lst ((so3 T).map T3)),.im (.lst (S.map TuI)),.ow (L (crn row.length (a:Int) (b:Int))),.ow (dnA l'),s14,s15])
  S [a0,a1,a2,a3,.im (.lst ((so2 ls).map T2)),a5,.im cut,.im (.int (a:Int)),.im (.int (b:Int)),.ow (.lst ((Ls row.length ls).map T2)),.ow (.lst ((so3 T).map T3)),.im (.lst (S.map TuI)),.ow (L (crn row.length (a:Int) (b:Int))),.ow (dnA []),.em,.em] ⟨[],.em,.em,⟨rfl,by simpa using few,fun x hx=>hx⟩,rfl⟩ (by
   rintro x r ρ ⟨l',s14,s15,⟨h1,h2,h3'⟩,rfl⟩;rw [List.length_cons] at h2;have hx:=h3' x List.mem_cons_self;have e:=y23 a0 a1 a2 a3 a5 (.im cut) (.im (.int (a:Int))) (.im (.int (b:Int))) (.im (.lst (S.map TuI))) _ _ _ _ (TuI x) l' (by omega) (f x).1 (q1 x hx) (q2 x hx) s15;refine ⟨_,_,rfl,Or.inl e,⟨_,_,_,⟨?_,?_,fun u hu=>h3' u (List.mem_cons_of_mem _ hu)⟩,rfl⟩⟩
   . rw [<-h1,List.map_cons,Ai,hf x]
   . have:=Qt l' (f x).1 (k5 l' (f x).1+1);omega)
 unfold gE
 rw [i7 (ρ':=ρ') (by rw [<-q];cases a0<;>cases a1<;>cases a2<;>cases a3<;>cases a5<;>rfl)]
 have e':l'=y4 [] (S.map f):=h1
 have ll:l'.length<64:=by rw [List.length_nil] at h2;omega
 rw [hr]
 rw [i7 (ρ':=[a0,a1,a2,a3,.im (.lst ((so2 ls).map T2)),a5,.im cut,.im (.int (a:Int)),.im (.int (b:Int)),.ow (.lst ((Ls row.length ls).map T2)),.ow (.lst ((so3 T).map T3)),.im (.lst (S.map TuI)),.ow (L (crn row.length (a:Int) (b:Int))),.ow (dnA l'),s14,s15]) (by rw [qa];rw [show i6 asB (eOp dNe (eLS (b6 (a9 11) b8)) (eCB o8 (b6 (a9 11) b8))) (see [a0,a1,a2,a3,.im (.lst ((so2 ls).map T2)),a5,.im cut,.im (.int (a:Int)),.im (.int (b:Int)),.ow (.lst ((Ls row.length ls).map T2)),.ow (.lst ((so3 T).map T3)),.im (.lst (S.map TuI)),.ow (L (crn row.length (a:Int) (b:Int))),.ow (dnA l'),s14,s15])=.ok false by show ((R.of (dLS [.lst (S.map TuI)])).bind fun x=>(R.of (o8 [.lst (S.map TuI)])).bind fun y=>R.of (dNe x y)).bind _=_;rw [el];simp only [o8,List.length_map,R.of_some,R.bind_ok,wR];simp [asB];rfl];rfl)]
 rw [Z0]
 have er:eCB l6 (b6 (h7 (w8 (a9 13)) (bT 2) [] k6 L5) b8) (vis [false,false,false,false,false,false,true,true,true,false,false,false,false,true,false,true] [a0,a1,a2,a3,.im (.lst ((so2 ls).map T2)),a5,.im cut,.im (.int (a:Int)),.im (.int (b:Int)),.ow (.lst ((Ls row.length ls).map T2)),.ow (.lst ((so3 T).map T3)),.im (.lst (S.map TuI)),.ow (L (crn row.length (a:Int) (b:Int))),.ow (dnA l'),s14,s15])=.ok (.lst ((soM l').map TM)):=by
  have hc:h7 (w8 (a9 13)) (bT 2) [] k6 L5 (vis [false,false,false,false,false,false,true,true,true,false,false,false,false,true,false,true] [a0,a1,a2,a3,.im (.lst ((so2 ls).map T2)),a5,.im cut,.im (.int (a:Int)),.im (.int (b:Int)),.ow (.lst ((Ls row.length ls).map T2)),.ow (.lst ((so3 T).map T3)),.im (.lst (S.map TuI)),.ow (L (crn row.length (a:Int) (b:Int))),.ow (dnA l'),s14,s15])=.ok (.lst (l'.map TM)):=by unfold h7;rw [Qu (l:=l') rfl,R.bind_ok,if_pos (by rw [List.length_map];omega)];show ((x9 (bT 2) k6 L5 [] (l'.map TM)).bind fun ys=>R.ok (D.lst ys))=_;rw [J4 (bn:=bT 2) (en:=TM) (bs:=fun t=>[.tup (t.1.map D.int),.int t.2]) (g:=TM) l' (fun x _=>rfl) (fun t _=>by unfold L5;walk_at "dz";rfl)];rfl
  unfold eCB b6;rw [hc,R.bind_ok];show R.of (l6 [_])=_;rw [Tr _ ll];rfl
 rw [show eOp dEq (g9 M1 (b6 (a9 6) (b6 (k0 (b6 (a9 7) (b6 (a9 8) b8))) b8))) (eCB l6 (b6 (h7 (w8 (a9 13)) (bT 2) [] k6 L5) b8)) (vis [false,false,false,false,false,false,true,true,true,false,false,false,false,true,false,true] [a0,a1,a2,a3,.im (.lst ((so2 ls).map T2)),a5,.im cut,.im (.int (a:Int)),.im (.int (b:Int)),.ow (.lst ((Ls row.length ls).map T2)),.ow (.lst ((so3 T).map T3)),.im (.lst (S.map TuI)),.ow (L (crn row.length (a:Int) (b:Int))),.ow (dnA l'),s14,s15])=.ok (.bl true) by show (M1 [cut,.tup [.int (a:Int),.int (b:Int)]]).bind (fun x=>(eCB l6 (b6 (h7 (w8 (a9 13)) (bT 2) [] k6 L5) b8) _).bind fun y=>R.of (dEq x y))=_;rw [ef,er,R.bind_ok,R.bind_ok,e',vk (y3x _) (Nat.le_trans (y1r _) (by decide))];rfl]
 rfl
end
theorem wU (ns:List Int) (hns:ns.length<=63):R5 [.scr ns]=.ok (.bl true):=by
 obtain ⟨cap,hcap,ec⟩:∃cap:Nat,cap<=8/\∀k:DS->SR,c8 (sIf (i6 asB (eOp dEq (eOp v4 (eOp N0 (a9 1) (eC (.int 3))) (eC (.int 9))) (eC (.int 1)))) (e8 false 2 [] (eC (.int 8))) sNx) k [.im (.scr ns),.im (.int (drw ns 0)),.im (.int 5),.em,.em,.em,.em,.em,.em,.em,.em,.em,.em,.em,.em,.em]=k [.im (.scr ns),.im (.int (drw ns 0)),.im (.int (cap:Int)),.em,.em,.em,.em,.em,.em,.em,.em,.em,.em,.em,.em,.em]:=by
  by_cases h:drw ns 0 / 3 % 9=1
  . refine ⟨8,by decide,fun k=>i7 ?_⟩;walk_at "dz";rw [Ev (by decide)];walk_at "dz";rw [G0 (by decide)];walk_at "dz";rw [decide_eq_true h];walk_at "dz";rfl
  . refine ⟨5,by decide,fun k=>i7 ?_⟩;walk_at "dz";rw [Ev (by decide)];walk_at "dz";rw [G0 (by decide)];walk_at "dz";rw [decide_eq_false h];walk_at "dz";rfl
 have hcl:(B2 ns (some 3) (some (3+(cap:Int)))).length<=8:=by unfold B2;rw [show HT.sIx ns.length ns.length (some (3+(cap:Int)))=min (3+cap) ns.length by unfold HT.sIx;simp only;rw [if_neg (by omega)];omega,show HT.sIx ns.length 0 (some 3)=min 3 ns.length by unfold HT.sIx;simp only;rw [if_neg (by omega)];omega];rw [List.length_take];omega
 obtain ⟨row,ls,T,v,X,h11,ef⟩:=vi (drw ns 0) (B2 ns (some 3) (some (3+(cap:Int)))) hcl;have h3:=X.f.good.len;have hl:=X.f.len;have I:=X.f.inv;have el:=jS row.length h3 (by omega) ls (by omega);have et:=wV h3 (by omega) I hl;have a0:0<=drw ns 1 % ((row.length:Int) - 1):=Int.emod_nonneg _ (by omega);have a1:drw ns 1 % ((row.length:Int) - 1)<(row.length:Int) - 1:=Int.emod_lt_of_pos _ (by omega);obtain ⟨a,ha⟩:∃a:Nat,drw ns 1 % ((row.length:Int) - 1)=(a:Int):=⟨_,(Int.toNat_of_nonneg a0).symm⟩;rw [ha] at a1;have b0:0<=drw ns 2 % ((row.length:Int) - 1 - (a:Int)):=Int.emod_nonneg _ (by omega);have b1:drw ns 2 % ((row.length:Int) - 1 - (a:Int))<(row.length:Int) - 1 - (a:Int):=Int.emod_lt_of_pos _ (by omega);obtain ⟨b,hb⟩:∃b:Nat,(a:Int)+1+drw ns 2 % ((row.length:Int) - 1 - (a:Int))=(b:Int):=⟨((a:Int)+1+drw ns 2 % ((row.length:Int) - 1 - (a:Int))).toNat,(Int.toNat_of_nonneg (by omega)).symm⟩;have hab:a<b:=by omega
 have hbn:b<row.length:=by omega
 have es:J7 [o7 row.length ls,.int (a:Int),.int (b:Int)]=_:=Wd I (by omega) (by omega) (a:Int) (b:Int) (by omega) (by omega);rw [show shr (a:Int) (b:Int) (so3 T)=Sh [(a:Int),(b:Int)] (so3 T) by unfold shr;rw [if_neg (by omega)]] at es;have en:=wX X.f.good (by omega) a b hab hbn;rw [<-X.cnt hab hbn] at en;have gE:=fun (a0 a1 a2 a3 a5:Sl)=>y3z X h11 hab hbn a0 a1 a2 a3 a5
 unfold R5;rw [G6,if_pos (show [D.scr ns].length=1 from rfl)];show SR.out false (Em [.im (.scr ns),.em,.em,.em,.em,.em,.em,.em,.em,.em,.em,.em,.em,.em,.em,.em])=_;unfold Em;rw [i7 (ρ':=[.im (.scr ns),.im (.int (drw ns 0)),.em,.em,.em,.em,.em,.em,.em,.em,.em,.em,.em,.em,.em,.em]) (by walk_at "dz";rw [Ha];walk_at "dz")];rw [i7 (ρ':=[.im (.scr ns),.im (.int (drw ns 0)),.im (.int 5),.em,.em,.em,.em,.em,.em,.em,.em,.em,.em,.em,.em,.em]) (by walk_at "dz")];rw [ec];have kf:j4 ((so2 ls).map T2)=true:=y8 _ _ fun x _=>Y9 x
 rw [i7 (ρ':=[.im (.scr ns),.im (.int (drw ns 0)),.im (.int (cap:Int)),.im (L row),.im (.lst ((so2 ls).map T2)),.em,.em,.em,.em,.em,.em,.em,.em,.em,.em,.em]) (by walk_at "dz";rw [ef];simp only [J1];rw [show keeps false (D.tup [L row,.lst ((so2 ls).map T2)])=false by rw [Wc,Si];simp only [L,Uw,Bool.false_and]];walk_at "dz")];rw [i7 (ρ':=[.im (.scr ns),.im (.int (drw ns 0)),.im (.int (cap:Int)),.im (L row),.im (.lst ((so2 ls).map T2)),.im (.int (row.length:Int)),.em,.em,.em,.em,.em,.em,.em,.em,.em,.em]) (by generalize (so2 ls).map T2=l';walk_at "dz")];rw [i7 (ρ':=[.im (.scr ns),.im (.int (drw ns 0)),.im (.int (cap:Int)),.im (L row),.im (.lst ((so2 ls).map T2)),.im (.int (row.length:Int)),.im (o7 row.length ls),.em,.em,.em,.em,.em,.em,.em,.em,.em]) (by unfold o7;generalize (so2 ls).map T2=l' at *;walk_at "dz";rw [kf];walk_at "dz")];generalize o7 row.length ls=cut at *;generalize hL:(so2 ls).map T2=l' at *;rw [i7 (ρ':=[.im (.scr ns),.im (.int (drw ns 0)),.im (.int (cap:Int)),.im (L row),.im (.lst l'),.im (.int (row.length:Int)),.im cut,.im (.int (a:Int)),.em,.em,.em,.em,.em,.em,.em,.em]) (by walk_at "dz";rw [Ha];walk_at "dz";rw [G0 (by omega),ha];walk_at "dz")];rw [i7 (ρ':=[.im (.scr ns),.im (.int (drw ns 0)),.im (.int (cap:Int)),.im (L row),.im (.lst l'),.im (.int (row.length:Int)),.im cut,.im (.int (a:Int)),.im (.int (b:Int)),.em,.em,.em,.em,.em,.em,.em]) (by walk_at "dz";rw [Ha];walk_at "dz";rw [G0 (by omega)];walk_at "dz";rw [hb])];have kL:j4 ((Ls row.length ls).map T2)=true:=y8 _ _ fun x _=>Y9 x
 have kT:j4 ((so3 T).map T3)=true:=y8 _ _ fun x _=>wN x
 have kS:j4 ((Sh [(a:Int),(b:Int)] (so3 T)).map TuI)=true:=y8 _ _ fun x _=>Qy x
 have lenS:((Sh [(a:Int),(b:Int)] (so3 T)).map TuI).length=(Sh [(a:Int),(b:Int)] (so3 T)).length:=List.length_map _;generalize (Ls row.length ls).map T2=S9 at *;generalize (so3 T).map T3=T10 at *;generalize (Sh [(a:Int),(b:Int)] (so3 T)).map TuI=S11 at *;rw [i7 (ρ':=[.im (.scr ns),.im (.int (drw ns 0)),.im (.int (cap:Int)),.im (L row),.im (.lst l'),.im (.int (row.length:Int)),.im cut,.im (.int (a:Int)),.im (.int (b:Int)),.ow (.lst S9),.em,.em,.em,.em,.em,.em]) (by walk_at "dz";rw [el];walk_at "dz";rw [kL];walk_at "dz")];rw [i7 (ρ':=[.im (.scr ns),.im (.int (drw ns 0)),.im (.int (cap:Int)),.im (L row),.im (.lst l'),.im (.int (row.length:Int)),.im cut,.im (.int (a:Int)),.im (.int (b:Int)),.ow (.lst S9),.ow (.lst T10),.em,.em,.em,.em,.em]) (by walk_at "dz";rw [et];walk_at "dz";rw [kT];walk_at "dz")];rw [i7 (ρ':=[.im (.scr ns),.im (.int (drw ns 0)),.im (.int (cap:Int)),.im (L row),.im (.lst l'),.im (.int (row.length:Int)),.im cut,.im (.int (a:Int)),.im (.int (b:Int)),.ow (.lst S9),.ow (.lst T10),.ow (.lst S11),.em,.em,.em,.em]) (by walk_at "dz";rw [es];walk_at "dz";rw [kS];walk_at "dz")];rw [i7 (ρ':=[.im (.scr ns),.im (.int (drw ns 0)),.im (.int (cap:Int)),.im (L row),.im (.lst l'),.im (.int (row.length:Int)),.im cut,.im (.int (a:Int)),.im (.int (b:Int)),.ow (.lst S9),.ow (.lst T10),.ow (.lst S11),.em,.em,.em,.em]) (by walk_at "dz";rw [lenS,en];walk_at "dz";try rw [if_neg (by simp)])];rw [i7 (ρ':=[.im (.scr ns),.im (.int (drw ns 0)),.im (.int (cap:Int)),.im (L row),.im (.lst l'),.im (.int (row.length:Int)),.im cut,.im (.int (a:Int)),.im (.int (b:Int)),.ow (.lst S9),.ow (.lst T10),.ow (.lst S11),.ow (L (crn row.length (a:Int) (b:Int))),.em,.em,.em]) (by
  walk_at "dz";rw [Eu (row.length:Int) (by omega) (by walk_at "dz")];walk_at "dz";rw [Int.toNat_natCast,Lz,if_pos (by simp;omega)];rw [show ((List.range row.length).map fun (k:Nat)=>D.int (k:Int))=((List.range row.length).map fun (k:Nat)=>(k:Int)).map D.int by rw [List.map_map];rfl];rw [P0 (en:=D.int) (bs:=fun x=>[D.int x]) (p:=fun c=>!decide (c=(a:Int)\/c=(b:Int))) (g:=fun c=>D.int c) ((List.range row.length).map fun (k:Nat)=>(k:Int)) (fun x _=>rfl) (fun c _=>by
   unfold Rf;walk_at "dz";rw [jI];walk_at "dz") (fun c _ _=>by
   unfold Re;walk_at "dz")]
  rw [R.bind_ok,show (D.lst (List.map (fun c=>D.int c) (((List.range row.length).map fun (k:Nat)=>(k:Int)).filter fun c=>!decide (c=(a:Int)\/c=(b:Int)))))=L (crn row.length (a:Int) (b:Int)) from rfl];generalize crn row.length (a:Int) (b:Int)=C;walk_at "dz")]
 rw [i7 (ρ':=[.im (.scr ns),.im (.int (drw ns 0)),.im (.int (cap:Int)),.im (L row),.im (.lst l'),.im (.int (row.length:Int)),.im cut,.im (.int (a:Int)),.im (.int (b:Int)),.ow (.lst S9),.ow (.lst T10),.ow (.lst S11),.ow (L (crn row.length (a:Int) (b:Int))),.ow (dnA []),.em,.em]) (by generalize crn row.length (a:Int) (b:Int)=C;walk_at "dz";simp only [W3];walk_at "dz";rw [show keeps true (D.dn [] [])=true from rfl];walk_at "dz";rfl)];exact gE _ _ _ _ _
end K66
namespace K66
open PySem PySem.Spec PyProof.Rows L2
theorem walk {l:PySem.W.OpenLaw} {q:Program} {loose:List Str} {XP:(Str->Option Value)->Heap->Prop} {YP:World->Heap->Prop} {d:DefRec} {K:Params->Frag} (hn:l.most=some 63) (hdf:d.params.defaults=[])
  (hY:∀(w:World) (h:Heap),YP w h->(K w.params).In h)
  (F:∀(w:World) (mg:Str->Option Value) (fa:Addr) (h:Heap),(K w.params).In h->h.Ns mainGlobals mg->mg d.name=some (.ref fa) ->
   ∃fd:FuncData,(∀(s:Shared) (u:Value),BindsTo s fd ⟨[u],[]⟩ [("_law_script",u)])/\∀base:Heap,(K w.params).In base->base.Ns mainGlobals mg->FnOk l.prog w (K w.params) mg base (CX1 l.prog w) 7 fa fd ["_law_script"] (spL (K w.params) false R5 1)) :
  PySem.W.WalkO q loose XP YP l.row.toRowW d [] (fun f vs=>PySem.call f vs):=
 L2.walk_of (n:=63) (k:=7) (x:="_law_script") (CX:=fun w=>CX1 l.prog w) (sp:=fun w=>(spL (K w.params) false R5 1)) hn (by decide) hdf ⟨rfl,by decide,by decide⟩ hY F (fun _ _ a ns hl hO hS=>qh hO hS (wU ns hl)) fun _ _ _ _ _ ⟨_,_,_,_,_,_,z⟩=>z
end K66
open PySem PySem.W PyProof.Rows
set_option maxRecDepth 100000 in
set_option maxHeartbeats 0 in
theorem PySem.Challenge.cw_friezeyard_k66_fractions_by_sharings_holds : PySem.Challenge.rw_friezeyard_k66_fractions_by_sharings.Holds := by
 w_on;o_law
 refine holds_open (q:=K66.q) (loose:=[]) (Xt:=K66.xtH) (XP:=XL K66.q []) (Yf:=K66.hook.obs) (Ya:=K66.hook.val)
  (YP:=K66.hook.says) (N:=3360) K66.left K66.hook.of K66.hook.keeps
  (fun s e=>xl_of s (Bool.and_eq_true_iff.mp e).1) XL.keeps (by rfl) (by rfl) (by rfl)
  (fun s e=>recFacts_of (Bool.and_eq_true_iff.mp e).2) (by rfl) (by assumption) (by decide +kernel)
  ⟨rfl,rfl,rfl,rfl,rfl,by decide +kernel⟩ ?hw ?hc
 (case hw=>w_witness2)
 refine K66.walk (l:=PySem.Challenge.rw_friezeyard_k66_fractions_by_sharings) (K:=K66.K) rfl rfl (fun w h Y=>Y) ?F
 case F=>
  intro w mg fa h KX G hmg
  k_fill
  refine' K66.all_mk KX G hmg ?A0 ?A1 ?A2 ?A3 ?A4 ?A5 ?A6 ?A7 ?A8 ?A9 ?A10 ?A11 ?A12 ?A13 ?A14 ?A15 ?A16 ?A17 ?A18 ?A19 ?A20 ?A21 ?A22 ?A23 ?A24 ?T
  (case A0=>apply L2.fat;k_is;k_is;k_is;k_is)
  (case A1=>apply L2.fat;k_is;k_is;k_is;k_is)
  (case A2=>apply L2.fat;k_is;k_is;k_is;k_is)
  (case A3=>apply L2.fat;k_is;k_is;k_is;k_is)
  (case A4=>apply L2.fat;k_is;k_is;k_is;k_is)
  (case A5=>apply L2.fat;k_is;k_is;k_is;k_is)
  (case A6=>apply L2.fat;k_is;k_is;k_is;k_is)
  (case A7=>apply L2.fat;k_is;k_is;k_is;k_is)
  (case A8=>apply L2.fat;k_is;k_is;k_is;k_is)
  (case A9=>apply L2.fat;k_is;k_is;k_is;k_is)
  (case A10=>apply L2.fat;k_is;k_is;k_is;k_is)
  (case A11=>apply L2.fat;k_is;k_is;k_is;k_is)
  (case A12=>apply L2.fat;k_is;k_is;k_is;k_is)
  (case A13=>apply L2.fat;k_is;k_is;k_is;k_is)
  (case A14=>apply L2.fat;k_is;k_is;k_is;k_is)
  (case A15=>apply L2.fat;k_is;k_is;k_is;k_is)
  (case A16=>apply L2.fat;k_is;k_is;k_is;k_is)
  (case A17=>apply L2.fat;k_is;k_is;k_is;k_is)
  (case A18=>apply L2.fat;k_is;k_is;k_is;k_is)
  (case A19=>apply L2.fat;k_is;k_is;k_is;k_is)
  (case A20=>apply L2.fat;k_is;k_is;k_is;k_is)
  (case A21=>apply L2.fat;k_is;k_is;k_is;k_is)
  (case A22=>apply L2.fat;k_is;k_is;k_is;k_is)
  (case A23=>apply L2.fat;k_is;k_is;k_is;k_is)
  (case A24=>apply L2.fat;k_is;k_is;k_is;k_is)
  (case T=>constructor<;>exact mg_none_of KX G (by k_is))
