import PyProof.Rows.All
import Wide.All
import OpenK.AllK
import Wide.FinOn
import Lean
import PyProof.EqAt
import PyProof.EqKinds
import PyProof.TupleCall
import KE.KIsAll
import KE.RegKIsAll
import PyProof.ExcArgsOwn
import PyProof.InstStoreFacts
import PyProof.Rows.MinMaxN
import PyProof.Rows.CallKwBuiltin
import KE.KMinKey
import KE.KDictOf
import PyProof.AttrMissSeq
import KE.KEqDict
import KE.KSortAsk
import PySem.Challenge.RW_friezeyard_k13_cuttings_refused
set_option compiler.extract_closed false
noncomputable section
open PySem.W (Frag Looks codeIn funFrames_hide hideAll hideAll_get hideAll_none keepIn kia_one kitOne looks_findIn looks_mroIn mroIn nsIn of_hideAll typeIn)
set_option Elab.async false
set_option linter.all false
set_option maxRecDepth 100000
def ψ:=@if_neg
def ξ:=@if_pos
def ζ:=@Nat.le_refl
def η:=@Bool.false_ne_true
def θ:=@List.length_append
def χ:=@Nat.lt_irrefl
namespace L2
open PySem PySem.Spec PyProof.Rows
def δ:=@wpAny_bind
def γ:=@wpS_bind
def ω:=@wpAny_pure
def τ:=@Heap.get?_push_of_some
def π:=@Heap.lt_size
def Ψ:=@Heap.get?_push_size
abbrev Key:=Sum Int Str
noncomputable def T1:Key->Value->Bool
 | .inl k,v=>Value.isInt k v
 | .inr x,v=>Value.isStrOf x v
noncomputable def y2r (w:World):Key->Int
 | .inl k=>hashInt k
 | .inr x=>hashStr w x
theorem L0:∀{k:Key} {v:Value},T1 k v=true->(∃i t,k=Sum.inl i/\v=Value.int i t)\/(∃x t,k=Sum.inr x/\v=Value.str x t)
 | .inl i,v,h=>by obtain ⟨t,e⟩:=Value.isInt_shape (k:=i) (v:=v) h;exact .inl ⟨i,t,rfl,e⟩
 | .inr x,v,h=>by obtain ⟨t,e⟩:=Value.isStrOf_shape (x:=x) (v:=v) h;exact .inr ⟨x,t,rfl,e⟩
theorem yA (i:Int) (t:Tok):T1 (.inl i) (.int i t)=true:=by simp [T1,Value.isInt]
theorem yz (x:Str) (t:Tok):T1 (.inr x) (.str x t)=true:=by simp [T1,Value.isStrOf]
theorem qf (a b:Int):decide ((Sum.inl a:Key)=Sum.inl b)=(a==b):=by
 by_cases e:a=b
 . subst e;simp
 . have h:¬(Sum.inl a:Key)=Sum.inl b:=fun q=>e (Sum.inl.inj q)
   rw [decide_eq_false h];exact (beq_eq_false_iff_ne.mpr e).symm
theorem qe (a b:Str):decide ((Sum.inr a:Key)=Sum.inr b)=decide (a=b):=by
 by_cases e:a=b
 . subst e;simp
 . have h:¬(Sum.inr a:Key)=Sum.inr b:=fun q=>e (Sum.inr.inj q)
   rw [decide_eq_false h,decide_eq_false e]
theorem qc (a:Int) (b:Str):decide ((Sum.inl a:Key)=Sum.inr b)=false:=decide_eq_false (fun q=>nomatch q)
theorem qb (a:Str) (b:Int):decide ((Sum.inr a:Key)=Sum.inl b)=false:=decide_eq_false (fun q=>nomatch q)
def E0 (prog:Program) (w:World):PySem.KeyKind prog w Key where
 is:=T1
 hash:=y2r w
 inj:=fun v a b ha hb=>by
  rcases L0 ha with ⟨i,t,rfl,rfl⟩ | ⟨x,t,rfl,rfl⟩
  . rcases L0 hb with ⟨j,u,rfl,e⟩ | ⟨y,u,rfl,e⟩
    . injection e with e1 _;rw [e1]
    . exact nomatch e
  . rcases L0 hb with ⟨j,u,rfl,e⟩ | ⟨y,u,rfl,e⟩
    . exact nomatch e
    . injection e with e1 _;rw [e1]
 byValue:=fun k v h=>by rcases L0 h with ⟨i,t,rfl,rfl⟩ | ⟨x,t,rfl,rfl⟩<;>rfl
 pyHash:=fun hv h=>by
  rcases L0 hv with ⟨i,t,rfl,rfl⟩ | ⟨x,t,rfl,rfl⟩
  . exact wpAny_pyHash_int h
  . exact wpAny_pyHash_str h
 eqBool:=fun hu hv h=>by
  rcases L0 hu with ⟨i,t,rfl,rfl⟩ | ⟨x,t,rfl,rfl⟩
  . rcases L0 hv with ⟨j,u,rfl,rfl⟩ | ⟨y,u,rfl,rfl⟩
    . rw [qf] at h;exact wpAny_eqBool_int h
    . rw [qc] at h;exact SeqAt.EqAt.int_str i t y u _ _ _ _ h
  . rcases L0 hv with ⟨j,u,rfl,rfl⟩ | ⟨y,u,rfl,rfl⟩
    . rw [qb] at h;exact SeqAt.EqAt.str_int x t j u _ _ _ _ h
    . rw [qe] at h;exact wpAny_eqBool_str h
 «strs»:=fun k x t v h=>by
  rcases L0 h with ⟨i,u,rfl,e⟩ | ⟨y,u,rfl,e⟩
  . exact nomatch e
  . injection e with e1 _;subst e1;cases v<;>rfl
theorem zp (prog:Program) (w:World) (i:Int) (t:Tok):(E0 prog w).is (.inl i) (.int i t)=true:=yA i t
theorem zo (prog:Program) (w:World) (x:Str) (t:Tok):(E0 prog w).is (.inr x) (.str x t)=true:=yz x t
inductive V where
 | non | bl (b:Bool) | int (i:Int) | str (x:Str) | byt (b:Array UInt8) | flt (b:UInt64) | ref (a:Addr) | ty (n:String)
 deriving DecidableEq
def RelV:V->Value->Prop
 | .non,u=>u=Value.none
 | .bl b,u=>u=Value.bool b
 | .int i,u=>∃t,u=Value.int i t
 | .str x,u=>∃t,u=Value.str x t
 | .byt b,u=>∃t,u=Value.bytes b t
 | .flt b,u=>∃t,u=Value.float b t
 | .ref a,u=>u=Value.ref a
 | .ty n,u=>u=Value.type n
abbrev Vals:List V->List Value->Prop:=Paired RelV
theorem Vals.length (r:Vals xs us):xs.length=us.length:=Paired.length r
theorem Vals.get:∀{xs:List V} {us:List Value} {i:Nat} {x:V},Vals xs us->xs[i]?=some x->∃u,us[i]?=some u/\RelV x u
 | _,_,_,_,.nil,e=>by simp at e
 | _,_,0,_,.cons r _,e=>by simp at e;subst e;exact ⟨_,rfl,r⟩
 | _,_,i+1,x,.cons _ t,e=>by obtain ⟨u,h1,h2⟩:=Vals.get (i:=i) (x:=x) t (by simpa using e);exact ⟨u,by simpa using h1,h2⟩
theorem Vals.set (r:RelV x u):∀{xs:List V} {us:List Value} (i:Nat),Vals xs us->Vals (xs.set i x) (us.set i u)
 | _,_,_,.nil=>.nil
 | _,_,0,.cons _ t=>.cons r t
 | _,_,i+1,.cons q t=>.cons q (Vals.set r i t)
theorem Vals.append:∀{xs ys:List V} {us ws:List Value},Vals xs us->Vals ys ws->Vals (xs++ys) (us++ws)
 | _,_,_,_,.nil,s=>s
 | _,_,_,_,.cons r t,s=>.cons r (Vals.append t s)
theorem Vals.take:∀{xs:List V} {us:List Value} (n:Nat),Vals xs us->Vals (xs.take n) (us.take n)
 | _,_,0,_=>.nil
 | _,_,_+1,.nil=>.nil
 | _,_,n+1,.cons r t=>.cons r (Vals.take n t)
theorem Vals.drop:∀{xs:List V} {us:List Value} (n:Nat),Vals xs us->Vals (xs.drop n) (us.drop n)
 | _,_,0,r=>r
 | _,_,_+1,.nil=>.nil
 | _,_,n+1,.cons _ t=>Vals.drop n t
def RelO:Option V->Option Value->Prop
 | some v,some u=>RelV v u
 | none,none=>True
 | _,_=>False
def KV {κ:Type}:List (κ×V)->List (κ×Value)->Prop:=Paired fun (p:κ×V) (q:κ×Value)=>p.1=q.1/\RelV p.2 q.2
noncomputable def kV:Key->V
 | .inl i=>.int i
 | .inr x=>.str x
def IsTp (h:Heap) (a:Addr) (its:Array Value):Prop:=∃o,h.get? a=some o/\o.cls=.type "tuple"/\(∃n,o.data=.seq its n)/\o.dict=none
theorem IsTp.tup (p:IsTp h a its):IsTup h a its:=by obtain ⟨o,e,c,d,_⟩:=p;exact ⟨o,e,c,d⟩
theorem IsTp.lt (p:IsTp h a its):a<h.objs.size:=by obtain ⟨o,e,_⟩:=p;exact π e
theorem IsTp.mk' (e:h.get? a=some { cls:=.type "tuple",data:=.seq its n,slots:=sl }):IsTp h a its:=⟨_,e,rfl,⟨n,rfl⟩,rfl⟩
inductive HO where
 /-- a list -/
 | lst (xs:List V)
 /-- a tuple (never changes) -/
 | tup (xs:List V)
 /-- a dict whose keys are ints and texts;one whose keys are tuples of ints and texts (the empty one is both) -/
 | dK (kvs:List (Key×V)) | dT (kvs:List (List Key×V))
 /-- a set of ints: its members,its size -/
 | set (S:Int->Bool) (n:Nat)
 /-- an instance of the class at C,its dict at dx,its attributes -/
 | ins (C dx:Addr) (fs:List (Str×V))
 /-- the dict of the instance at x -/
 | own (x:Addr)
 /-- the dict of an exception -/
 | xd (fs:List (Str×V))
 /-- a bound method,f of x -/
 | met (f x:Addr)
 /-- a range object lo,lo+1,.. below hi -/
 | rng (lo hi:Int)
 /-- a thing that is known to the object (the script;a dict while a loop walks it): read,never written while it is so -/
 | frz (o:Obj) (u:HO)
 /-- a code object's table -/
 | tbl (ps:Array Value)
 /-- the table of a def that makes lambdas,all of the qualname q -/
 | ctb (q:Str)
 /-- any other thing,by what is true of its one object (a def of one's own: SetO a S n:=HO.ext fun h=>..) -/
 | ext (φ:Heap->Prop)
abbrev Hp:=Addr->Option HO
noncomputable def upd (H:Hp) (a:Addr) (o:HO):Hp:=fun b=>if b=a then some o else H b
theorem i8:upd H a o a=some o:=by unfold upd;rw [ξ rfl]
theorem b8 (h:b≠a):upd H a o b=H b:=by unfold upd;rw [ψ h]
theorem w4 {H:Hp} {a b:Addr} {o:HO} (h:H a=some o) (h':H b=none):a≠b:=by intro e;subst e;rw [h] at h';cases h'
section
variable (P:Program) (w:World)
def ObjOk (H:Hp) (h:Heap) (a:Addr):HO->Prop
 | .lst xs=>xs.length<=sizeLine/\∃(its:List Value) (n:Nat),Vals xs its/\h.get? a=some { cls:=.type "list",data:=.seq its.toArray n }
 | .tup xs=>xs.length<=sizeLine/\∃its:List Value,Vals xs its/\IsTp h a its.toArray
 | .dK kvs=>kvs.length<=sizeLine/\(a==sysModules)=false/\∃vs,KV kvs vs/\h.DictOf (E0 P w) a vs
 | .dT kvs=>kvs.length<=sizeLine/\(a==sysModules)=false/\∃xs:List (List Key×Addr×Value),
  Paired (fun (p:List Key×V) (q:List Key×Addr×Value)=>p.1=q.1/\H q.2.1=some (.tup (p.1.map kV))/\RelV p.2 q.2.2) kvs xs /\
  ∃o es ep,h.get? a=some o/\o.ExactDict/\o.data=.dict es ep/\es.toList=xs.map (entryOfKey (tupleKind (E0 P w)))/\(xs.map (·.1)).Nodup
 | .set S n=>h.SetOf (intKind P w) a S n
 | .ins C dx fs=>H dx=some (.own a)/\fs.length<=1000/\dx≠a/\h.get? a=some (PySem.W.instObj C dx) /\
  ∃mA,h.Ns1 dx mA/\(∀f,RelO (fs.lookup f) (mA f))/\PySem.Within mA (fs.map (·.1))
 | .own _=>∃o,h.get? a=some o
 | .xd fs=>∃mA,h.Ns1 a mA/\∀f,RelO (fs.lookup f) (mA f)
 | .rng lo hi=>∃t u v,h.get? a=some { cls:=.type "range",data:=.fields #[.int lo t,.int hi u,.int 1 v] }
 | .frz o u=>h.get? a=some o/\ObjOk H h a u
 | .tbl ps=>h.get? a=some { cls:=.none,data:=.fields ps }
 | .ctb q=>∃ps:Array Value,h.get? a=some { cls:=.none,data:=.fields ps }/\TriplesOk ps.toList/\∀(pos:Pos) (v:Value),codeAmong pos ps.toList=some v->∃c,v=.ref c/\H c=some (.own a)/\h.CodeRec (.ref c) q
 | .met f x=>h.get? a=some (PySem.W.methodObj (.ref f) (.ref x))
 | .ext φ=>φ h/\(∃o,h.get? a=some o)/\∀h1 h2:Heap,φ h1->(∀o,h1.get? a=some o->h2.get? a=some o)->φ h2
def HOk (H:Hp) (h:Heap):Prop:=∀a o,H a=some o->ObjOk P w H h a o
end
section
variable {P:Program} {w:World} {H H':Hp} {h h':Heap} {a:Addr} {o:HO}
theorem ObjOk.lt (x:ObjOk P w H h a o):a<h.objs.size:=by
 cases o with
 | lst xs=>obtain ⟨_,_,_,_,e⟩:=x;exact π e
 | tup xs=>obtain ⟨_,_,_,p⟩:=x;exact p.lt
 | dK kvs=>obtain ⟨_,_,_,_,o,_,_,e,_⟩:=x;exact π e
 | dT kvs=>obtain ⟨_,_,_,_,o,_,_,e,_⟩:=x;exact π e
 | set S n=>obtain ⟨o,_,_,_,e,_⟩:=x;exact π e
 | ins C dx fs=>obtain ⟨_,_,_,e,_⟩:=x;exact π e
 | own y=>obtain ⟨_,e⟩:=x;exact π e
 | xd fs=>obtain ⟨_,⟨_,_,_,e,_⟩,_⟩:=x;exact π e
 | rng lo hi=>obtain ⟨_,_,_,e⟩:=x;exact π e
 | frz ob u=>obtain ⟨e,_⟩:=x;exact π e
 | tbl ps=>exact π (show h.get? a=some _ from x)
 | ctb q=>obtain ⟨_,e,_⟩:=x;exact π e
 | met f y=>exact π (show h.get? a=some _ from x)
 | ext φ=>obtain ⟨_,⟨_,e⟩,_⟩:=x;exact π e
theorem Paired.mapP:∀{l₁:List α} {l₂:List β},Paired F l₁ l₂->(∀a b,F a b->G a b)->Paired G l₁ l₂
 | _,_,.nil,_=>.nil
 | _,_,.cons r t,f=>.cons (f _ _ r) (Paired.mapP t f)
theorem ObjOk.stay (x:ObjOk P w H h a o) (k:∀b u,(b=a\/H b=some (.own a))->h.get? b=some u->h'.get? b=some u)
  (ho:∀b,H b=some (.own a)->H' b=some (.own a)) (ht:∀b xs,H b=some (.tup xs)->H' b=some (.tup xs)):ObjOk P w H' h' a o:=by
 induction o with
 | lst xs=>obtain ⟨z,its,n,r,e⟩:=x;exact ⟨z,its,n,r,k _ _ (.inl rfl) e⟩
 | tup xs=>obtain ⟨z,its,r,ob,e,c⟩:=x;exact ⟨z,its,r,ob,k _ _ (.inl rfl) e,c⟩
 | dK kvs=>obtain ⟨z,y,vs,r,ob,es,ep,e,c⟩:=x;exact ⟨z,y,vs,r,ob,es,ep,k _ _ (.inl rfl) e,c⟩
 | dT kvs=>
  obtain ⟨z,y,xs,r,ob,es,ep,e,c⟩:=x
  exact ⟨z,y,xs,Paired.mapP r fun p q z=>⟨z.1,ht _ _ z.2.1,z.2.2⟩,ob,es,ep,k _ _ (.inl rfl) e,c⟩
 | set S n=>obtain ⟨ob,es,ep,t,e,c⟩:=x;exact ⟨ob,es,ep,t,k _ _ (.inl rfl) e,c⟩
 | ins C dx fs=>
  obtain ⟨d,z,ne,e,mA,⟨od,es,ep,e2,c⟩,r⟩:=x
  exact ⟨ho _ d,z,ne,k _ _ (.inl rfl) e,mA,⟨od,es,ep,k _ _ (.inr d) e2,c⟩,r⟩
 | own y=>obtain ⟨ob,e⟩:=x;exact ⟨ob,k _ _ (.inl rfl) e⟩
 | xd fs=>obtain ⟨mA,⟨od,es,ep,e,c⟩,r⟩:=x;exact ⟨mA,⟨od,es,ep,k _ _ (.inl rfl) e,c⟩,r⟩
 | rng lo hi=>obtain ⟨t,u,v,e⟩:=x;exact ⟨t,u,v,k _ _ (.inl rfl) e⟩
 | frz ob u ih=>obtain ⟨e,q⟩:=x;exact ⟨k _ _ (.inl rfl) e,ih q⟩
 | tbl ps=>
  have e:h.get? a=some { cls:=.none,data:=.fields ps }:=x
  show h'.get? a=some { cls:=.none,data:=.fields ps }
  exact k a _ (.inl rfl) e
 | ctb q=>
  obtain ⟨ps,e,t,c⟩:=x
  refine ⟨ps,k _ _ (.inl rfl) e,t,fun pos v hb=>?_⟩
  obtain ⟨b,rfl,z,c2,oc,vs,tq,e1,e2,e3⟩:=c pos v hb
  cases e1
  exact ⟨b,rfl,ho _ z,b,oc,vs,tq,rfl,k _ _ (.inr z) e2,e3⟩
 | met f y=>
  have e:h.get? a=some (PySem.W.methodObj (.ref f) (.ref y)):=x
  show h'.get? a=some (PySem.W.methodObj (.ref f) (.ref y))
  exact k a _ (.inl rfl) e
 | ext φ=>obtain ⟨p,⟨o,e⟩,st⟩:=x;exact ⟨st _ _ p fun o q=>k _ _ (.inl rfl) q,⟨o,k _ _ (.inl rfl) e⟩,st⟩
theorem HOk.lt (x:HOk P w H h) (e:H a=some o):a<h.objs.size:=(x a o e).lt
theorem HOk.fresh (x:HOk P w H h) (e:h.objs.size<=a):H a=none:=by
 cases q:H a with
 | none=>rfl
 | some u=>exact absurd (Nat.lt_of_lt_of_le (x.lt q) e) (χ _)
theorem HOk.kept (x:HOk P w H h) (k:∀b u,h.get? b=some u->h'.get? b=some u):HOk P w H h':=fun a o e=>
 (x a o e).stay (fun b u _ q=>k b u q) (fun _ q=>q) fun _ _ q=>q
theorem HOk.laid (x:HOk P w H h) (k:∀b u,h.get? b=some u->h'.get? b=some u) (hp:h.objs.size<=a) (new:ObjOk P w (upd H a o) h' a o):HOk P w (upd H a o) h':=fun b u e=>by
 have hn:=x.fresh hp;by_cases hb:b=a
 . subst hb;rw [i8] at e;cases e;exact new
 . rw [b8 hb] at e;exact (x b u e).stay (fun c v _ q=>k c v q) (fun c q=>by rw [b8 (w4 q hn)];exact q) fun c xs q=>by rw [b8 (w4 q hn)];exact q
end
def Rd (H:Hp) (a:Addr) (u:HO):Prop:=H a=some u\/∃o,H a=some (.frz o u)
theorem Rd.of (h:H a=some u):Rd H a u:=.inl h
theorem Rd.ok (r:Rd H a u) (x:HOk P w H h):ObjOk P w H h a u:=by
 rcases r with r | ⟨o,r⟩
 . exact x a u r
 . obtain ⟨_,q⟩:=x a _ r;exact q
def Mut:Option HO->Prop
 | some (.lst _)=>True
 | some (.dK _)=>True
 | some (.dT _)=>True
 | some (.set _ _)=>True
 | some (.ins _ _ _)=>True
 | some (.ext _)=>True
 | _=>False
section
variable {P:Program} {w:World} {H:Hp} {h h':Heap} {x e:Addr} {o':HO}
theorem HOk.write (ok:HOk P w H h) (mu:Mut (H x)) (he:e=x\/H e=some (.own x)) (k:∀b u,b≠e->h.get? b=some u->h'.get? b=some u) (heo:∃u,h'.get? e=some u)
  (new:ObjOk P w (upd H x o') h' x o'):HOk P w (upd H x o') h':=fun b u q=>by
 have nown:∀c y,H c=some (.own y)->c≠x:=fun c y r z=>by subst z;rw [r] at mu;exact mu
 have ntup:∀c xs,H c=some (.tup xs)->c≠x:=fun c xs r z=>by subst z;rw [r] at mu;exact mu
 by_cases hb:b=x
 . subst hb;rw [i8] at q;cases q;exact new
 . rw [b8 hb] at q;by_cases hbe:b=e
   . have q':H b=some (.own x):=by
      rcases he with z | z
      . exact absurd (hbe.trans z) hb
      . rw [hbe];exact z
     rw [q] at q';cases q'
     obtain ⟨v,hv⟩:=heo
     exact ⟨v,by rw [hbe];exact hv⟩
   . refine (ok b u q).stay (fun c v hc r=>k c v ?_ r) (fun c r=>by rw [b8 (nown c b r)];exact r) fun c xs r=>by rw [b8 (ntup c xs r)];exact r
     rcases hc with rfl | hc
     . exact hbe
     . rintro rfl;rcases he with z | z
       . exact nown c b hc z
       . rw [hc] at z;cases z;exact hb rfl
end
structure Un (fs ex:List Addr) (H H':Hp) (h h':Heap):Prop where
 keep:∀b o,h.get? b=some o->H b=none->b∉fs->b∉ex->h'.get? b=some o
 slot:∀b o,h.get? b=some o->H b=none->b∈fs->b∉ex->∃sl,h'.get? b=some { o with slots:=sl }
 free:∀b o,h.get? b=some o->H b=none->b∉ex->H' b=none
 there:∀b o,h.get? b=some o->b∉ex->∃o',h'.get? b=some o'
 tups:∀b xs,H b=some (.tup xs)->H' b=some (.tup xs)
 frzs:∀b o u,H b=some (.frz o u)->H' b=some (.frz o u)
 tbls:∀b ps,H b=some (.tbl ps)->∃more,H' b=some (.tbl (ps++more))
section
variable {fs ex:List Addr} {H H1 H2:Hp} {h h1 h2 h':Heap} {a x e:Addr} {o:HO}
theorem Un.any (u:Un fs ex H H1 h h1) (q:h.get? b=some ob) (n:H b=none) (hx:b∉ex):∃sl,h1.get? b=some { ob with slots:=sl }:=by
 by_cases hb:b∈fs
 . exact u.slot b ob q n hb hx
 . exact ⟨ob.slots,u.keep b ob q n hb hx⟩
theorem Un.trans (a:Un fs ex H H1 h h1) (b:Un fs ex H1 H2 h1 h2):Un fs ex H H2 h h2 where
 keep:=fun c ob q n hc hx=>b.keep c ob (a.keep c ob q n hc hx) (a.free c ob q n hx) hc hx
 slot:=fun c ob q n hc hx=>by obtain ⟨sl,e1⟩:=a.slot c ob q n hc hx;obtain ⟨sl',e2⟩:=b.slot c _ e1 (a.free c ob q n hx) hc hx;exact ⟨sl',e2⟩
 free:=fun c ob q n hx=>by obtain ⟨o',e1⟩:=a.there c ob q hx;exact b.free c o' e1 (a.free c ob q n hx) hx
 there:=fun c ob q hx=>by obtain ⟨o',e1⟩:=a.there c ob q hx;exact b.there c o' e1 hx
 tups:=fun c xs q=>b.tups c xs (a.tups c xs q)
 frzs:=fun c ob xs q=>b.frzs c ob xs (a.frzs c ob xs q)
 tbls:=fun c ps q=>by obtain ⟨m1,e1⟩:=a.tbls c ps q;obtain ⟨m2,e2⟩:=b.tbls c _ e1;exact ⟨m1++m2,by rw [e2,Array.append_assoc]⟩
theorem Un.kept (k:∀b u,h.get? b=some u->h'.get? b=some u):Un fs ex H H h h':=
 ⟨fun b ob q _ _ _=>k b ob q,fun b ob q _ _ _=>⟨ob.slots,k b ob q⟩,fun _ _ _ n _=>n,fun b ob q _=>⟨ob,k b ob q⟩,fun _ _ q=>q,fun _ _ _ q=>q,fun _ ps q=>⟨#[],by rw [q];simp⟩⟩
theorem Un.refl:Un fs ex H H h h:=Un.kept fun _ _ q=>q
theorem Un.laid (k:∀b u,h.get? b=some u->h'.get? b=some u) (hp:h.objs.size<=a) (hn:H a=none):Un fs ex H (upd H a o) h h' where
 keep:=fun b u q _ _ _=>k b u q
 slot:=fun b u q _ _ _=>⟨u.slots,k b u q⟩
 free:=fun b u q n _=>by rw [b8 (Nat.ne_of_lt (Nat.lt_of_lt_of_le (π q) hp))];exact n
 there:=fun b u q _=>⟨u,k b u q⟩
 tups:=fun b xs q=>by rw [b8 (w4 q hn)];exact q
 frzs:=fun b u xs q=>by rw [b8 (w4 q hn)];exact q
 tbls:=fun b ps q=>⟨#[],by rw [b8 (w4 q hn),q];simp⟩
theorem Un.write (mu:Mut (H x)) (he:e=x\/H e=some (.own x)) (k:∀b u,b≠e->h.get? b=some u->h'.get? b=some u) (heo:∃u,h'.get? e=some u):Un fs ex H (upd H x o) h h':=by
 have hx:∀b,H b=none->b≠x:=fun b n z=>by subst z;rw [n] at mu;exact mu
 have hb:∀b,H b=none->b≠e:=fun b n z=>by
  subst z;rcases he with r | r
  . exact hx b n r
  . rw [n] at r;cases r
 have hm:∀b u,H b=some u->¬Mut (some u)->b≠x:=fun b u q nm z=>by subst z;rw [q] at mu;exact nm mu
 refine ⟨fun b u q n _ _=>k b u (hb b n) q,fun b u q n _ _=>⟨u.slots,k b u (hb b n) q⟩,fun b u q n _=>by rw [b8 (hx b n)];exact n,fun b u q _=>?_,
  fun b xs q=>by rw [b8 (hm b _ q fun z=>z)];exact q,fun b u xs q=>by rw [b8 (hm b _ q fun z=>z)];exact q,fun b ps q=>⟨#[],by rw [b8 (hm b _ q fun z=>z),q];simp⟩⟩
 by_cases hbe:b=e
 . subst hbe;exact heo
 . exact ⟨u,k b u hbe q⟩
end
noncomputable def trk (h:Heap) (H:Hp):List Addr:=(List.range h.objs.size).filter fun a=>(H a).isSome
def J1 (h:Heap) (H:Hp):Heap:=hideAll h (trk h H)
theorem yy (h:Heap) (H:Hp):(J1 h H).objs.size=h.objs.size:=PySem.W.hideAll_size _ _
theorem xM (e:h.get? b=some o) (n:H b=none):(J1 h H).get? b=some o:=
 hideAll_get _ e fun hm=>by have q:(H b).isSome=true:=(List.mem_filter.mp hm).2;rw [n] at q;simp at q
theorem vX (e:(J1 h H).get? b=some o):h.get? b=some o/\H b=none:=by
 have e':h.get? b=some o:=of_hideAll (trk h H) e;refine ⟨e',?_⟩;cases q:H b with
 | none=>rfl
 | some x=>
  have hm:b∈trk h H:=List.mem_filter.mpr ⟨List.mem_range.mpr (π e'),by simp [q]⟩
  have z:(J1 h H).get? b=none:=hideAll_none (trk h H) hm
  rw [z] at e;cases e
noncomputable def An (g h:Heap) (L:Addr):List (Addr×Obj):=(List.range h.objs.size).filterMap fun a=>if a=L\/(g.get? a).isSome=true then none else (h.get? a).map fun o=>(a,o)
theorem zn (h1:a≠L) (h2:g.get? a=none) (h3:h.get? a=some o):(a,o)∈An g h L:=
 List.mem_filterMap.mpr ⟨a,List.mem_range.mpr (π h3),by simp [h1,h2,h3]⟩
theorem zR (hp:p∈An g h L):p.1≠L/\g.get? p.1=none/\h.get? p.1=some p.2:=by
 obtain ⟨b,_,e⟩:=List.mem_filterMap.mp hp;split at e
 . cases e
 . rename_i hn;cases q:h.get? b with
   | none=>rw [q] at e;simp at e
   | some u=>
    rw [q] at e
    simp only [Option.map_some,Option.some.injEq] at e
    subst e
    refine ⟨fun z=>hn (.inl z),?_,q⟩
    show g.get? b=none
    cases r:g.get? b with
    | none=>rfl
    | some v=>exact (hn (.inr (by simp [r]))).elim
def rest (g h:Heap) (L d:Addr):List (Addr×Obj):=(An g h L).filter fun p=>decide (p.1≠d)
theorem V3:News g L h (An g h L):=fun p hp=>let ⟨a,b,c⟩:=zR hp;⟨c,a,b⟩
structure Mod (K:Frag) (mg:Str->Option Value) (base:Heap):Prop where
 kin:K.In base
 glob:base.Ns mainGlobals mg
 blt:∃mb,base.Ns builtinsNs mb/\∀x:Str,x≠"__name__"->mb x=bootBuiltins x
 nolimit:base.NoLimit
structure Cx where
 prog:Program
 w:World
 K:Frag
 mg:Str->Option Value
 base:Heap
 A:Around
 N:List Str
 s₀:Shared
 H₀:Hp
 env:Env
 outer:List Env
 stack:List Env
 ex:List Addr
 fn:Str->Bool
 calm:Bool
 pn:List (Addr×Obj)
 xe:Value->Shared->Prop
noncomputable def frs (l:List Env):List Addr:=l.filterMap (·.frame)
abbrev Cx.fs (X:Cx):List Addr:=frs X.outer
def Vis (sc:Scope) (x:Str):Prop:=sc.names.lookup x=some .local\/sc.names.lookup x=some .cell\/sc.names.lookup x=some .free
def Loc (sc:Scope) (x:Str):Prop:=sc.names.lookup x=some .local\/sc.names.lookup x=some .cell
def y2s (env:Env) (h:Heap) (m:Str->Option Value) (x:Str) (u:Value):Prop:=
 (env.kindOf x=some .local/\m x=some u)\/((env.kindOf x=some .cell\/env.kindOf x=some .free)/\∃c,env.cells.lookup x=some c/\h.IsCell c (some u))
structure Cx.Ok (X:Cx):Prop where
 mod:Mod X.K X.mg X.base
 kind:X.env.scope.kind=.function
 glob:X.env.globals=mainGlobals
 blt:X.env.builtins=builtinsNs
 above:X.s₀.heap.objs.size<=X.env.locals
 inj:∀x y c,X.env.cells.lookup x=some c->X.env.cells.lookup y=some c->x=y
 has:∀x,(X.env.kindOf x=some .cell\/X.env.kindOf x=some .free)->∃c,X.env.cells.lookup x=some c
 cab:∀x c,X.fn x=true->X.env.cells.lookup x=some c->X.s₀.heap.objs.size<=c
 hd:X.calm=true->X.A.handled=none
 frames:X.A.frames=some X.stack
 stk:X.stack=X.outer\/(X.stack=X.env::X.outer/\X.env.frame=some X.env.locals)
 exf:∀b∈X.ex,b≠X.env.locals/\∀x c,X.env.cells.lookup x=some c->c≠b
 bs:∀b o,X.base.get? b=some o->X.s₀.heap.get? b=some o/\X.H₀ b=none
 bsz:X.base.objs.size<=X.s₀.heap.objs.size
 noex:∀b o,X.base.get? b=some o->b∉X.ex
 exfs:∀b∈X.ex,b∉X.fs
 funs:X.s₀.heap.FunFrames X.base X.outer
 frf:∀b∈X.fs,X.H₀ b=none
structure Inv (X:Cx) (pins:List (Addr×Obj)) (U:List (Option V)) (H:Hp) (s:Shared):Prop where
 ok:X.Ok
 os:s.os=X.s₀.os
 bare:AllBare s.gens
 base:Un X.fs X.ex X.H₀ H X.s₀.heap s.heap
 loc:∃m,s.heap.Ns X.env.locals m/\∀(i:Nat) (x:Str) (v:V),X.N[i]?=some x->U[i]?=some (some v)->Vis X.env.scope x->∃u,RelV v u/\y2s X.env s.heap m x u
 cell:∀x c,X.env.cells.lookup x=some c->∃v,s.heap.IsCell c v
 free:H X.env.locals=none
 freeC:∀x c,X.env.cells.lookup x=some c->H c=none
 pin:∀p∈X.pn++pins,s.heap.get? p.1=some p.2/\H p.1=none/\p.1≠X.env.locals/\p.1∉X.fs/\∀v,p.2.data≠.cell v
 hok:HOk X.prog X.w H s.heap
 len:U.length=X.N.length
section
variable {X:Cx} {pins:List (Addr×Obj)} {U:List (Option V)} {H H':Hp} {s:Shared} {h':Heap}
theorem Cx.Ok.nofr (ok:X.Ok) (e:X.base.get? b=some o):b∉X.fs:=fun hb=>by have:=(ok.funs.mem hb).1;rw [e] at this;cases this
theorem Inv.bs (I:Inv X pins U H s):∀b o,X.base.get? b=some o->s.heap.get? b=some o/\H b=none:=fun b o e=>
 ⟨I.base.keep b o (I.ok.bs b o e).1 (I.ok.bs b o e).2 (I.ok.nofr e) (I.ok.noex b o e),I.base.free b o (I.ok.bs b o e).1 (I.ok.bs b o e).2 (I.ok.noex b o e)⟩
theorem Inv.bk (I:Inv X pins U H s):∀b o,X.base.get? b=some o->s.heap.get? b=some o:=fun b o e=>(I.bs b o e).1
theorem Inv.mod (I:Inv X pins U H s):Mod X.K X.mg X.base:=I.ok.mod
theorem Inv.kIn (I:Inv X pins U H s):X.K.In s.heap:=I.ok.mod.kin.keeps I.bk
theorem Inv.lt (I:Inv X pins U H s):X.env.locals<s.heap.objs.size:=let ⟨_,hn,_⟩:=I.loc;hn.lt
theorem Inv.sz (I:Inv X pins U H s):X.s₀.heap.objs.size<=s.heap.objs.size:=Nat.le_trans I.ok.above (Nat.le_of_lt I.lt)
theorem Inv.nofs (I:Inv X pins U H s) (h:s.heap.objs.size<=a):a∉X.fs:=fun hb=>by obtain ⟨_,o,ho,_⟩:=I.ok.funs.mem hb;exact absurd (Nat.lt_of_lt_of_le (π ho) (Nat.le_trans I.sz h)) (χ _)
theorem Inv.cne (I:Inv X pins U H s):∀x c,X.env.cells.lookup x=some c->c≠X.env.locals:=fun x c e z=>by obtain ⟨v,o,ho,hd⟩:=I.cell x c e;obtain ⟨m,⟨o',es,ep,ho',hd',_⟩,_⟩:=I.loc;rw [z,ho'] at ho;cases ho;rw [hd'] at hd;cases hd
theorem Inv.funs (I:Inv X pins U H s):s.heap.FunFrames X.base X.outer:=by
 have all:∀(l:List Env),(∀b∈frs l,b∈X.fs)->X.s₀.heap.FunFrames X.base l->s.heap.FunFrames X.base l:=by
  intro l;induction l with
  | nil=>intro _ _;trivial
  | cons env r ih=>
   intro hs hl
   obtain ⟨hk,⟨L,o,hf,hn,ho,hd⟩,hr⟩:=hl
   have hL:L∈X.fs:=hs L (by unfold frs;rw [List.filterMap_cons,hf];exact List.mem_cons_self)
   obtain ⟨sl,e⟩:=I.base.slot L o ho (I.ok.frf L hL) hL fun z=>I.ok.exfs L z hL
   exact ⟨hk,⟨L,_,hf,hn,e,hd⟩,ih (fun b hb=>hs b (by unfold frs;rw [List.filterMap_cons,hf];exact List.mem_cons_of_mem _ hb)) hr⟩
 exact all X.outer (fun _ hb=>hb) I.ok.funs
theorem Inv.stack (I:Inv X pins U H s):s.heap.FunFrames X.base X.stack:=by
 rcases I.ok.stk with e | ⟨e,hf⟩
 . rw [e];exact I.funs
 . rw [e];obtain ⟨m,hn,_⟩:=I.loc;refine .cons (by rw [I.ok.kind];decide) hf hn ?_ I.funs;exact Heap.get?_none_of_le (Nat.le_trans I.ok.bsz I.ok.above)
theorem Inv.stkSub (I:Inv X pins U H s):∀b∈frs X.stack,b∈X.env.locals::X.fs:=fun b hb=>by
 rcases I.ok.stk with e | ⟨e,hf⟩
 . rw [e] at hb;exact List.mem_cons_of_mem _ hb
 . rw [e] at hb;unfold frs at hb;rw [List.filterMap_cons,hf] at hb;exact hb
theorem Inv.stkFree (I:Inv X pins U H s):∀b∈frs X.stack,H b=none:=fun b hb=>by
 rcases List.mem_cons.mp (I.stkSub b hb) with e | hb
 . rw [e];exact I.free
 . obtain ⟨_,o,ho,_⟩:=I.ok.funs.mem hb;exact I.base.free b o ho (I.ok.frf b hb) fun z=>I.ok.exfs b z hb
theorem Inv.step {g':Array GenState} {t':Nat} {d':Drawn} {ch:List Addr} (I:Inv X pins U H s)
  (hch:∀b∈ch,(b∈X.ex\/X.s₀.heap.objs.size<=b)/\b≠X.env.locals/\(∀x c,X.env.cells.lookup x=some c->c≠b)/\∀p∈X.pn++pins,p.1≠b)
  (keep:∀b o,b≠X.env.locals->b∉X.fs->b∉ch->s.heap.get? b=some o->H b=none->h'.get? b=some o)
  (slot:∀b o,b≠X.env.locals->b∈X.fs->b∉ch->s.heap.get? b=some o->H b=none->∃sl,h'.get? b=some { o with slots:=sl }) (free:∀b o,b∉ch->s.heap.get? b=some o->H b=none->H' b=none)
  (there:∀b o,b∉ch->s.heap.get? b=some o->∃o',h'.get? b=some o')
  (tups:∀b xs,H b=some (.tup xs)->H' b=some (.tup xs)) (frzs:∀b o u,H b=some (.frz o u)->H' b=some (.frz o u)) (tbls:∀b ps,H b=some (.tbl ps)->∃more,H' b=some (.tbl (ps++more)))
  (ns:∀m,s.heap.Ns X.env.locals m->h'.Ns X.env.locals m) (hok:HOk X.prog X.w H' h') (hg:AllBare g') :
  Inv X pins U H' { s with heap:=h',gens:=g',drawn:=d',toks:=t' }:=by
 have neL:∀b o,X.s₀.heap.get? b=some o->b≠X.env.locals:=fun b o e=>Nat.ne_of_lt (Nat.lt_of_lt_of_le (π e) I.ok.above)
 have neC:∀b o,X.s₀.heap.get? b=some o->b∉X.ex->b∉ch:=fun b o e hx hb=>by
  rcases (hch b hb).1 with z | z
  . exact hx z
  . exact absurd (Nat.lt_of_lt_of_le (π e) z) (χ _)
 have cellK:∀x c,X.env.cells.lookup x=some c->∀v,s.heap.IsCell c v->h'.IsCell c v:=fun x c e v ⟨o,ho,hd⟩=>by
  have nch:c∉ch:=fun z=>(hch c z).2.2.1 x c e rfl
  by_cases hc:c∈X.fs
  . obtain ⟨sl,q⟩:=slot c o (I.cne x c e) hc nch ho (I.freeC x c e);exact ⟨_,q,hd⟩
  . exact ⟨o,keep c o (I.cne x c e) hc nch ho (I.freeC x c e),hd⟩
 refine ⟨I.ok,I.os,hg,⟨fun b o e n hb hx=>?_,fun b o e n hb hx=>?_,fun b o e n hx=>?_,fun b o e hx=>?_,fun b xs e=>tups b xs (I.base.tups b xs e),fun b o xs e=>frzs b o xs (I.base.frzs b o xs e),fun b ps e=>?_⟩,?_,fun x c e=>?_,?_,fun x c e=>?_,fun p hp=>?_,hok,I.len⟩
 . exact keep b o (neL b o e) hb (neC b o e hx) (I.base.keep b o e n hb hx) (I.base.free b o e n hx)
 . obtain ⟨sl,e1⟩:=I.base.slot b o e n hb hx;obtain ⟨sl',e2⟩:=slot b _ (neL b o e) hb (neC b o e hx) e1 (I.base.free b o e n hx);exact ⟨sl',e2⟩
 . obtain ⟨o',e1⟩:=I.base.there b o e hx;exact free b o' (neC b o e hx) e1 (I.base.free b o e n hx)
 . obtain ⟨o',e1⟩:=I.base.there b o e hx;exact there b o' (neC b o e hx) e1
 . obtain ⟨m1,e1⟩:=I.base.tbls b ps e;obtain ⟨m2,e2⟩:=tbls b _ e1;exact ⟨m1++m2,by rw [e2,Array.append_assoc]⟩
 . obtain ⟨m,hn,hl⟩:=I.loc;refine ⟨m,ns m hn,fun i x v e1 e2 e3=>?_⟩;obtain ⟨u,r,l⟩:=hl i x v e1 e2 e3;refine ⟨u,r,?_⟩;rcases l with l | ⟨k,c,e,z⟩
   . exact .inl l
   . exact .inr ⟨k,c,e,cellK x c e _ z⟩
 . obtain ⟨v,z⟩:=I.cell x c e;exact ⟨v,cellK x c e v z⟩
 . obtain ⟨m,⟨o,_,_,ho,_⟩,_⟩:=I.loc;exact free _ o (fun z=>(hch _ z).2.1 rfl) ho I.free
 . obtain ⟨v,o,ho,hd⟩:=I.cell x c e;exact free c o (fun z=>(hch c z).2.2.1 x c e rfl) ho (I.freeC x c e)
 . obtain ⟨e,n,ne,nf,d⟩:=I.pin p hp;have nch:p.1∉ch:=fun z=>(hch p.1 z).2.2.2 p hp rfl
   exact ⟨keep p.1 p.2 ne nf nch e n,free p.1 p.2 nch e n,ne,nf,d⟩
theorem Inv.un (I:Inv X pins U H s) (u:Un X.fs [] H H' s.heap h') (hok:HOk X.prog X.w H' h'):Inv X pins U H' { s with heap:=h',toks:=t' }:=by obtain ⟨m,⟨o,es,ep,ho,r⟩,_⟩:=id I.loc;obtain ⟨sl,hL⟩:=u.any ho I.free (by simp);exact I.step (g':=s.gens) (d':=s.drawn) (ch:=[]) (fun _ z=>nomatch z) (fun b o _ hb _ e n=>u.keep b o e n hb (by simp)) (fun b o _ hb _ e n=>u.slot b o e n hb (by simp)) (fun b o _ e n=>u.free b o e n (by simp)) (fun b o _ e=>u.there b o e (by simp)) u.tups u.frzs u.tbls (fun m' hm=>by obtain ⟨o',es',ep',ho',r'⟩:=hm;rw [ho] at ho';cases ho';exact ⟨_,es',ep',hL,r'⟩) hok I.bare
theorem Inv.call (I:Inv X pins U H s) (u:Un (frs X.stack) ch H H' s.heap h') (hok:HOk X.prog X.w H' h') (hg:AllBare g')
  (hch:∀b∈ch,(b∈X.ex\/X.s₀.heap.objs.size<=b)/\b≠X.env.locals/\(∀x c,X.env.cells.lookup x=some c->c≠b)/\∀p∈X.pn++pins,p.1≠b) :
  Inv X pins U H' { s with heap:=h',gens:=g',drawn:=d',toks:=t' }:=by
 obtain ⟨m,⟨o,es,ep,ho,r⟩,_⟩:=id I.loc
 obtain ⟨sl,hL⟩:=u.any ho I.free fun z=>(hch _ z).2.1 rfl
 exact I.step (ch:=ch) hch (fun b o hL hb hc e n=>u.keep b o e n (fun z=>(List.mem_cons.mp (I.stkSub b z)).elim hL hb) hc) (fun b o _ _ hc e n=>u.any e n hc) (fun b o hc e n=>u.free b o e n hc) (fun b o hc e=>u.there b o e hc) u.tups u.frzs u.tbls (fun m' hm=>by obtain ⟨o',es',ep',ho',r'⟩:=hm;rw [ho] at ho';cases ho';exact ⟨_,es',ep',hL,r'⟩) hok hg
theorem Inv.turned (I:Inv X pins U H s) (k:∀b o,b≠it->s.heap.get? b=some o->h'.get? b=some o) (hn:H it=none) (hL:it≠X.env.locals)
  (h1:it∈X.ex\/X.s₀.heap.objs.size<=it) (h2:∀x c,X.env.cells.lookup x=some c->c≠it) (h3:∀p∈X.pn++pins,p.1≠it):Inv X pins U H { s with heap:=h',toks:=t' }:=by
 have nit:∀b u,H b=some u->b≠it:=fun b u e z=>by rw [z,hn] at e;cases e
 refine I.step (g':=s.gens) (d':=s.drawn) (ch:=[it]) (fun b hb=>?_) (fun b o _ _ hc e _=>k b o (fun z=>hc (by simp [z])) e) (fun b o _ _ hc e _=>⟨o.slots,k b o (fun z=>hc (by simp [z])) e⟩) (fun _ _ _ _ n=>n)
  (fun b o hc e=>⟨o,k b o (fun z=>hc (by simp [z])) e⟩) (fun _ _ e=>e) (fun _ _ _ e=>e) (fun b ps e=>⟨#[],by rw [e];simp⟩) (fun m hm=>?_) (fun b u e=>?_) I.bare
 . have e:b=it:=by simpa using hb
   subst e;exact ⟨h1,hL,h2,h3⟩
 . obtain ⟨o,es,ep,ho,r⟩:=hm;exact ⟨o,es,ep,k _ o (Ne.symm hL) ho,r⟩
 . refine (I.hok b u e).stay (fun c v hc q=>k c v ?_ q) (fun _ q=>q) fun _ _ q=>q
   rcases hc with z | z
   . rw [z];exact nit b u e
   . exact nit c _ z
theorem Inv.tok (I:Inv X pins U H s) (t:Nat):Inv X pins U H { s with toks:=t }:=I.un (h':=s.heap) (t':=t) Un.refl I.hok
theorem Inv.kept (I:Inv X pins U H s) (k:∀b u,s.heap.get? b=some u->h'.get? b=some u):Inv X pins U H { s with heap:=h',toks:=t' }:=I.un (Un.kept k) (I.hok.kept k)
theorem Inv.laid (I:Inv X pins U H s) (k:∀b u,s.heap.get? b=some u->h'.get? b=some u) (hp:s.heap.objs.size<=a) (new:ObjOk X.prog X.w (upd H a o) h' a o) :
 Inv X pins U (upd H a o) { s with heap:=h',toks:=t' }:=I.un (Un.laid k hp (I.hok.fresh hp)) (I.hok.laid k hp new)
theorem Inv.write (I:Inv X pins U H s) (mu:Mut (H x)) (he:e=x\/H e=some (.own x)) (k:∀b u,b≠e->s.heap.get? b=some u->h'.get? b=some u) (heo:∃u,h'.get? e=some u)
 (new:ObjOk X.prog X.w (upd H x o) h' x o):Inv X pins U (upd H x o) { s with heap:=h',toks:=t' }:=I.un (Un.write mu he k heo) (I.hok.write mu he k heo new)
theorem Inv.pins_of (I:Inv X pins U H s) (h:∀p∈pins',s.heap.get? p.1=some p.2/\H p.1=none/\p.1≠X.env.locals/\p.1∉X.fs/\∀v,p.2.data≠.cell v):Inv X pins' U H s:=
 ⟨I.ok,I.os,I.bare,I.base,I.loc,I.cell,I.free,I.freeC,fun p hp=>(List.mem_append.mp hp).elim (fun z=>I.pin p (List.mem_append_left _ z)) (h p),I.hok,I.len⟩
theorem Kv {N:List Str} (hN:N.Nodup) {i j:Nat} {x:Str} (a:N[i]?=some x) (b:N[j]?=some x):i=j:=by obtain ⟨h1,e1⟩:=List.getElem?_eq_some_iff.mp a;obtain ⟨h2,e2⟩:=List.getElem?_eq_some_iff.mp b;exact (List.getElem_inj hN).mp (e1.trans e2.symm)
theorem Lk (I:Inv X pins U H s) (hN:X.N.Nodup) (hi:X.N[i]?=some x) (hx:Loc X.env.scope x) (r:RelV v u)
  (h:∀s',Inv X pins (U.set i (some v)) H s'->(∃a,Heap.SameBut a s.heap s'.heap/\(a=X.env.locals\/X.env.cells.lookup x=some a))->Q () s') (hf:X.fn x=true\/X.env.scope.names.lookup x=some .local):wpAny M A (storeName X.env x u) Q E s:=by
 obtain ⟨m,hn,hl⟩:=id I.loc
 have hcls:(X.env.scope.kind==.class||(X.env.scope.kind==.module&&X.env.locals != X.env.globals))=false:=by rw [I.ok.kind];rfl
 have hiσ:i<U.length:=by rw [I.len];exact (List.getElem?_eq_some_iff.mp hi).1
 have cne:=I.cne
 have tracked:∀{a:Addr} {h':Heap},(∃o,s.heap.get? a=some o/\H a=none)->Heap.SameBut a s.heap h'->HOk X.prog X.w H h':=fun {a h'} ha hs b ob e=>by
  obtain ⟨_,_,hfree⟩:=ha;refine (I.hok b ob e).stay (fun c w' hc q=>(hs.2 c ?_).trans q) (fun _ q=>q) fun _ _ q=>q
  rintro rfl;rcases hc with rfl | hc
  . rw [hfree] at e;cases e
  . rw [hfree] at hc;cases hc
 rcases hx with hk | hk
 . refine wpAny_storeName_local hk hn (fun h' hn' hs=>?_) hcls;obtain ⟨oL,_,_,hoL,_⟩:=id hn;refine h _ ⟨I.ok,I.os,I.bare,⟨fun b o e n hb hx=>?_,fun b o e n hb hx=>?_,I.base.free,fun b o e hx=>?_,I.base.tups,I.base.frzs,I.base.tbls⟩,⟨_,hn',fun j y v' e1 e2 e3=>?_⟩,fun y c e=>?_,I.free,I.freeC,fun p hp=>?_,tracked ⟨oL,hoL,I.free⟩ hs,by simpa using I.len⟩ ⟨_,hs,.inl rfl⟩
   . exact (hs.2 b (Nat.ne_of_lt (Nat.lt_of_lt_of_le (π e) I.ok.above))).trans (I.base.keep b o e n hb hx)
   . obtain ⟨sl,e1⟩:=I.base.slot b o e n hb hx;exact ⟨sl,(hs.2 b (Nat.ne_of_lt (Nat.lt_of_lt_of_le (π e) I.ok.above))).trans e1⟩
   . obtain ⟨o',e1⟩:=I.base.there b o e hx;exact ⟨o',(hs.2 b (Nat.ne_of_lt (Nat.lt_of_lt_of_le (π e) I.ok.above))).trans e1⟩
   . by_cases hj:j=i
     . subst hj;rw [hi] at e1;cases e1;rw [List.getElem?_set_self hiσ] at e2;cases e2;exact ⟨u,r,.inl ⟨hk,by simp⟩⟩
     . rw [List.getElem?_set_ne (Ne.symm hj)] at e2;obtain ⟨u',r',q⟩:=hl j y v' e1 e2 e3;refine ⟨u',r',?_⟩;rcases q with ⟨k,e⟩ | ⟨k,c,e,z⟩
       . refine .inl ⟨k,?_⟩;have:y≠x:=fun e=>hj (Kv hN e1 (e ▸ hi))
         simp [this,e]
       . exact .inr ⟨k,c,e,z.sameBut hs (cne y c e)⟩
   . obtain ⟨w',z⟩:=I.cell y c e;exact ⟨w',z.sameBut hs (cne y c e)⟩
   . obtain ⟨e,n,ne,nf,d⟩:=I.pin p hp;exact ⟨(hs.2 p.1 ne).trans e,n,ne,nf,d⟩
 . have hfn:X.fn x=true:=by
    rcases hf with z | z
    . exact z
    . rw [z] at hk;cases hk
   obtain ⟨c,hc⟩:=I.ok.has x (.inl hk)
   obtain ⟨w',z⟩:=I.cell x c hc
   refine wpAny_storeName_cell I.ok.kind hk hc z (fun h' hc' hs=>?_)
   obtain ⟨oc,hoc,hocd⟩:=id z
   refine h { s with heap:=h' } ⟨I.ok,I.os,I.bare,⟨fun b o e n hb hx=>?_,fun b o e n hb hx=>?_,I.base.free,fun b o e hx=>?_,I.base.tups,I.base.frzs,I.base.tbls⟩,⟨m,hn.sameBut hs (Ne.symm (cne x c hc)),fun j y v' e1 e2 e3=>?_⟩,fun y c' e=>?_,I.free,I.freeC,fun p hp=>?_,tracked ⟨oc,hoc,I.freeC x c hc⟩ hs,by simpa using I.len⟩ ⟨c,hs,.inr hc⟩
   . exact (hs.2 b (Nat.ne_of_lt (Nat.lt_of_lt_of_le (π e) (I.ok.cab x c hfn hc)))).trans (I.base.keep b o e n hb hx)
   . obtain ⟨sl,e1⟩:=I.base.slot b o e n hb hx;exact ⟨sl,(hs.2 b (Nat.ne_of_lt (Nat.lt_of_lt_of_le (π e) (I.ok.cab x c hfn hc)))).trans e1⟩
   . obtain ⟨o',e1⟩:=I.base.there b o e hx;exact ⟨o',(hs.2 b (Nat.ne_of_lt (Nat.lt_of_lt_of_le (π e) (I.ok.cab x c hfn hc)))).trans e1⟩
   . by_cases hj:j=i
     . subst hj;rw [hi] at e1;cases e1;rw [List.getElem?_set_self hiσ] at e2;cases e2;exact ⟨u,r,.inr ⟨.inl hk,c,hc,hc'⟩⟩
     . rw [List.getElem?_set_ne (Ne.symm hj)] at e2;obtain ⟨u',r',q⟩:=hl j y v' e1 e2 e3;refine ⟨u',r',?_⟩;rcases q with q | ⟨k,c',e,z'⟩
       . exact .inl q
       . refine .inr ⟨k,c',e,z'.sameBut hs ?_⟩;rintro rfl;exact hj (Kv hN e1 (I.ok.inj _ _ _ e hc ▸ hi))
   . by_cases hcc:c'=c
     . subst hcc;exact ⟨_,hc'⟩
     . obtain ⟨w2,z2⟩:=I.cell y c' e;exact ⟨w2,z2.sameBut hs hcc⟩
   . obtain ⟨e,n,ne,nf,d⟩:=I.pin p hp;refine ⟨(hs.2 p.1 ?_).trans e,n,ne,nf,d⟩;intro q;rw [q,hoc] at e;have q':oc=p.2:=Option.some.inj e;exact d w' (by rw [<-q'];exact hocd)
theorem Ec (I:Inv X pins U H s) (hN:X.N.Nodup) (hi:X.N[i]?=some x) (hx:Loc X.env.scope x) (r:RelV v u)
  (h:∀s',Inv X pins (U.set i (some v)) H s'->Q () s') (hf:X.fn x=true\/X.env.scope.names.lookup x=some .local):wpAny M A (storeName X.env x u) Q E s:=
 Lk I hN hi hx r (fun s' I' _=>h s' I') hf
theorem Inv.call' (I:Inv X pins U H s) (ho:s'.os=s.os) (u:Un (frs X.stack) ch H H' s.heap s'.heap) (hok:HOk X.prog X.w H' s'.heap) (hg:AllBare s'.gens)
  (hch:∀b∈ch,(b∈X.ex\/X.s₀.heap.objs.size<=b)/\b≠X.env.locals/\(∀x c,X.env.cells.lookup x=some c->c≠b)/\∀p∈X.pn++pins,p.1≠b):Inv X pins U H' s':=by
 obtain ⟨h',g',d',t',o'⟩:=s'
 have e:o'=s.os:=ho
 subst e
 exact I.call (g':=g') (t':=t') (d':=d') u hok hg hch
end
abbrev XK:=Value->Option Addr->Hp->Prop
abbrev St:=List (Option V)
abbrev VK:=V->Hp->Prop
abbrev TE:=St->Hp->VK->Prop
abbrev TT:=St->Hp->(Bool->Hp->Prop)->Prop
abbrev TA:=St->Hp->(List V->Hp->Prop)->Prop
structure Ends where
 nx:St->Hp->Prop
 rt:VK
 bk:St->Hp->Prop:=fun _ _=>False
 ct:St->Hp->Prop:=fun _ _=>False
abbrev TS:=Ends->St->Hp->Prop
def EP (X:Cx) (pins:List (Addr×Obj)) (U:St) (Q:VK) (u:Value) (s':Shared):Prop:=∃v H',Inv X pins U H' s'/\RelV v u/\Q v H'
def TP (X:Cx) (pins:List (Addr×Obj)) (U:St) (Q:Bool->Hp->Prop) (b:Bool) (s':Shared):Prop:=∃H',Inv X pins U H' s'/\Q b H'
def AP (X:Cx) (pins:List (Addr×Obj)) (U:St) (Q:List V->Hp->Prop) (us:List Value) (s':Shared):Prop:=∃vs H',Inv X pins U H' s'/\Vals vs us/\Q vs H'
def SP (X:Cx) (pins:List (Addr×Obj)) (D:Ends) (f:Flow) (s':Shared):Prop:=
 match f with
 | .next=>∃σ' H',Inv X pins σ' H' s'/\D.nx σ' H'
 | .brk=>∃σ' H',Inv X pins σ' H' s'/\D.bk σ' H'
 | .cont=>∃σ' H',Inv X pins σ' H' s'/\D.ct σ' H'
 | .ret u=>∃v σ' H',Inv X pins σ' H' s'/\RelV v u/\D.rt v H'
def PE (X:Cx) (e:Expr) (t:TE):Prop:=
 ∀(pins:List (Addr×Obj)) (s:Shared) (U:St) (H:Hp) (Q:VK),Inv X pins U H s->t U H Q->wpAny (model X.prog X.w) X.A (eval e X.env) (EP X pins U Q) X.xe s
def PT (X:Cx) (e:Expr) (t:TT):Prop:=
 ∀(pins:List (Addr×Obj)) (s:Shared) (U:St) (H:Hp) (Q:Bool->Hp->Prop),Inv X pins U H s->t U H Q->wpAny (model X.prog X.w) X.A (isTrue e X.env (eval e X.env)) (TP X pins U Q) X.xe s
def PW (X:Cx) (e:Expr) (t:TT):Prop:=
 ∀(whole:Sem Value) (pins:List (Addr×Obj)) (s:Shared) (U:St) (H:Hp) (Q:Bool->Hp->Prop),Inv X pins U H s->t U H Q->wpAny (model X.prog X.w) X.A (isTrue e X.env whole) (TP X pins U Q) X.xe s
theorem PW.pt (h:PW X e t):PT X e t:=h _
def PA (X:Cx) (es:List Expr) (t:TA):Prop:=
 ∀(pos:Pos) (pins:List (Addr×Obj)) (s:Shared) (U:St) (H:Hp) (Q:List V->Hp->Prop),Inv X pins U H s->t U H Q->wpAny (model X.prog X.w) X.A (spliced (backTo pos (starEach es X.env))) (AP X pins U Q) X.xe s
def PS (X:Cx) (st:Stmt) (t:TS):Prop:=
 ∀(pins:List (Addr×Obj)) (s:Shared) (U:St) (H:Hp) (D:Ends),Inv X pins U H s->t D U H->wpAny (model X.prog X.w) X.A (exec st X.env) (SP X pins D) X.xe s
def PSs (X:Cx) (st:List Stmt) (t:TS):Prop:=
 ∀(pins:List (Addr×Obj)) (s:Shared) (U:St) (H:Hp) (D:Ends),Inv X pins U H s->t D U H->wpAny (model X.prog X.w) X.A (execs st X.env) (SP X pins D) X.xe s
theorem thn (h:wpAny M A t Q E s) (hQ:∀a s,Q a s->Q' a s):wpAny M A t Q' E s:=wpAny_mono h hQ fun _ _ x=>x
section
variable {X:Cx}
noncomputable def Fv (i:Nat):TE:=fun U H Q=>∃v,U[i]?=some (some v)/\Q v H
noncomputable def tC (v:V):TE:=fun _ H Q=>Q v H
theorem K4 (hN:X.N[i]?=some x) (hv:Vis X.env.scope x) (hd:(x==("__debug__":Str))=false:=by decide) (hcd:(x==("__classdict__":Str))=false:=by decide):PE X (.Name x pos) (Fv i):=by
 intro pins s U H Q I h;obtain ⟨v,e,h⟩:=h;obtain ⟨m,hn,hl⟩:=I.loc;obtain ⟨u,r,l⟩:=hl i x v hN e hv;have fin:EP X pins U Q u s:=⟨v,H,I,r,h⟩;rcases l with ⟨hk,hm⟩ | ⟨hk,c,hc,hcell⟩
 . exact wpAny_Name (wpAny_loadName_local I.ok.kind hk hn hm fin) hd
 . rcases hk with hk | hk
   . exact wpAny_Name (wpAny_loadName_cell I.ok.kind hk hc hcell fin) hd
   . exact wpAny_Name (wpAny_loadName_free I.ok.kind hk hc hcell fin hcd) hd
theorem pe_int:PE X (.Constant (.int i) j pos) (tC (.int i)):=fun _ _ _ H _ I h=>wpAny_Constant_int ⟨.int i,H,I.tok _,⟨_,rfl⟩,h⟩
theorem pe_bl:PE X (.Constant (.bool b) j pos) (tC (.bl b)):=fun _ _ _ H _ I h=>Constant_bool ⟨.bl b,H,I,rfl,h⟩
theorem pe_non:PE X (.Constant .none j pos) (tC .non):=fun _ _ _ H _ I h=>Constant_none ⟨.non,H,I,rfl,h⟩
theorem pe_str:PE X (.Constant (.str x) j pos) (tC (.str x)):=fun _ _ _ H _ I h=>Calls.Constant_str ⟨.str x,H,I.tok _,⟨_,rfl⟩,h⟩
def Gl (X:Cx) (x:Str):Prop:=X.env.kindOf x=some .globalImplicit
theorem V0 (I:Inv X pins U H s) (hg:Gl X x) (hm:X.mg x=some u) (h:Q u s)
  (hd:(x==("__debug__":Str))=false:=by decide):wpAny (model X.prog X.w) X.A (eval (.Name x pos) X.env) Q E s:=
 Calls.Name_function_global I.ok.kind hg (Calls.loadGlobal_global (by rw [I.ok.glob];exact I.mod.glob.keeps I.bk) hm h) hd
theorem U5 (I:Inv X pins U H s) (hg:Gl X x) (hm:X.mg x=none) (hv:bootBuiltins x=some u) (h:Q u s)
  (hn:x≠"__name__":=by decide) (hd:(x==("__debug__":Str))=false:=by decide):wpAny (model X.prog X.w) X.A (eval (.Name x pos) X.env) Q E s:=by
 obtain ⟨mb,h1,h2⟩:=I.mod.blt
 exact Calls.Name_function_global I.ok.kind hg (Calls.loadGlobal_builtin (by rw [I.ok.glob];exact I.mod.glob.keeps I.bk) hm (by rw [I.ok.blt];exact h1.keeps I.bk) ((h2 x hn).trans hv) h) hd
theorem Dw (hg:Gl X x) (hm:X.mg x=some u) (r:RelV v u) (hd:(x==("__debug__":Str))=false:=by decide):PE X (.Name x pos) (tC v):=
 fun _ _ _ H _ I h=>V0 I hg hm ⟨v,H,I,r,h⟩ hd
theorem F3 (hg:Gl X x) (hm:X.mg x=none) (hv:bootBuiltins x=some u) (r:RelV v u) (hn:x≠"__name__":=by decide) (hd:(x==("__debug__":Str))=false:=by decide):PE X (.Name x pos) (tC v):=
 fun _ _ _ H _ I h=>U5 I hg hm hv ⟨v,H,I,r,h⟩ hn hd
variable {a b:Expr} {ta tb:TE} {pos:Pos}
variable {tA tB':TT} {rest:List Expr}
noncomputable def Yx (t u:TT):TT:=fun U H Q=>t U H fun c H1=>if c=true then u U H1 Q else Q false H1
noncomputable def tOr (t u:TT):TT:=fun U H Q=>t U H fun c H1=>if c=true then Q true H1 else u U H1 Q
noncomputable def Yw (t:TT):TT:=fun U H Q=>t U H fun c H1=>Q (!c) H1
theorem vW (ha:PT X a tA):PW X (.BoolOp .And [a] pos) tA:=by
 intro wh pins s U H Q I h;refine isTrue_and (thn (ha pins s U H Q I h) fun c s1 e=>?_);cases c with
 | true=>exact isTrue_and_nil e
 | false=>exact e
theorem qa (ha:PT X a tA):PW X (.BoolOp .Or [a] pos) tA:=by
 intro wh pins s U H Q I h;refine isTrue_or (thn (ha pins s U H Q I h) fun c s1 e=>?_);cases c with
 | false=>exact isTrue_or_nil e
 | true=>exact e
theorem kZ (ha:PT X a tA) (hb:PW X (.BoolOp .And (b::rest) pos) tB'):PW X (.BoolOp .And (a::b::rest) pos) (Yx tA tB'):=by
 intro wh pins s U H Q I h;refine isTrue_and (thn (ha pins s U H _ I h) fun c s1 ⟨H1,I1,q1⟩=>?_);cases c with
 | true=>exact hb wh pins s1 U H1 Q I1 q1
 | false=>exact ⟨H1,I1,q1⟩
theorem jd (ha:PT X a tA) (hb:PW X (.BoolOp .Or (b::rest) pos) tB'):PW X (.BoolOp .Or (a::b::rest) pos) (tOr tA tB'):=by
 intro wh pins s U H Q I h;refine isTrue_or (thn (ha pins s U H _ I h) fun c s1 ⟨H1,I1,q1⟩=>?_);cases c with
 | true=>exact ⟨H1,I1,q1⟩
 | false=>exact hb wh pins s1 U H1 Q I1 q1
theorem kY (ha:PT X a tA):PT X (.UnaryOp .Not a pos) (Yw tA):=by intro pins s U H Q I h;exact isTrue_not (ha pins s U H (fun c H1=>Q (!c) H1) I h)
theorem kX (h:PE X a t):PE X (.BoolOp op [a] pos) t:=fun pins s U H Q I hw=>BoolOp_one (h pins s U H Q I hw)
noncomputable def tIf (t:TT) (ta tb:TE):TE:=fun U H Q=>t U H fun c H1=>if c=true then ta U H1 Q else tb U H1 Q
theorem xL (hc:PT X c tA) (ha:PE X a ta) (hb:PE X b tb):PE X (.IfExp c a b pos) (tIf tA ta tb):=by
 intro pins s U H Q I h;refine wpAny_IfExp (thn (hc pins s U H _ I h) fun d s1 ⟨H1,I1,q1⟩=>?_);cases d with
 | true=>exact ha pins s1 U H1 Q I1 q1
 | false=>exact hb pins s1 U H1 Q I1 q1
end
def SqL (K:Frag) (H:Hp) (a:Addr) (xs:List V):Prop:=
 Rd H a (.lst xs) \/
  ∃(o:Obj) (its:Array Value) (n:Nat),K.lookup a=some o/\o.cls=.type "list"/\o.dict=none/\o.data=.seq its n/\its.size<=sizeLine/\Vals xs its.toList
def SqT (K:Frag) (H:Hp) (a:Addr) (xs:List V):Prop:=
 Rd H a (.tup xs) \/
  ∃(o:Obj) (its:Array Value) (n:Nat),K.lookup a=some o/\o.cls=.type "tuple"/\o.data=.seq its n/\its.size<=sizeLine/\Vals xs its.toList
noncomputable def Yv:Value->Option V
 | .none=>some .non
 | .bool b=>some (.bl b)
 | .int i _=>some (.int i)
 | .str x _=>some (.str x)
 | .bytes b _=>some (.byt b)
 | .float b _=>some (.flt b)
 | .ref a=>some (.ref a)
 | .type n=>some (.ty n)
 | _=>none
theorem RelV.abs (r:RelV x u):Yv u=some x:=by
 cases x with
 | non=>cases r;rfl
 | bl _=>cases r;rfl
 | int _=>obtain ⟨t,rfl⟩:=r;rfl
 | str _=>obtain ⟨t,rfl⟩:=r;rfl
 | byt _=>obtain ⟨t,rfl⟩:=r;rfl
 | flt _=>obtain ⟨t,rfl⟩:=r;rfl
 | ref _=>cases r;rfl
 | ty _=>cases r;rfl
theorem RelV.inj (r:RelV x u) (q:RelV y u):x=y:=Option.some.inj (r.abs.symm.trans q.abs)
theorem Vals.inj:∀{xs ys:List V} {us:List Value},Vals xs us->Vals ys us->xs=ys
 | _,_,_,.nil,.nil=>rfl
 | _,_,_,.cons r t,.cons r' t'=>by rw [r.inj r',Vals.inj t t']
section
variable {X:Cx} {pins:List (Addr×Obj)} {U:St} {H:Hp} {s:Shared} {a:Addr} {xs ys:List V}
theorem SqL.of {K:Frag} (h:H a=some (.lst xs)):SqL K H a xs:=.inl (.inl h)
theorem SqT.of {K:Frag} (h:H a=some (.tup xs)):SqT K H a xs:=.inl (.inl h)
theorem Inv.list (I:Inv X pins U H s) (h:SqL X.K H a xs):∃its:List Value,Vals xs its/\PlainL s.heap a its.toArray/\xs.length<=sizeLine:=by
 rcases h with h | ⟨o,its,n,hk,hc,hd,hs,hz,r⟩
 . obtain ⟨z,its,n,r,e⟩:=h.ok I.hok;exact ⟨its,r,⟨_,n,e,rfl,rfl,rfl⟩,z⟩
 . refine ⟨its.toList,r,⟨o,n,I.kIn a o hk,hc,hd,by simpa using hs⟩,?_⟩;have e:=r.length;simp only [Array.length_toList] at e
   lia
theorem Inv.tuple (I:Inv X pins U H s) (h:SqT X.K H a xs):∃its:List Value,Vals xs its/\IsTup s.heap a its.toArray/\xs.length<=sizeLine:=by
 rcases h with h | ⟨o,its,n,hk,hc,hs,hz,r⟩
 . obtain ⟨z,its,r,p⟩:=h.ok I.hok;exact ⟨its,r,p.tup,z⟩
 . refine ⟨its.toList,r,⟨o,I.kIn a o hk,hc,n,by simpa using hs⟩,?_⟩;have e:=r.length;simp only [Array.length_toList] at e
   lia
theorem Inv.list_inj (I:Inv X pins U H s) (h:SqL X.K H a xs) (h':SqL X.K H a ys):xs=ys:=by
 obtain ⟨its,r,⟨o,n,e,_,_,d⟩,_⟩:=I.list h;obtain ⟨its',r',⟨o',n',e',_,_,d'⟩,_⟩:=I.list h';rw [e] at e';cases e';rw [d] at d';injection d' with d1 _;have:its=its':=by simpa using congrArg Array.toList d1
 subst this;exact r.inj r'
theorem Inv.tuple_inj (I:Inv X pins U H s) (h:SqT X.K H a xs) (h':SqT X.K H a ys):xs=ys:=by
 obtain ⟨its,r,⟨o,e,_,n,d⟩,_⟩:=I.tuple h;obtain ⟨its',r',⟨o',e',_,n',d'⟩,_⟩:=I.tuple h';rw [e] at e';cases e';rw [d] at d';injection d' with d1 _;have:its=its':=by simpa using congrArg Array.toList d1
 subst this;exact r.inj r'
end
abbrev Cx.wish (X:Cx) (E:Value->Shared->Prop):Cx:={ X with xe:=E }
abbrev Cx.nox (X:Cx):Cx:=X.wish fun _ _=>False
theorem Cx.Ok.wish {X:Cx} (ok:X.Ok) (E:Value->Shared->Prop):(X.wish E).Ok:=
 ⟨ok.mod,ok.kind,ok.glob,ok.blt,ok.above,ok.inj,ok.has,ok.cab,ok.hd,ok.frames,ok.stk,ok.exf,ok.bs,ok.bsz,ok.noex,ok.exfs,ok.funs,ok.frf⟩
theorem Cx.Ok.unwish {X:Cx} {E:Value->Shared->Prop} (ok:(X.wish E).Ok):X.Ok:=
 ⟨ok.mod,ok.kind,ok.glob,ok.blt,ok.above,ok.inj,ok.has,ok.cab,ok.hd,ok.frames,ok.stk,ok.exf,ok.bs,ok.bsz,ok.noex,ok.exfs,ok.funs,ok.frf⟩
section
variable {X:Cx} {pins:List (Addr×Obj)} {U:St} {H:Hp} {s:Shared} {E:Value->Shared->Prop}
theorem Inv.wish (I:Inv X pins U H s) (E:Value->Shared->Prop):Inv (X.wish E) pins U H s:=⟨I.ok.wish E,I.os,I.bare,I.base,I.loc,I.cell,I.free,I.freeC,I.pin,I.hok,I.len⟩
theorem Inv.unwish (I:Inv (X.wish E) pins U H s):Inv X pins U H s:=⟨I.ok.unwish,I.os,I.bare,I.base,I.loc,I.cell,I.free,I.freeC,I.pin,I.hok,I.len⟩
theorem SP.unwish (h:SP (X.wish E) pins D f s'):SP X pins D f s':=by
 cases f with
 | next=>obtain ⟨σ',H',I,q⟩:=h;exact ⟨σ',H',I.unwish,q⟩
 | brk=>obtain ⟨σ',H',I,q⟩:=h;exact ⟨σ',H',I.unwish,q⟩
 | cont=>obtain ⟨σ',H',I,q⟩:=h;exact ⟨σ',H',I.unwish,q⟩
 | ret u=>obtain ⟨v,σ',H',I,r,q⟩:=h;exact ⟨v,σ',H',I.unwish,r,q⟩
theorem PE.nox (h:PE X.nox e t):PE X e t:=fun pins s U H Q I hw=>
 wpAny_mono (h pins s U H Q (I.wish _) hw) (fun _ _ ⟨v,H',I',r,q⟩=>⟨v,H',I'.unwish,r,q⟩) fun _ _ z=>False.elim z
theorem PT.nox (h:PT X.nox e t):PT X e t:=fun pins s U H Q I hw=>
 wpAny_mono (h pins s U H Q (I.wish _) hw) (fun _ _ ⟨H',I',q⟩=>⟨H',I'.unwish,q⟩) fun _ _ z=>False.elim z
theorem PSs.nox {st:List Stmt} {t:TS} (h:PSs X.nox st t):PSs X st t:=fun pins s U H D I hw=>
 wpAny_mono (h pins s U H D (I.wish _) hw) (fun _ _ q=>q.unwish) fun _ _ z=>False.elim z
end
section
variable {X:Cx} {st:Stmt} {rest:List Stmt} {t u:TS} {e:Expr} {te:TE} {pos:Pos}
noncomputable def Pb:TS:=fun D U H=>D.nx U H
noncomputable def Fu (t u:TS):TS:=fun D U H=>t { D with nx:=u D } U H
theorem pss_nil:PSs X [] Pb:=fun _ _ U H _ I h=>wpAny_execs_nil ⟨U,H,I,h⟩
theorem Ar (h1:PS X st t) (h2:PSs X rest u):PSs X (st::rest) (Fu t u):=by
 intro pins s U H D I h;refine wpAny_execs_cons (thn (h1 pins s U H { D with nx:=u D } I h) fun f s1 q=>?_);cases f with
 | next=>
  obtain ⟨σ',H',I',q⟩:=q
  exact h2 pins s1 σ' H' D I' q
 | ret v=>exact q
 | brk=>exact q
 | cont=>exact q
theorem Sw (h1:PS X st t):PSs X [st] t:=by
 intro pins s U H D I h;refine wpAny_execs_cons (thn (h1 pins s U H D I h) fun f s1 q=>?_);cases f with
 | next=>exact wpAny_execs_nil q
 | ret v=>exact q
 | brk=>exact q
 | cont=>exact q
theorem Inv.quiet (I:Inv X pins U H s):interactive X.env=false:=by simp [interactive,I.ok.kind]
noncomputable def E7 (te:TE):TS:=fun D U H=>te U H fun _ H1=>D.nx U H1
theorem Am (he:PE X e te) (hs:swapsWith e none pos.line X.env=pure false:=by rfl):PS X (.Expr e pos) (E7 te):=by intro pins s U H D I h;exact wpAny_Expr_any (thn (he pins s U H _ I h) fun v s1 ⟨x,H1,I1,r1,q1⟩=>⟨U,H1,I1,q1⟩) I.quiet hs
noncomputable def Ft (te:TE):TS:=fun D U H=>te U H D.rt
theorem Qw (he:PE X e te):PS X (.Return (some e) pos) (Ft te):=by intro pins s U H D I h;exact wpAny_Return_some (thn (he pins s U H _ I h) fun v s1 ⟨x,H1,I1,r1,q1⟩=>⟨x,U,H1,I1,r1,q1⟩)
noncomputable def Yu (c:TT) (t u:TS):TS:=fun D U H=>c U H fun b H1=>if b=true then t D U H1 else u D U H1
theorem Pa (hc:PT X c tc) (ha:PSs X a t) (hb:PSs X b u):PS X (.If c a b pos) (Yu tc t u):=by
 intro pins s U H D I h;refine wpAny_If (thn (hc pins s U H _ I h) fun d s1 ⟨H1,I1,q1⟩=>?_);cases d with
 | true=>exact ha pins s1 U H1 D I1 q1
 | false=>exact hb pins s1 U H1 D I1 q1
end
abbrev TG:=V->St->Hp->(St->Hp->Prop)->Prop
abbrev TGs:=List V->St->Hp->(St->Hp->Prop)->Prop
def PG (X:Cx) (target:Expr) (t:TG):Prop:=
 ∀(pins:List (Addr×Obj)) (s:Shared) (U:St) (H:Hp) (v:V) (u:Value) (Q:St->Hp->Prop),Inv X pins U H s->RelV v u->t v U H Q ->
  wpAny (model X.prog X.w) X.A (assign target X.env u) (fun _ s'=>∃σ' H',Inv X pins σ' H' s'/\Q σ' H') X.xe s
def PGs (X:Cx) (ts:List Expr) (t:TGs):Prop:=
 ∀(pins:List (Addr×Obj)) (s:Shared) (U:St) (H:Hp) (vs:List V) (us:List Value) (Q:St->Hp->Prop),Inv X pins U H s->Vals vs us->t vs U H Q ->
  wpAny (model X.prog X.w) X.A (assignInOrder ((assignEach ts X.env).map (·.2)) us) (fun _ s'=>∃σ' H',Inv X pins σ' H' s'/\Q σ' H') X.xe s
section
variable {X:Cx} {pos:Pos}
noncomputable def x5 (i:Nat):TG:=fun v U H Q=>Q (U.set i (some v)) H
theorem Dv (hN:X.N.Nodup) (hi:X.N[i]?=some x) (hx:Loc X.env.scope x) (hf:X.fn x=true\/X.env.scope.names.lookup x=some .local):PG X (.Name x pos) (x5 i):=by intro pins s U H v u Q I r h;exact wpAny_assign_Name (Ec I hN hi hx r (fun s' I'=>⟨_,H,I',h⟩) hf)
noncomputable def Fs:TGs:=fun vs U H Q=>vs=[]/\Q U H
noncomputable def Z1 (t:TG) (u:TGs):TGs:=fun vs U H Q=>∃v r,vs=v::r/\t v U H fun σ' H'=>u r σ' H' Q
theorem pgs_nil:PGs X [] Fs:=by intro pins s U H vs us Q I r h;obtain ⟨e,h⟩:=h;subst e;cases r;exact assignInOrder_nil ⟨U,H,I,h⟩
theorem Ku (h1:PG X e t) (h2:PGs X es u)
  (hs:(assignEach (e::es) X.env).map (·.2)=assign e X.env::(assignEach es X.env).map (·.2):=by rfl):PGs X (e::es) (Z1 t u):=by
 intro pins s U H vs us Q I r h
 obtain ⟨v,vr,e1,h⟩:=h
 subst e1
 cases r with
 | cons r rr=>
  rw [hs]
  refine assignInOrder_cons (thn (h1 pins s U H _ _ _ I r h) fun _ s1 ⟨σ1,H1,I1,q1⟩=>?_)
  exact h2 pins s1 σ1 H1 _ _ Q I1 rr q1
noncomputable def Fq (K:Frag) (n:Nat) (t:TGs):TG:=fun v U H Q=>∃a xs,v=.ref a/\SqT K H a xs/\xs.length=n/\t xs U H Q
theorem Qv (hc:X.calm=true) (h:PGs X es t)
  (hn:(assignEach es X.env).length=n:=by rfl) (hst:(assignEach es X.env).findIdx? (·.1)=none:=by rfl):PG X (.Tuple es k pos) (Fq X.K n t):=by
 intro pins s U H v u Q I r hw
 obtain ⟨a,xs,e1,hq,hl,hw⟩:=hw
 subst e1
 cases r
 obtain ⟨its,rv,ht,hz⟩:=I.tuple hq
 refine assign_Tuple_tuple (I.ok.hd hc) ht (by simp [hn,<-hl,rv.length]) hst fun h' hx=>?_
 have I1:Inv X pins U H { s with heap:=h' }:=I.kept (t':=s.toks) fun b o e=>hx b o (Nat.ne_of_lt (π e)) e
 exact h pins _ U H xs _ Q I1 (by simpa using rv) hw
noncomputable def E5 (te:TE) (g:TG):TS:=fun D U H=>te U H fun x H1=>g x U H1 D.nx
theorem kU (he:PE X e te) (hg:PG X tg g) (hs:swapsWithSole [tg] e pos.line X.env=pure false:=by rfl) (hw:swappedStores [tg] e X.env=pure none:=by rfl)
  (h1:(assignEach [tg] X.env).map (·.2)=[assign tg X.env]:=by rfl):PS X (.Assign [tg] e pos) (E5 te g):=by
 intro pins s U H D I h
 refine wpAny_Assign_stores (thn (he pins s U H _ I h) fun v s1 ⟨x,H1,I1,r1,q1⟩=>?_) hs hw
 rw [h1]
 exact thn (hg pins s1 U H1 x v _ I1 r1 q1) fun _ s2 q=>q
theorem Jc (hN:X.N.Nodup) (hi:X.N[i]?=some x) (hx:Loc X.env.scope x) (he:PE X e te) (hs:swapsWith e (some (.Name x pos')) pos.line X.env=pure false:=by rfl) (hf:X.fn x=true\/X.env.scope.names.lookup x=some .local) :
  PS X (.Assign [.Name x pos'] e pos) (E5 te (x5 i)):=by
 intro pins s U H D I h
 refine wpAny_Assign_Name (thn (he pins s U H _ I h) fun v s1 ⟨y,H1,I1,r1,q1⟩=>?_) hs
 exact Ec I1 hN hi hx r1 (fun s2 I2=>⟨_,H1,I2,q1⟩) hf
end
section
variable {X:Cx} {pos:Pos}
noncomputable def Qu (c:TT) (tb:TS):TS:=fun D U H=>∃W:Nat->St->Hp->Prop,(∃m,W m U H)/\∀m U H,W m U H ->
 c U H fun b H1=>if b=true then ∃N:St->Hp->Prop,(∀σ' H',N σ' H'->∃m',m'<m/\W m' σ' H')/\tb { D with nx:=N,ct:=N,bk:=D.nx } U H1 else D.nx U H1
theorem xK (hp:PassesOwn (model X.prog X.w) X.A X.env X.xe) (hc:PT X c tc) (hb:PSs X body tb):PS X (.While c body [] pos) (Qu tc tb):=by
 intro pins s U H D I h;obtain ⟨W,⟨m0,w0⟩,turn⟩:=h;refine wpAny_While (codeAny_whileLoop (fun n s'=>∃σ' H',Inv X pins σ' H' s'/\W n σ' H') ?_ m0 ⟨U,H,I,w0⟩);rintro n s1 ⟨σ1,H1,I1,w1⟩;refine wpAny_passesOwn hp (thn (hc pins s1 σ1 H1 _ I1 (turn n σ1 H1 w1)) fun b s2 ⟨H2,I2,q2⟩=>?_);cases b with
 | true=>
  obtain ⟨N,hN,q2⟩:=q2
  rw [ξ rfl]
  refine wpAny_passesOwn hp (thn (hb pins s2 σ1 H2 _ I2 q2) fun f s3 q3=>?_)
  cases f with
  | next=>
   obtain ⟨σ3,H3,I3,n3⟩:=q3
   obtain ⟨m',hm,w3⟩:=hN σ3 H3 n3
   exact ⟨m',hm,σ3,H3,I3,w3⟩
  | cont=>
   obtain ⟨σ3,H3,I3,n3⟩:=q3
   obtain ⟨m',hm,w3⟩:=hN σ3 H3 n3
   exact ⟨m',hm,σ3,H3,I3,w3⟩
  | brk=>exact q3
  | ret v=>exact q3
 | false=>
  rw [ψ η]
  exact wpAny_execs_nil ⟨σ1,H2,I2,q2⟩
end
structure It where
 go:Nat->Hp->Prop
 yld:Nat->Hp->V->Hp->Prop
 stop:Nat->Hp->Prop
def n9 (X:Cx) (pins:List (Addr×Obj)) (H:Hp) (b:Addr):Prop:=
 H b=none/\b≠X.env.locals/\b∉X.fs/\(b∈X.ex\/X.s₀.heap.objs.size<=b)/\(∀x c,X.env.cells.lookup x=some c->c≠b)/\∀p∈X.pn++pins,p.1≠b
theorem Inv.fpOk (I:Inv X pins U H s) (hb:s.heap.objs.size<=b) (hn:H' b=none):n9 X pins H' b:=by
 refine ⟨hn,Nat.ne_of_gt (Nat.lt_of_lt_of_le I.lt hb),I.nofs hb,.inr (Nat.le_trans I.sz hb),fun x c e z=>?_,fun p hp z=>?_⟩
 . obtain ⟨v,q⟩:=I.cell x c e;exact absurd (Nat.lt_of_lt_of_le q.lt (by rw [z];exact hb)) (χ _)
 . exact absurd (Nat.lt_of_lt_of_le (π (I.pin p hp).1) (by rw [z];exact hb)) (χ _)
structure Turn (P:Program) (w:World) (K:Frag) (tg:Expr) (J:It) (fp:List Addr) (it:Addr) (tn:Nat->Heap->Prop):Prop where
 mem:it∈fp
 obj:∀i h,tn i h->∀b∈fp,∃o,h.get? b=some o/\∀v,o.data≠.cell v
 keep:∀i h h',tn i h->(∀b∈fp,∀o,h.get? b=some o->h'.get? b=some o)->tn i h'
 item:∀(X:Cx),X.prog=P->X.w=w->X.K=K->X.calm=true->∀(i:Nat) (pins:List (Addr×Obj)) (s:Shared) (U:St) (H:Hp) (E:Value->Shared->Prop),Inv X pins U H s->(∀b∈fp,n9 X pins H b)->tn i s.heap->J.go i H ->
  wpAny (model P w) X.A (pyNext (.ref it)) (fun r s1=>∃u,r=some u /\
   wpAny (model P w) X.A (letOwnedTupleGo tg (.ref it) u) (fun _ s2=>∃x H',Inv X pins U H' s2/\RelV x u/\J.yld i H x H'/\tn (i+1) s2.heap/\∀b∈fp,H' b=none) E s1) E s
 done:∀(X:Cx),X.prog=P->X.w=w->X.K=K->X.calm=true->∀(i:Nat) (pins:List (Addr×Obj)) (s:Shared) (U:St) (H:Hp) (E:Value->Shared->Prop),Inv X pins U H s->(∀b∈fp,n9 X pins H b)->tn i s.heap->J.stop i H ->
  wpAny (model P w) X.A (pyNext (.ref it)) (fun r s1=>r=none/\Inv X pins U H s1) E s
 self:∀(A:Around) (i:Nat) (s:Shared) (Q:Value->Shared->Prop) (E:Value->Shared->Prop),tn i s.heap->Q (.ref it) s->wpAny (model P w) A (pyIter (.ref it)) Q E s
abbrev TI:=St->Hp->(It->Hp->Prop)->Prop
def PIE (X:Cx) (pins:List (Addr×Obj)) (U:St) (tg:Expr) (R:It->Hp->Prop) (itv:Value) (s2:Shared):Prop:=
 ∃(it:Addr) (fp:List Addr) (tn:Nat->Heap->Prop) (J:It) (H':Hp),itv=.ref it/\Inv X pins U H' s2/\Turn X.prog X.w X.K tg J fp it tn/\tn 0 s2.heap/\(∀b∈fp,n9 X pins H' b)/\R J H'
def PI (X:Cx) (tg iter:Expr) (wi:TI):Prop:=
 ∀(pins:List (Addr×Obj)) (s:Shared) (U:St) (H:Hp) (R:It->Hp->Prop),Inv X pins U H s->wi U H R ->
  wpAny (model X.prog X.w) X.A (eval iter X.env) (fun v s1=>wpAny (model X.prog X.w) X.A (pyIter v) (PIE X pins U tg R) X.xe s1) X.xe s
theorem Hd (ho:s.heap.get? it=some o) (hc:o.cls=.type n) (hd:o.data=.fields vs)
  (hn:["enumerate","zip","dict_itemiterator","dict_reverseitemiterator","odict_iterator","itertools.zip_longest","itertools.pairwise"].contains n=false) (hQ:Q () s):wpAny M A (letOwnedTupleGo tg (.ref it) u) Q E s:=by
 unfold letOwnedTupleGo
 cases tg<;>first
  | exact ω hQ
  | (cases u<;>first
   | exact ω hQ
   | (refine δ (wpAny_load ho ?_)
      rw [hc,hd]
      show wpAny M A (if (["enumerate","zip","dict_itemiterator","dict_reverseitemiterator","odict_iterator","itertools.zip_longest","itertools.pairwise"].contains n&&vs[0]?==some (rawInt _))=true then _ else _) Q E s
      rw [ψ (by intro h;rw [hn,Bool.false_and] at h;cases h)]
      exact ω hQ))
noncomputable def Itl (K:Frag) (a:Addr):It:=
 ⟨fun i H=>∃xs x,SqL K H a xs/\xs[i]?=some x,fun i H x H'=>H'=H/\∀xs,SqL K H a xs->xs[i]?=some x,fun i H=>∃xs,SqL K H a xs/\xs.length<=i⟩
noncomputable def Itt (K:Frag) (a:Addr):It:=
 ⟨fun i H=>∃xs x,SqT K H a xs/\xs[i]?=some x,fun i H x H'=>H'=H/\∀xs,SqT K H a xs->xs[i]?=some x,fun i H=>∃xs,SqT K H a xs/\xs.length<=i⟩
noncomputable def Itr (lo:Int) (n:Nat):It:=⟨fun i _=>i<n,fun i H x H'=>H'=H/\x=.int (lo+i),fun i _=>n<=i⟩
theorem yx {P:Program} {w:World} {K:Frag} {tg:Expr} (a it:Addr):Turn P w K tg (Itl K a) [it] it (fun i h=>h.IsListIter it a i) where
 mem:=by simp
 obj:=fun i h st b hb=>by
  have e:b=it:=by simpa using hb
  subst e;obtain ⟨o,e,c,d⟩:=st;exact ⟨o,e,fun v z=>by rw [d] at z;cases z⟩
 keep:=fun i h h' st k=>st.at fun o e=>k it (by simp) o e
 item:=by
  intro X hP hw hK hc i pins s U H E I hf st hg;subst hP hw hK;obtain ⟨xs,x,hq,hx⟩:=hg;obtain ⟨its,rv,p,hz⟩:=I.list hq;obtain ⟨u,hu,ru⟩:=rv.get hx;obtain ⟨f0,f1,f2,f3,f4,f5⟩:=hf it (by simp);refine wpAny_pyNext_list_item st p.isList (x:=u) (by simpa using hu) fun h' st' sb=>?_
  have I1:Inv X pins U H { s with heap:=h' }:=I.turned (t':=s.toks) (fun b o hb e=>(sb.2 b hb).trans e) f0 f1 f3 f4 f5;obtain ⟨o,e,c,d⟩:=id st';exact ⟨u,rfl,Hd (s:={ s with heap:=h' }) e c d (by decide) ⟨x,H,I1,ru,⟨rfl,fun ys hy=>by rw [I.list_inj hy hq];exact hx⟩,st',fun b hb=>(hf b hb).1⟩⟩
 done:=by intro X hP hw hK hc i pins s U H E I hf st hg;subst hP hw hK;obtain ⟨xs,hq,hx⟩:=hg;obtain ⟨its,rv,p,hz⟩:=I.list hq;obtain ⟨f0,f1,f2,f3,f4,f5⟩:=hf it (by simp);have hl:=rv.length;exact wpAny_pyNext_list_end (I.ok.hd hc) st p.isList (by simp;lia) fun h' eb=>⟨rfl,I.turned (t':=s.toks) (fun b o hb e=>eb b o hb e) f0 f1 f3 f4 f5⟩
 self:=fun _ _ _ _ _ st h=>wpAny_pyIter_listiter st h
theorem yX {P:Program} {w:World} {K:Frag} {tg:Expr} (a it:Addr):Turn P w K tg (Itt K a) [it] it (fun i h=>h.IsTupleIter it a i) where
 mem:=by simp
 obj:=fun i h st b hb=>by
  have e:b=it:=by simpa using hb
  subst e;obtain ⟨o,e,c,d⟩:=st;exact ⟨o,e,fun v z=>by rw [d] at z;cases z⟩
 keep:=fun i h h' st k=>st.at fun o e=>k it (by simp) o e
 item:=by
  intro X hP hw hK hc i pins s U H E I hf st hg;subst hP hw hK;obtain ⟨xs,x,hq,hx⟩:=hg;obtain ⟨its,rv,p,hz⟩:=I.tuple hq;obtain ⟨u,hu,ru⟩:=rv.get hx;obtain ⟨f0,f1,f2,f3,f4,f5⟩:=hf it (by simp);refine wpAny_pyNext_tuple_item st (show s.heap.IsTuple a its.toArray from p) (x:=u) (by simpa using hu) fun h' st' sb=>?_
  have I1:Inv X pins U H { s with heap:=h' }:=I.turned (t':=s.toks) (fun b o hb e=>(sb.2 b hb).trans e) f0 f1 f3 f4 f5;obtain ⟨o,e,c,d⟩:=id st';exact ⟨u,rfl,Hd (s:={ s with heap:=h' }) e c d (by decide) ⟨x,H,I1,ru,⟨rfl,fun ys hy=>by rw [I.tuple_inj hy hq];exact hx⟩,st',fun b hb=>(hf b hb).1⟩⟩
 done:=by intro X hP hw hK hc i pins s U H E I hf st hg;subst hP hw hK;obtain ⟨xs,hq,hx⟩:=hg;obtain ⟨its,rv,p,hz⟩:=I.tuple hq;obtain ⟨f0,f1,f2,f3,f4,f5⟩:=hf it (by simp);have hl:=rv.length;exact wpAny_pyNext_tuple_end (I.ok.hd hc) st (show s.heap.IsTuple a its.toArray from p) (by simp;lia) fun h' eb=>⟨rfl,I.turned (t':=s.toks) (fun b o hb e=>eb b o hb e) f0 f1 f3 f4 f5⟩
 self:=fun _ _ _ _ _ st h=>wpAny_pyIter_tupleiter st h
theorem yW {P:Program} {w:World} {K:Frag} {tg:Expr} (it:Addr) (lo:Int) (n:Nat):Turn P w K tg (Itr lo n) [it] it (fun i h=>IsRangeIter h it (lo+(i:Nat) * 1) ((n:Int) - (i:Nat)) 1) where
 mem:=by simp
 obj:=fun i h st b hb=>by
  have e:b=it:=by simpa using hb
  subst e;exact ⟨_,st,fun v z=>by have z':Data.fields _=Data.cell v:=z;cases z'⟩
 keep:=fun i h h' st k=>k it (by simp) _ st
 item:=by
  intro X hP hw hK hc i pins s U H E I hf st hg;subst hP hw hK;obtain ⟨f0,f1,f2,f3,f4,f5⟩:=hf it (by simp);have W:=Walks.range (prog:=X.prog) (w:=X.w) (I.ok.hd hc) it lo 1 n;refine W.item i s _ _ hg st fun v h' tk hv st' kk=>?_
  obtain ⟨t,rfl⟩:=hv;have I1:Inv X pins U H { s with heap:=h',toks:=tk }:=I.turned (fun b o hb e=>kk b o (by simpa using hb) e) f0 f1 f3 f4 f5;refine ⟨_,rfl,Hd (s:={ s with heap:=h',toks:=tk }) (n:="range_iterator") st' rfl rfl (by decide) ⟨.int (lo+i),H,I1,⟨t,?_⟩,⟨rfl,rfl⟩,st',fun b hb=>(hf b hb).1⟩⟩;rw [Int.mul_one]
 done:=by intro X hP hw hK hc i pins s U H E I hf st hg;subst hP hw hK;obtain ⟨f0,f1,f2,f3,f4,f5⟩:=hf it (by simp);exact wpAny_pyNext_range_end (I.ok.hd hc) st (by have:n<=i:=hg;lia) fun h' eb=>⟨rfl,I.turned (t':=s.toks) (fun b o hb e=>eb b o hb e) f0 f1 f3 f4 f5⟩
 self:=fun _ _ _ _ _ st h=>wpAny_pyIter_rangeiter st h
section
variable {X:Cx} {tg:Expr}
theorem xJ {pins:List (Addr×Obj)} {U:St} {H:Hp} {s:Shared} {R:It->Hp->Prop} {E:Value->Shared->Prop} {lo hi:Int} {t u v:Tok} {tk:Nat} (I:Inv X pins U H s) (h1:-(2 ^ 62)<=lo) (h2:lo<2 ^ 62) (h3:-(2 ^ 62)<=hi) (h4:hi<2 ^ 62)
  (q:R (Itr lo (hi - lo).toNat) H):wpAny (model X.prog X.w) X.A (pyIter (.ref s.heap.objs.size)) (PIE X pins U tg R) E { s with heap:=s.heap.push { cls:=.type "range",data:=.fields #[.int lo t,.int hi u,.int 1 v] },toks:=tk }:=by
 refine wpAny_pyIter_range (IsRange.new ..) (small_one h1 h2 h3 h4) ?_
 have I1:Inv X pins U H { s with heap:=s.heap.push { cls:=.type "range",data:=.fields #[.int lo t,.int hi u,.int 1 v] },toks:=tk }:=I.kept fun b o e=>τ _ e
 refine ⟨(s.heap.push { cls:=.type "range",data:=.fields #[.int lo t,.int hi u,.int 1 v] }).objs.size,[(s.heap.push { cls:=.type "range",data:=.fields #[.int lo t,.int hi u,.int 1 v] }).objs.size],_,_,H,rfl,
  I1.kept (t':=tk) fun b o e=>τ _ e,yW _ lo (hi - lo).toNat,?_,fun b hb=>?_,q⟩
 . have e1:lo+((0:Nat):Int) * 1=lo:=by simp
   have e2:(((hi - lo).toNat:Nat):Int) - ((0:Nat):Int)=Builtin.Range.rangeSize lo hi 1:=by rw [rangeSize_one];split<;>lia
   show IsRangeIter _ _ (lo+((0:Nat):Int) * 1) ((((hi - lo).toNat:Nat):Int) - ((0:Nat):Int)) 1;rw [e1,e2];exact Ψ _ rfl
 . have e:b=(s.heap.push { cls:=.type "range",data:=.fields #[.int lo t,.int hi u,.int 1 v] }).objs.size:=by simpa using hb
   subst e;exact I1.fpOk (ζ _) (I1.hok.fresh (ζ _))
noncomputable def y2t (wi:TI) (g:TG) (tb:TS):TS:=fun D U H=>wi U H fun J H1=>∃W:Nat->Nat->St->Hp->Prop,(∃m,W 0 m U H1)/\∀i m U H,W i m U H ->
 (J.stop i H/\D.nx U H)\/(J.go i H/\∃N:St->Hp->Prop,(∀σ' H',N σ' H'->∃m',m'<m/\W (i+1) m' σ' H')/\∀x H',J.yld i H x H'->g x U H' fun σ2 H2=>tb { D with nx:=N,ct:=N,bk:=D.nx } σ2 H2)
noncomputable def U4 (fp:List Addr) (h:Heap):List (Addr×Obj):=fp.filterMap fun b=>(h.get? b).map fun o=>(b,o)
theorem W0 (hb:b∈fp) (e:h.get? b=some o):(b,o)∈U4 fp h:=List.mem_filterMap.mpr ⟨b,hb,by rw [e];rfl⟩
theorem yw (hp:p∈U4 fp h):p.1∈fp/\h.get? p.1=some p.2:=by
 obtain ⟨b,hb,e⟩:=List.mem_filterMap.mp hp;cases q:h.get? b with
 | none=>rw [q] at e;cases e
 | some o=>
  rw [q] at e
  have e':(b,o)=p:=Option.some.inj e
  subst e'
  exact ⟨hb,q⟩
theorem Inv.pinned (I:Inv X pins U H s) (hf:∀b∈fp,n9 X pins H b) (ho:∀b∈fp,∃o,s.heap.get? b=some o/\∀v,o.data≠.cell v):Inv X (pins++U4 fp s.heap) U H s:=
 I.pins_of fun p hp=>(List.mem_append.mp hp).elim (fun z=>I.pin p (List.mem_append_right _ z)) fun z=>by obtain ⟨hb,e⟩:=yw z;obtain ⟨f0,f1,f2,_⟩:=hf p.1 hb;obtain ⟨o,e',d⟩:=ho p.1 hb;rw [e] at e';cases e';exact ⟨e,f0,f1,f2,d⟩
theorem Inv.unpinned (I:Inv X (pins++pl) U H s):Inv X pins U H s:=I.pins_of fun p hp=>I.pin p (List.mem_append_right _ (List.mem_append_left _ hp))
theorem kT (hp:PassesOwn (model X.prog X.w) X.A X.env X.xe) (hc:X.calm=true) (hi:PI X tg iter wi) (hg:PG X tg g) (hb:PSs X body tb)
  (hs:∀x,foldedSetIterable iter X.env x=pure x:=by intro _;rfl):PS X (.For tg iter body [] pos) (y2t wi g tb):=by
 intro pins s U H D I h
 refine wpAny_For (thn (hi pins s U H _ I h) fun v s1 h1=>thn h1 fun itv s2 h2=>?_) hs
 obtain ⟨it,fp,tn,J,H2,e,I2,T,st2,f2,W,⟨m0,w0⟩,turn⟩:=h2
 subst e
 have stat:∀{H':Hp},(∀b∈fp,H' b=none)->∀b∈fp,n9 X pins H' b:=fun hn b hb=>⟨hn b hb,(f2 b hb).2⟩
 refine codeAny_forLoop_any (fun n s'=>∃i σ' H',Inv X pins σ' H' s'/\tn i s'.heap/\(∀b∈fp,H' b=none)/\W i n σ' H') ?_ m0 ⟨0,U,H2,I2,st2,fun b hb=>(f2 b hb).1,w0⟩
 rintro n s3 ⟨i,σ3,H3,I3,st3,fr3,w3⟩
 rcases turn i n σ3 H3 w3 with ⟨stop,qn⟩ | ⟨go,N,hN,step⟩
 . refine wpAny_passesOwn hp (thn (T.done X rfl rfl rfl hc i pins s3 σ3 H3 X.xe I3 (stat fr3) st3 stop) fun r s4 ⟨hr,I4⟩=>?_);subst hr;exact wpAny_execs_nil ⟨σ3,H3,I4,qn⟩
 . refine wpAny_passesOwn hp (thn (T.item X rfl rfl rfl hc i pins s3 σ3 H3 X.xe I3 (stat fr3) st3 go) fun r s4 ⟨u,hr,h4⟩=>?_);subst hr;refine wpAny_passesOwn hp (thn h4 fun _ s5 ⟨x,H5,I5,r5,y5,st5,fr5⟩=>?_);have I5':=I5.pinned (stat fr5) (T.obj _ _ st5);refine wpAny_passesOwn hp (thn (hg _ s5 σ3 H5 x u _ I5' r5 (step x H5 y5)) fun _ s6 ⟨σ6,H6,I6,q6⟩=>?_);refine wpAny_passesOwn hp (thn (hb _ s6 σ6 H6 _ I6 q6) fun f s7 q7=>?_);have again:∀{σ7:St} {H7:Hp},Inv X (pins++U4 fp s5.heap) σ7 H7 s7->N σ7 H7->∃m,m<n/\∃i σ' H',Inv X pins σ' H' s7/\tn i s7.heap/\(∀b∈fp,H' b=none)/\W i m σ' H':=fun {σ7 H7} I7 n7=>by obtain ⟨m',hm,w7⟩:=hN σ7 H7 n7;refine ⟨m',hm,i+1,σ7,H7,I7.unpinned,T.keep _ _ _ st5 fun b hb o e=>(I7.pin (b,o) (List.mem_append_right _ (List.mem_append_right _ (W0 hb e)))).1,fun b hb=>?_,w7⟩;obtain ⟨o,e,d⟩:=T.obj _ _ st5 b hb;exact (I7.pin (b,o) (List.mem_append_right _ (List.mem_append_right _ (W0 hb e)))).2.1
   cases f with
   | next=>obtain ⟨σ7,H7,I7,n7⟩:=q7;exact again I7 n7
   | cont=>obtain ⟨σ7,H7,I7,n7⟩:=q7;exact again I7 n7
   | brk=>obtain ⟨σ7,H7,I7,q7⟩:=q7;exact ⟨σ7,H7,I7.unpinned,q7⟩
   | ret v=>obtain ⟨x7,σ7,H7,I7,r7,q7⟩:=q7;exact ⟨x7,σ7,H7,I7.unpinned,r7,q7⟩
end
abbrev R2:=V->V->Hp->VK->Prop
def OpR (X:Cx) (f:Value->Value->Sem Value) (r:R2):Prop:=
 ∀(pins:List (Addr×Obj)) (s:Shared) (U:St) (H:Hp) (x y:V) (v u:Value) (Q:VK),Inv X pins U H s->RelV x v->RelV y u->r x y H Q ->
  wpAny (model X.prog X.w) X.A (f v u) (EP X pins U Q) X.xe s
def UnR (X:Cx) (f:Value->Sem Value) (r:V->Hp->VK->Prop):Prop:=
 ∀(pins:List (Addr×Obj)) (s:Shared) (U:St) (H:Hp) (x:V) (v:Value) (Q:VK),Inv X pins U H s->RelV x v->r x H Q ->
  wpAny (model X.prog X.w) X.A (f v) (EP X pins U Q) X.xe s
def CallR (X:Cx) (f:Value) (r:List V->Hp->VK->Prop):Prop:=
 ∀(pins:List (Addr×Obj)) (s:Shared) (U:St) (H:Hp) (xs:List V) (us:List Value) (Q:VK),Inv X pins U H s->Vals xs us->r xs H Q ->
  wpAny (model X.prog X.w) X.A (call f us) (EP X pins U Q) X.xe s
def y2u (X:Cx) (r:V->Hp->(Bool->Hp->Prop)->Prop):Prop:=
 ∀(pins:List (Addr×Obj)) (s:Shared) (U:St) (H:Hp) (x:V) (v:Value) (Q:Bool->Hp->Prop),Inv X pins U H s->RelV x v->r x H Q ->
  wpAny (model X.prog X.w) X.A (truthy v) (TP X pins U Q) X.xe s
noncomputable def tOp (r:R2) (ta tb:TE):TE:=fun U H Q=>ta U H fun x H1=>tb U H1 fun y H2=>r x y H2 Q
noncomputable def tUn (r:V->Hp->VK->Prop) (ta:TE):TE:=fun U H Q=>ta U H fun x H1=>r x H1 Q
noncomputable def rI (C:Int->Int->Prop) (g:Int->Int->V):R2:=fun x y H Q=>∃i j,x=.int i/\y=.int j/\C i j/\Q (g i j) H
noncomputable def rI0 (g:Int->Int->V):R2:=fun x y H Q=>∃i j,x=.int i/\y=.int j/\Q (g i j) H
def rU (g:Int->V):V->Hp->VK->Prop:=fun x H Q=>∃i,x=.int i/\Q (g i) H
section
variable {X:Cx} {a b:Expr} {ta tb:TE} {pos:Pos}
theorem Fp (ha:PE X a ta) (hb:PE X b tb) {pins:List (Addr×Obj)} {s:Shared} {U:St} {H:Hp} {R:V->V->Hp->Prop} (I:Inv X pins U H s)
  (h:ta U H fun x H1=>tb U H1 fun y H2=>R x y H2) {Q:Value->Shared->Prop} {f:Value->Value->Sem Value}
  (hf:∀v u s2 x y H2,Inv X pins U H2 s2->RelV x v->RelV y u->R x y H2->wpAny (model X.prog X.w) X.A (f v u) Q X.xe s2) :
  wpAny (model X.prog X.w) X.A (eval a X.env) (fun v s₁=>wpAny (model X.prog X.w) X.A (eval b X.env) (fun u s₂=>wpAny (model X.prog X.w) X.A (f v u) Q X.xe s₂) X.xe s₁) X.xe s:=by
 refine thn (ha pins s U H _ I h) fun v s1 ⟨x,H1,I1,r1,q1⟩=>?_
 refine thn (hb pins s1 U H1 _ I1 q1) fun u s2 ⟨y,H2,I2,r2,q2⟩=>?_
 exact hf v u s2 x y H2 I2 r1 r2 q2
theorem jc (ho:OpR X (binaryOp op) r) (ha:PE X a ta) (hb:PE X b tb):PE X (.BinOp a op b pos) (tOp r ta tb):=by intro pins s U H Q I h;exact wpAny_BinOp (Fp ha hb I h fun v u s2 x y H2 I2 rx ry q=>ho pins s2 U H2 x y v u Q I2 rx ry q)
theorem jb (ho:UnR X (unaryOp op) r) (ha:PE X a ta):PE X (.UnaryOp op a pos) (tUn r ta):=by intro pins s U H Q I h;exact UnaryOp_ (thn (ha pins s U H _ I h) fun v s1 ⟨x,H1,I1,r1,q1⟩=>ho pins s1 U H1 x v Q I1 r1 q1)
theorem opI {f:Value->Value->Sem Value} {C:Int->Int->Prop} {g:Int->Int->Int}
  (rule:∀(i j:Int) (t u:Tok) (s:Shared) (Q:Value->Shared->Prop) (E:Value->Shared->Prop),C i j->Q (.int (g i j) s.toks) { s with toks:=s.toks+1 }->wpAny (model X.prog X.w) X.A (f (.int i t) (.int j u)) Q E s) :
  OpR X f (rI C fun i j=>.int (g i j)):=by
 intro pins s U H x y v u Q I rx ry h
 obtain ⟨i,j,rfl,rfl,hc,q⟩:=h
 obtain ⟨t,rfl⟩:=rx
 obtain ⟨t',rfl⟩:=ry
 exact rule i j t t' s _ _ hc ⟨.int (g i j),H,I.tok _,⟨_,rfl⟩,q⟩
theorem Yt {f:Value->Value->Sem Value} {g:Int->Int->Int}
  (rule:∀(i j:Int) (t u:Tok) (s:Shared) (Q:Value->Shared->Prop) (E:Value->Shared->Prop),Q (.int (g i j) s.toks) { s with toks:=s.toks+1 }->wpAny (model X.prog X.w) X.A (f (.int i t) (.int j u)) Q E s) :
  OpR X f (rI0 fun i j=>.int (g i j)):=by
 intro pins s U H x y v u Q I rx ry h
 obtain ⟨i,j,rfl,rfl,q⟩:=h
 obtain ⟨t,rfl⟩:=rx
 obtain ⟨t',rfl⟩:=ry
 exact rule i j t t' s _ _ ⟨.int (g i j),H,I.tok _,⟨_,rfl⟩,q⟩
theorem Ce {f:Value->Value->Sem Value} {g:Int->Int->Bool}
  (rule:∀(i j:Int) (t u:Tok) (s:Shared) (Q:Value->Shared->Prop) (E:Value->Shared->Prop),Q (.bool (g i j)) s->wpAny (model X.prog X.w) X.A (f (.int i t) (.int j u)) Q E s) :
  OpR X f (rI0 fun i j=>.bl (g i j)):=by
 intro pins s U H x y v u Q I rx ry h
 obtain ⟨i,j,rfl,rfl,q⟩:=h
 obtain ⟨t,rfl⟩:=rx
 obtain ⟨t',rfl⟩:=ry
 exact rule i j t t' s _ _ ⟨.bl (g i j),H,I,rfl,q⟩
def O4 (i j:Int):Prop:=0<j/\j<1073741824
def R5 (i j:Int):Prop:=0<=j/\j<=1000000/\i.natAbs<2 ^ 64
def CMul (i j:Int):Prop:=(-(2 ^ 64)<i/\i<2 ^ 64)\/(-(2 ^ 64)<j/\j<2 ^ 64)
theorem CMul.ok (h:CMul i j):IntMulOk i j:=by
 rcases h with ⟨h1,h2⟩ | ⟨h1,h2⟩
 . exact .of_left (intBits_le_64 h1 h2)
 . exact .of_right (intBits_le_64 h1 h2)
theorem op_add:OpR X (binaryOp .Add) (rI0 fun i j=>.int (i+j)):=Yt fun _ _ _ _ _ _ _ q=>add_int q
theorem op_sub:OpR X (binaryOp .Sub) (rI0 fun i j=>.int (i - j)):=Yt fun _ _ _ _ _ _ _ q=>sub_int q
theorem op_mul:OpR X (binaryOp .Mult) (rI CMul fun i j=>.int (i * j)):=opI fun _ _ _ _ _ _ _ hc q=>mul_int q hc.ok
theorem op_fdiv:OpR X (binaryOp .FloorDiv) (rI O4 fun i j=>.int (i / j)):=opI fun i j _ _ _ _ _ hc q=>by have h1:(0:Int)<j:=hc.1;have h2:j<1073741824:=hc.2;exact floordiv_int (by omega) (by rw [Int.fdiv_eq_ediv_of_nonneg i (by omega)];exact q) (.inl (PyProof.noPylong_small (by omega)))
theorem op_mod:OpR X (binaryOp .Mod) (rI (fun _ j=>0<j) fun i j=>.int (i % j)):=opI fun i j _ _ _ _ _ hc q=>by have h1:(0:Int)<j:=hc;exact mod_int' (by lia) (by rw [Int.fmod_eq_emod_of_nonneg i (by lia)];exact q)
theorem op_pow:OpR X (binaryOp .Pow) (rI R5 fun i j=>.int (i ^ j.toNat)):=opI fun _ _ _ _ _ _ _ hc q=>pow_int_small hc.1 hc.2.1 hc.2.2 q
theorem unI {f:Value->Sem Value} {g:Int->Int}
  (rule:∀(i:Int) (t:Tok) (s:Shared) (Q:Value->Shared->Prop) (E:Value->Shared->Prop),Q (.int (g i) s.toks) { s with toks:=s.toks+1 }->wpAny (model X.prog X.w) X.A (f (.int i t)) Q E s) :
  UnR X f (rU fun i=>.int (g i)):=by
 intro pins s U H x v Q I rx h
 obtain ⟨i,rfl,q⟩:=h
 obtain ⟨t,rfl⟩:=rx
 exact rule i t s _ _ ⟨.int (g i),H,I.tok _,⟨_,rfl⟩,q⟩
theorem un_neg:UnR X (unaryOp .USub) (rU fun i=>.int (-i)):=unI fun _ _ _ _ _ q=>neg_int q
end
section
variable {X:Cx} {a b:Expr} {ta tb:TE} {pos:Pos}
theorem op_lt:OpR X (compareOp .Lt) (rI0 fun i j=>.bl (decide (i<j))):=Ce fun _ _ _ _ _ _ _ q=>lt_int q
theorem op_le:OpR X (compareOp .LtE) (rI0 fun i j=>.bl (decide (i<=j))):=Ce fun _ _ _ _ _ _ _ q=>le_int q
theorem op_gt:OpR X (compareOp .Gt) (rI0 fun i j=>.bl (decide (j<i))):=Ce fun _ _ _ _ _ _ _ q=>gt_int q
theorem op_ge:OpR X (compareOp .GtE) (rI0 fun i j=>.bl (decide (j<=i))):=Ce fun _ _ _ _ _ _ _ q=>ge_int q
theorem OpR.or (h:OpR X f r) (h':OpR X f r'):OpR X f (fun x y H Q=>r x y H Q\/r' x y H Q):=by
 intro pins s U H x y v u Q I rx ry q;rcases q with q | q
 . exact h pins s U H x y v u Q I rx ry q
 . exact h' pins s U H x y v u Q I rx ry q
theorem d9 (b:Expr) (h:op≠.In:=by decide) (h2:op≠.NotIn:=by decide):behindInMarks op b=false:=by
 have e1:(op==CmpOp.In)=false:=by cases op<;>first | rfl | exact absurd rfl h
 have e2:(op==CmpOp.NotIn)=false:=by cases op<;>first | rfl | exact absurd rfl h2
 cases b<;>simp [behindInMarks,e1,e2]
theorem vV (ho:OpR X (compareOp op) r) (ha:PE X a ta) (hb:PE X b tb) (hm:behindInMarks op b=false):PE X (.Compare a [op] [b] pos) (tOp r ta tb):=by intro pins s U H Q I h;exact wpAny_Compare1 (Fp ha hb I h fun v u s2 x y H2 I2 rx ry q=>ho pins s2 U H2 x y v u Q I2 rx ry q) hm
def Ys (K:Frag) (x:V) (H:Hp) (k:Bool):Prop:=
 match x with
 | .non=>k=false
 | .bl b=>k=b
 | .int i=>k=(i != 0)
 | .str y=>y.length<=sizeLine/\k=((y.length:Int) != 0)
 | .byt y=>y.size<=sizeLine/\k=((y.size:Int) != 0)
 | .ref p=>(∃xs,SqL K H p xs/\k=!xs.isEmpty)\/(∃xs,SqT K H p xs/\k=!xs.isEmpty)\/∃kvs,H p=some (.dK kvs)/\k=!kvs.isEmpty
 | _=>False
theorem yV (r:KV kvs vs):(!vs.isEmpty)=!kvs.isEmpty:=by cases r<;>rfl
theorem Vz (r:Vals xs its):(!its.toArray.isEmpty)=!xs.isEmpty:=by cases r<;>simp
theorem U0:(sizeLine:Nat)<2 ^ 63:=by rw [sizeLine_eq];decide
theorem Qt:y2u X (fun x H Q=>∃k,Ys X.K x H k/\Q k H):=by
 intro pins s U H x v Q I rx h;obtain ⟨k,e,q⟩:=h;have hl:=U0;have hs:sizeLine=16777216:=sizeLine_eq;cases x with
 | non=>
  cases rx
  have e':k=false:=e
  subst e'
  exact truthy_none ⟨H,I,q⟩
 | bl b=>
  cases rx
  have e':k=b:=e
  subst e'
  exact wpAny_truthy_bool ⟨H,I,q⟩
 | int i=>
  obtain ⟨t,rfl⟩:=rx
  have e':k=(i != 0):=e
  subst e'
  exact PySem.P.truthy_int ⟨H,I,q⟩
 | str y=>
  obtain ⟨t,rfl⟩:=rx
  obtain ⟨hy,e'⟩:y.length<=sizeLine/\k=((y.length:Int) != 0):=e
  subst e'
  exact PySem.P.truthy_str (by lia) ⟨H,I.tok _,q⟩
 | byt y=>
  obtain ⟨t,rfl⟩:=rx
  obtain ⟨hy,e'⟩:y.size<=sizeLine/\k=((y.size:Int) != 0):=e
  subst e'
  exact PySem.W.truthy_bytes (by lia) ⟨H,I.tok _,q⟩
 | ref p=>
  cases rx
  have e':(∃xs,SqL X.K H p xs/\k=!xs.isEmpty)\/(∃xs,SqT X.K H p xs/\k=!xs.isEmpty)\/∃kvs,H p=some (.dK kvs)/\k=!kvs.isEmpty:=e
  rcases e' with ⟨xs,hx,e'⟩ | ⟨xs,hx,e'⟩ | ⟨kvs,hx,e'⟩
  . subst e';obtain ⟨its,r,pl,hz⟩:=I.list hx;have hlen:=r.length;exact wpAny_truthy_list pl.isList (by simp only [List.size_toArray];lia) ⟨H,I.tok _,by rw [Vz r];exact q⟩
  . subst e';obtain ⟨its,r,pl,hz⟩:=I.tuple hx;have hlen:=r.length;exact truthy_tuple pl (by simp only [List.size_toArray];lia) ⟨H,I.tok _,by rw [Vz r];exact q⟩
  . subst e';obtain ⟨hz,hS,vs,r,m⟩:kvs.length<=sizeLine/\(p==sysModules)=false/\∃vs,KV kvs vs/\s.heap.DictOf (E0 X.prog X.w) p vs:=I.hok p _ hx;have hlen:kvs.length=vs.length:=Paired.length r;exact wpAny_truthy_dict hS m (by lia) ⟨H,I.tok _,by rw [yV r];exact q⟩
 | _=>exact (show False from e).elim
theorem x4 (r:Vals [x] us):∃u,us=[u]/\RelV x u:=by
 cases r with
 | cons r1 r2=>cases r2;exact ⟨_,rfl,r1⟩
theorem Ha (r:Vals [x,y] us):∃u w',us=[u,w']/\RelV x u/\RelV y w':=by
 cases r with
 | cons r1 r2=>
  cases r2 with
  | cons r3 r4=>cases r4;exact ⟨_,_,rfl,r1,r3⟩
theorem yu (hc:X.calm=true):CallR X (.builtin "max") (fun xs H Q=>∃i j,xs=[.int i,.int j]/\Q (.int (if j > i then j else i)) H):=by
 intro pins s U H xs us Q I r h;obtain ⟨i,j,rfl,q⟩:=h;obtain ⟨u,w',rfl,⟨t,rfl⟩,⟨t',rfl⟩⟩:=Ha r;refine max_two_ints (I.ok.hd hc) fun h' tk k=>⟨_,H,I.kept k,?_,q⟩
 by_cases hj:j > i
 . rw [ξ hj,ξ hj];exact ⟨_,rfl⟩
 . rw [ψ hj,ψ hj];exact ⟨_,rfl⟩
theorem yt (hc:X.calm=true):CallR X (.builtin "min") (fun xs H Q=>∃i j,xs=[.int i,.int j]/\Q (.int (if j<i then j else i)) H):=by
 intro pins s U H xs us Q I r h;obtain ⟨i,j,rfl,q⟩:=h;obtain ⟨u,w',rfl,⟨t,rfl⟩,⟨t',rfl⟩⟩:=Ha r;refine min_two_ints (I.ok.hd hc) fun h' tk k=>⟨_,H,I.kept k,?_,q⟩
 by_cases hj:j<i
 . rw [ξ hj,ξ hj];exact ⟨_,rfl⟩
 . rw [ψ hj,ψ hj];exact ⟨_,rfl⟩
theorem call_int1:CallR X (.type "int") (fun xs H Q=>(∃i,xs=[.int i]/\Q (.int i) H)\/∃k,xs=[.bl k]/\Q (.int (if k then 1 else 0)) H):=by
 intro pins s U H xs us Q I r h;rcases h with ⟨i,rfl,q⟩ | ⟨k,rfl,q⟩
 . obtain ⟨u,rfl,t,rfl⟩:=x4 r;exact call_int_int ⟨.int i,H,I,⟨_,rfl⟩,q⟩
 . obtain ⟨u,rfl,r1⟩:=x4 r;cases r1;exact call_int_bool ⟨.int (if k then 1 else 0),H,I.tok _,⟨_,rfl⟩,q⟩
end
structure ObjM (h:Heap) (x dx C:Addr) (mA:Str->Option Value):Prop where
 obj:h.get? x=some (PySem.W.instObj C dx)
 ns:h.Ns1 dx mA
 ne:dx≠x
theorem yr {h:Heap} {dx:Addr} {mA:Str->Option Value} (n:h.Ns1 dx mA):∃od,h.get? dx=some od/\∀name,PySem.W.lookIn name od=some (mA name):=by
 obtain ⟨o,es,ep,ho,hd,hk,_,hm⟩:=n;refine ⟨o,ho,fun name=>?_⟩;have e:=hm name;unfold nsFind findBy at e;rw [<-Array.find?_toList] at e;unfold PySem.W.lookIn;rw [hd];dsimp only;split
 . rename_i y q;rw [q] at e;exact congrArg some e
 . rename_i q;rw [q] at e;have a:es.toList.any (·.refKey)=false:=by rw [List.any_eq_false];intro y hy;obtain ⟨z,t,hkey⟩:=hk y (Array.mem_toList_iff.mp hy);simp [DictEntry.refKey,hkey]
   have a':¬es.toList.any (·.refKey)=true:=by rw [a];exact η
   rw [ψ a'];exact congrArg some e
theorem ObjM.look (I:ObjM h x dx C mA):∃od,PySem.W.InstAt h x (PySem.W.instObj C dx) C (some od)/\∀name,PySem.W.lookIn name od=some (mA name):=
 let ⟨od,ho,hl⟩:=yr I.ns
 ⟨od,⟨I.obj,rfl,rfl,ho⟩,hl⟩
theorem RelO.some_of (r:RelO (some v) o):∃u,o=some u/\RelV v u:=by
 cases o with
 | none=>exact (show False from r).elim
 | some u=>exact ⟨u,rfl,r⟩
theorem yq (r:RelV v u):PySem.W.handedIn u=true:=by
 cases v with
 | non=>cases (show u=Value.none from r);rfl
 | bl b=>cases (show u=Value.bool b from r);rfl
 | int i=>obtain ⟨t,e⟩:=(show ∃t,u=Value.int i t from r);cases e;rfl
 | str x=>obtain ⟨t,e⟩:=(show ∃t,u=Value.str x t from r);cases e;rfl
 | byt b=>obtain ⟨t,e⟩:=(show ∃t,u=Value.bytes b t from r);cases e;rfl
 | flt b=>obtain ⟨t,e⟩:=(show ∃t,u=Value.float b t from r);cases e;rfl
 | ref a=>cases (show u=Value.ref a from r);rfl
 | ty n=>cases (show u=Value.type n from r);rfl
section
variable {P:Program} {w:World} {H:Hp} {h:Heap} {a C dx:Addr} {fs:List (Str×V)}
theorem vU (hok:HOk P w H h) (e:H a=some (.ins C dx fs)):∃mA,ObjM h a dx C mA/\(∀f,RelO (fs.lookup f) (mA f))/\PySem.Within mA (fs.map (·.1))/\fs.length<=1000/\H dx=some (.own a):=by obtain ⟨d,z,ne,ob,mA,n,r,q⟩:=(show ObjOk P w H h a (.ins C dx fs) from hok a _ e);exact ⟨mA,⟨ob,n,ne⟩,r,q,z,d⟩
end
structure Cls (K:Frag) (C:Addr):Prop where
 pg:PySem.W.plainGet K C Str.empty=true
 hd:PySem.W.hasDictIn K C=true
 po:PySem.W.plainOver K C=true
 sa:PySem.W.findIn K (.ref C) "__setattr__"=some (some (.builtin "object.__setattr__"))
theorem Cls.get {K:Frag} {C:Addr} (c:Cls K C) (f:Str):PySem.W.plainGet K C f=true:=c.pg
section
variable {s:Shared} {f:Str} {A:Around} {E:Value->Shared->Prop}
theorem vT (hb:attributeBase e f env (eval e env)=eval e env)
  (h:wpAny (model prog w) A (eval e env) (fun o s₁=>wpAny (model prog w) A (getAttr o f true) Q E s₁) E s):wpAny (model prog w) A (eval (.Attribute e f pos) env) Q E s:=
 Attribute_any_ h (by rw [arm_eval_Attribute,hb])
end
section
variable {X:Cx} {pins:List (Addr×Obj)} {U:St} {H:Hp} {s:Shared} {A:Around} {E:Value->Shared->Prop} {Q:Value->Shared->Prop} {c:Value} {b:Bool}
inductive TyOf (K:Frag) (H:Hp):V->Value->Prop where
 | non:TyOf K H .non (.type "NoneType")
 | bl (x:Bool):TyOf K H (.bl x) (.type "bool")
 | int (i:Int):TyOf K H (.int i) (.type "int")
 | str (x:Str):TyOf K H (.str x) (.type "str")
 | flt (x:UInt64):TyOf K H (.flt x) (.type "float")
 | lst {a:Addr} {xs:List V} (e:H a=some (.lst xs)):TyOf K H (.ref a) (.type "list")
 | frz {a:Addr} {o:Obj} {xs:List V} (e:H a=some (.frz o (.lst xs))):TyOf K H (.ref a) (.type "list")
 | tup {a:Addr} {xs:List V} (e:H a=some (.tup xs)):TyOf K H (.ref a) (.type "tuple")
 | dK {a:Addr} {kvs:List (Key×V)} (e:H a=some (.dK kvs)):TyOf K H (.ref a) (.type "dict")
 | dT {a:Addr} {kvs:List (List Key×V)} (e:H a=some (.dT kvs)):TyOf K H (.ref a) (.type "dict")
 | ins {a C dx:Addr} {fs:List (Str×V)} (e:H a=some (.ins C dx fs)) (cl:Cls K C) (ha:PySem.W.findIn K (.ref C) "__class__"=some (some (.builtin "object.__class__")))
  (hn:PySem.W.specialIn K (.builtin "object.__class__") "__get__"=some (some (.builtin "getset_descriptor.__get__"))) (htk:PySem.W.takesIn K (.builtin "object.__class__")=some true)
  (hm:mroIn K C (.type "object")=some true):TyOf K H (.ref a) (.ref C)
theorem K9 (I:Inv X pins U H s) (rx:RelV x u) (ty:TyOf X.K H x t) (e:kitOne X.K t c=some b) (h:∀tk,Q (.bool b) { s with toks:=tk }) :
  wpAny (model X.prog X.w) A (call (.builtin "isinstance") [u,c]) Q E s:=by
 cases ty with
 | non=>cases (show u=Value.none from rx);exact kia_one PySem.W.kitx_none I.kIn True.intro e (fun z=>nomatch z) h
 | bl y=>cases (show u=Value.bool y from rx);exact kia_one PySem.W.kitx_bool I.kIn True.intro e (fun z=>nomatch z) h
 | int i=>obtain ⟨t,q⟩:=(show ∃t,u=Value.int i t from rx);cases q;exact kia_one PySem.W.kitx_int I.kIn True.intro e (fun z=>nomatch z) h
 | str y=>obtain ⟨t,q⟩:=(show ∃t,u=Value.str y t from rx);cases q;exact kia_one PySem.W.kitx_str I.kIn True.intro e (fun z=>nomatch z) h
 | flt y=>obtain ⟨t,q⟩:=(show ∃t,u=Value.float y t from rx);cases q;exact kia_one PySem.W.kitx_float I.kIn True.intro e (fun z=>nomatch z) h
 | @lst a xs ea=>
  cases (show u=Value.ref a from rx)
  obtain ⟨_,_,n,_,h1⟩:=(show ObjOk X.prog X.w H s.heap a (.lst xs) from I.hok a _ ea)
  exact kia_one PySem.W.kitx_list I.kIn ⟨_,h1,rfl⟩ e (fun z=>nomatch z) h
 | @frz a ob xs ea=>
  cases (show u=Value.ref a from rx)
  obtain ⟨_,_,_,n,_,h1⟩:=(show ObjOk X.prog X.w H s.heap a (.frz ob (.lst xs)) from I.hok a _ ea)
  exact kia_one PySem.W.kitx_list I.kIn ⟨_,h1,rfl⟩ e (fun z=>nomatch z) h
 | @tup a xs ea=>
  cases (show u=Value.ref a from rx)
  obtain ⟨_,_,_,p⟩:=(show ObjOk X.prog X.w H s.heap a (.tup xs) from I.hok a _ ea)
  obtain ⟨o,h1,h2,_⟩:=p
  exact kia_one PySem.W.kitx_tuple I.kIn ⟨o,h1,h2⟩ e (fun z=>nomatch z) h
 | @dK a kvs ea=>
  cases (show u=Value.ref a from rx)
  obtain ⟨_,_,vs,_,p⟩:=(show ObjOk X.prog X.w H s.heap a (.dK kvs) from I.hok a _ ea)
  obtain ⟨o,es,ep,h1,h2,_⟩:=p
  exact kia_one PySem.W.kitx_dict I.kIn ⟨o,h1,h2.1⟩ e (fun z=>nomatch z) h
 | @dT a kvs ea=>
  cases (show u=Value.ref a from rx)
  obtain ⟨_,_,xs,_,o,es,ep,h1,h2,_⟩:=(show ObjOk X.prog X.w H s.heap a (.dT kvs) from I.hok a _ ea)
  exact kia_one PySem.W.kitx_dict I.kIn ⟨o,h1,h2.1⟩ e (fun z=>nomatch z) h
 | @ins a C dx fs ea cl ha hn htk hm=>
  cases (show u=Value.ref a from rx)
  obtain ⟨mA,O,_⟩:=vU I.hok ea
  obtain ⟨od,J,_⟩:=O.look
  exact kia_one (PySem.W.kitx_own (cl.get _) cl.hd ha hn htk hm) I.kIn J e (fun z=>nomatch z) h
end
structure Room (k:Nat) (A:Around):Prop where
 hd:A.handled=none
 dp:A.depth+3 * k+5<recursionLimit
 un:A.units+16 * k+200<cLine
theorem Room.mono (r:Room k A) (h:j<=k):Room j A:=⟨r.hd,by have:=r.dp;lia,by have:=r.un;lia⟩
theorem Room.deeper (r:Room (k+1) A) (env:Env):Room k (A.deeper env):=
 ⟨r.hd,by have:=r.dp;show A.depth+1+3 * k+5<_;lia,by have:=r.un;show A.units+3+16 * k+200<_;lia⟩
theorem yU {A:Around} {C:Addr} {us:List Value} {kw:List (Str×Value)}:(A.under (.builtin "type.__call__" ⟨.ref C::us,kw⟩)).depth=A.depth+1:=by first | rfl | simp [Around.under,Code.weight,Code.isCreation,Code.isGuard,Code.isCaller,Code.frames,Code.isFrame,guardIds]
theorem yT {A:Around} {C:Addr} {us:List Value} {kw:List (Str×Value)}:(A.under (.builtin "type.__call__" ⟨.ref C::us,kw⟩)).units=A.units+1:=by first | rfl | simp [Around.under,Code.cUnits,Code.frames,Code.isFrame]
theorem Room.make (r:Room (k+1) A) (C:Addr) (us:List Value) (kw:List (Str×Value)):Room k (A.under (.builtin "type.__call__" ⟨.ref C::us,kw⟩)):=
 ⟨r.hd,by have:=r.dp;rw [yU];omega,by have:=r.un;rw [yT];omega⟩
theorem Room.depth (r:Room k A):A.depth<recursionLimit:=by have:=r.dp;omega
theorem Room.units (r:Room k A):A.units+64<cLine:=by have:=r.un;lia
noncomputable def X7:TA:=fun _ H Q=>Q [] H
noncomputable def G1 (ta:TE) (tr:TA):TA:=fun U H Q=>ta U H fun x H1=>tr U H1 fun xs H2=>Q (x::xs) H2
section
variable {X:Cx} {e:Expr} {es:List Expr} {te:TE} {t:TA} {pos:Pos}
theorem pa_nil:PA X [] X7:=fun _ _ _ _ H Q I h=>Calls.spliced_nil ⟨[],H,I,.nil,h⟩
theorem P6 (ha:PE X e te) (hr:PA X es t) (hs:starEach (e::es) X.env=(false,eval e X.env)::starEach es X.env:=by rfl):PA X (e::es) (G1 te t):=by intro pos pins s U H Q I h;rw [hs];show wpAny _ _ (spliced ((false,eval e X.env)::backTo pos (starEach es X.env))) _ _ s;refine Calls.spliced_cons (thn (ha pins s U H _ I h) fun u s1 ⟨x,H1,I1,r1,q1⟩=>?_);exact thn (hr pos pins s1 U H1 _ I1 q1) fun us s2 ⟨xs,H2,I2,r2,q2⟩=>⟨x::xs,H2,I2,.cons r1 r2,q2⟩
def Yr (t:TA):TE:=fun U H Q=>t U H fun xs H1=>xs.length<=sizeLine/\∀p,H1 p=none->Q (.ref p) (upd H1 p (.tup xs))
def Yq (t:TA):TE:=fun U H Q=>t U H fun xs H1=>xs.length<=sizeLine/\∀p,H1 p=none->Q (.ref p) (upd H1 p (.lst xs))
theorem kS (h:PA X es t):PE X (.Tuple es x1 pos) (Yr t):=by intro pins s U H Q I hq;refine wpAny_Tuple_spliced (thn (h pos pins s U H _ I hq) fun us s1 ⟨xs,H1,I1,r,z,q⟩=>⟨by rw [<-r.length];exact z,?_⟩);have hf:H1 s1.heap.objs.size=none:=I1.hok.fresh (ζ _);refine ⟨.ref s1.heap.objs.size,upd H1 s1.heap.objs.size (.tup xs),I1.laid (t':=s1.toks) (fun b u e=>τ _ e) (ζ _) ?_,rfl,q _ hf⟩;exact ⟨z,us,r,.mk' (Ψ _ rfl)⟩
theorem kR (h:PA X es t):PE X (.List es pos) (Yq t):=by intro pins s U H Q I hq;refine wpAny_List_spliced (thn (h pos pins s U H _ I hq) fun us s1 ⟨xs,H1,I1,r,z,q⟩=>⟨by rw [<-r.length];exact z,?_⟩);have hf:H1 s1.heap.objs.size=none:=I1.hok.fresh (ζ _);refine ⟨.ref s1.heap.objs.size,upd H1 s1.heap.objs.size (.lst xs),I1.laid (t':=s1.toks) (fun b u e=>τ _ e) (ζ _) ?_,rfl,q _ hf⟩;exact ⟨z,us,0,r,Ψ _ rfl⟩
end
abbrev Sp:=List V->Hp->VK->XK->Prop
abbrev CXT:=List Env->Hp->Shared->XK->Value->Shared->Prop
structure Env0 (P:Program) (w:World) (K:Frag) (mg:Str->Option Value) (base:Heap) (A:Around) (outer:List Env) (s:Shared) (H:Hp):Prop where
 frames:A.frames=some outer
 mod:Mod K mg base
 bs:∀b o,base.get? b=some o->s.heap.get? b=some o/\H b=none
 bsz:base.objs.size<=s.heap.objs.size
 funs:s.heap.FunFrames base outer
 frf:∀b∈frs outer,H b=none
 hok:HOk P w H s.heap
 bare:AllBare s.gens
def CE (outer:List Env) (P:Program) (w:World) (H:Hp) (s:Shared) (Q:VK) (u:Value) (s':Shared):Prop:=
 ∃v H',s'.os=s.os/\AllBare s'.gens/\Un (frs outer) [] H H' s.heap s'.heap/\HOk P w H' s'.heap/\RelV v u/\Q v H'
def CR (CX:CXT) (outer:List Env) (P:Program) (w:World) (H:Hp) (s:Shared) (Q:VK) (E:XK) (r:Result) (s':Shared):Prop:=
 match r with
 | .ok (.ret u)=>CE outer P w H s Q u s'
 | .ok _=>False
 | .error e=>CX outer H s E e s'
structure FnOk (P:Program) (w:World) (K:Frag) (mg:Str->Option Value) (base:Heap) (CX:CXT) (k:Nat) (f:Addr) (fd:FuncData) (ps:List Str) (sp:Sp):Prop where
 len:∀vs H Q E,sp vs H Q E->vs.length=ps.length
 run:∀(A:Around) (outer:List Env) (s:Shared) (H:Hp) (args:Args) (us:List Value) (vs:List V) (Q:VK) (E:XK),Room k A->Env0 P w K mg base A outer s H->BindsTo s fd args (ps.zip us)->Vals vs us->sp vs H Q E ->
  codeAny (model P w) A (.call (.ref f) args) (CR CX outer P w H s Q E) s
theorem FnOk.imp {P:Program} {w:World} {K:Frag} {mg:Str->Option Value} {base:Heap} {CX:CXT} {k:Nat} {f:Addr} {fd:FuncData} {ps:List Str} {sp sp':Sp} (F:FnOk P w K mg base CX k f fd ps sp)
  (h:∀vs H Q E,sp' vs H Q E->sp vs H Q E):FnOk P w K mg base CX k f fd ps sp':=
 ⟨fun vs H Q E q=>F.len vs H Q E (h _ _ _ _ q),fun A outer s H args us vs Q E hr he hb hv hs=>F.run A outer s H args us vs Q E hr he hb hv (h _ _ _ _ hs)⟩
theorem Env0.make {P:Program} {w:World} {K:Frag} {mg:Str->Option Value} {base:Heap} {A:Around} {outer:List Env} {s:Shared} {H:Hp} (e:Env0 P w K mg base A outer s H) (C:Addr) (us:List Value) (kw:List (Str×Value)) :
 Env0 P w K mg base (A.under (.builtin "type.__call__" ⟨.ref C::us,kw⟩)) outer s H:=⟨by first | exact e.frames | (simpa [Around.under,Code.envs,Code.isFrame,pushEnvs] using e.frames),e.mod,e.bs,e.bsz,e.funs,e.frf,e.hok,e.bare⟩
section
variable {X:Cx} {pins:List (Addr×Obj)} {U:St} {H:Hp} {s s':Shared}
theorem Inv.env0 (I:Inv X pins U H s):Env0 X.prog X.w X.K X.mg X.base X.A X.stack s H:=
 ⟨I.ok.frames,I.ok.mod,I.bs,Nat.le_trans I.ok.bsz I.sz,I.stack,I.stkFree,I.hok,I.bare⟩
theorem Inv.after (I:Inv X pins U H s) (h:CE X.stack X.prog X.w H s Q u s'):EP X pins U Q u s':=by obtain ⟨v,H',os,bare,un,hok,r,q⟩:=h;obtain ⟨hh,g,d,t,os'⟩:=s';obtain rfl:os'=s.os:=os;exact ⟨v,H',I.call (h':=hh) (g':=g) (d':=d) (t':=t) (ch:=[]) un hok bare (fun b z=>absurd z (by simp)),r,q⟩
end
noncomputable def Oz (sp:Sp) (dvs:List V) (E:XK) (t:TA):TE:=fun U H Q=>t U H fun vs H1=>sp (vs++dvs) H1 Q E
def Binds (K:Frag) (fd:FuncData) (ps:List Str) (ds:List Value):Prop:=
 ∀(s:Shared) (us:List Value),K.In s.heap->(us++ds).length=ps.length->BindsTo s fd ⟨us,[]⟩ (ps.zip (us++ds))
theorem Binds.all {K:Frag} {fd:FuncData} {ps:List Str} (h:∀us:List Value,us.length=ps.length->bindArgs fd ⟨us,[]⟩=pure (ps.zip us)):Binds K fd ps []:=fun s us _ hl=>by rw [List.append_nil] at hl ⊢;exact .of_eq (h us hl)
def T9 (CX:CXT) (X:Cx) (E:XK):Prop:=∀(pins:List (Addr×Obj)) (U:St) (H:Hp) (s:Shared) (e:Value) (s':Shared),Inv X pins U H s->CX X.stack H s E e s'->X.xe e s'
section
variable {X:Cx} {CX:CXT} {k:Nat} {f:Addr} {fd:FuncData} {ps:List Str} {sp:Sp} {dvs:List V} {ds:List Value} {E:XK} {x:Str} {p pos:Pos} {e:Expr} {es:List Expr} {t:TA}
theorem kQ (F:FnOk X.prog X.w X.K X.mg X.base CX k f fd ps sp) (hr:Room k X.A) (hb:Binds X.K fd ps ds) (hd:Vals dvs ds) (hx:T9 CX X E)
  (I:Inv X pins U H s) (r:Vals vs us) (h:sp (vs++dvs) H Q E):wpAny (model X.prog X.w) X.A (call (.ref f) us) (EP X pins U Q) X.xe s:=by
 have r2:Vals (vs++dvs) (us++ds):=r.append hd
 have hl:(us++ds).length=ps.length:=by rw [<-r2.length];exact F.len _ _ _ _ h
 refine wpAny_call (codeAny_mono (F.run X.A X.stack s H ⟨us,[]⟩ (us++ds) (vs++dvs) Q E hr I.env0 (hb s us I.kIn hl) r2 h) fun r s' hq=>?_)
 cases r with
 | error e=>exact hx pins U H s e s' I hq
 | ok fl=>
  cases fl with
  | ret u=>exact I.after hq
  | next=>exact False.elim hq
  | brk=>exact False.elim hq
  | cont=>exact False.elim hq
theorem vS (F:FnOk X.prog X.w X.K X.mg X.base CX k f fd ps sp) (hr:Room k X.A) (hg:Gl X x) (hm:X.mg x=some (.ref f)) (hk:keepIn X.K (.ref f)=true) (hb:Binds X.K fd ps ds) (hd:Vals dvs ds) (hx:T9 CX X E)
  (ha:PA X (e::es) t) (hdb:(x==("__debug__":Str))=false:=by decide) (he:starEach (e::es) X.env=(false,eval e X.env)::starEach es X.env:=by rfl) (hpl:(backTo pos (starEach es X.env)).any (·.1)=false:=by rfl) :
  PE X (.Call (.Name x p) (e::es) [] pos) (Oz sp dvs E t):=by
 intro pins s U H Q I h
 refine wpAny_Call_Name_kw (V0 I hg hm ?_ hdb)
 refine PySem.W.callWith_K (h₀:=X.base) I.ok.mod.kin hk (thn (ha pos pins s U H _ I h) fun us s1 ⟨vs,H1,I1,r,q⟩=>⟨I1.kIn,?_⟩) he hpl
 exact kQ F hr hb hd hx I1 r q
end
structure FnScope (N P:List Str) (sc:Scope):Prop where
 kind:sc.kind=.function
 co:sc.isCoroutine=false
 gen:sc.isGenerator=false
 nd:N.Nodup
 pre:N.take P.length=P
 par:∀x∈P,sc.names.lookup x=some .local\/sc.names.lookup x=some .cell
 nofree:∀y∈sc.names,y.2≠.free
theorem Vj {kindOf:Str->Option NameKind} {x:Str}:∀{binds:List (Str×Value)} {m:Str->Option Value},(∀v,(x,v)∉binds)->bindL kindOf binds m x=m x
 | [],_,_=>rfl
 | (n,v)::r,m,h=>by
  unfold bindL;rw [Vj fun w hw=>h w (List.mem_cons_of_mem _ hw)];split
  . have:x≠n:=by rintro rfl;exact h v List.mem_cons_self
    simp [this]
  . rfl
theorem Vi {kindOf:Str->Option NameKind} {x:Str}:∀{binds:List (Str×Value)} {m:Str->Option Value},(∀v,(x,v)∉binds)->bindC kindOf binds m x=m x
 | [],_,_=>rfl
 | (n,v)::r,m,h=>by
  unfold bindC;rw [Vi fun w hw=>h w (List.mem_cons_of_mem _ hw)];split
  . rfl
  . have:x≠n:=by rintro rfl;exact h v List.mem_cons_self
    simp [this]
theorem Vh {kindOf:Str->Option NameKind} {x:Str} {v:Value}:∀{P:List Str} {vs:List Value} {i:Nat} {m:Str->Option Value},P.Nodup->P[i]?=some x->vs[i]?=some v->kindOf x=some .local ->
  bindL kindOf (P.zip vs) m x=some v
 | [],_,_,_,_,h,_,_=>by simp at h
 | _::_,[],_,_,_,_,h,_=>by simp at h
 | p::P,w::vs,0,m,nd,h1,h2,hk=>by simp at h1 h2;subst h1;subst h2;show bindL kindOf ((p,w)::P.zip vs) m p=_;unfold bindL;rw [Vj fun v hv=>(List.nodup_cons.mp nd).1 (List.of_mem_zip hv).1,ξ hk];simp
 | p::P,w::vs,i+1,m,nd,h1,h2,hk=>by show bindL kindOf ((p,w)::P.zip vs) m x=_;unfold bindL;exact Vh (i:=i) (List.nodup_cons.mp nd).2 (by simpa using h1) (by simpa using h2) hk
theorem Vg {kindOf:Str->Option NameKind} {x:Str} {v:Value}:∀{P:List Str} {vs:List Value} {i:Nat} {m:Str->Option Value},P.Nodup->P[i]?=some x->vs[i]?=some v->kindOf x≠some .local ->
  bindC kindOf (P.zip vs) m x=some v
 | [],_,_,_,_,h,_,_=>by simp at h
 | _::_,[],_,_,_,_,h,_=>by simp at h
 | p::P,w::vs,0,m,nd,h1,h2,hk=>by simp at h1 h2;subst h1;subst h2;show bindC kindOf ((p,w)::P.zip vs) m p=_;unfold bindC;rw [Vi fun v hv=>(List.nodup_cons.mp nd).1 (List.of_mem_zip hv).1,ψ hk];simp
 | p::P,w::vs,i+1,m,nd,h1,h2,hk=>by show bindC kindOf ((p,w)::P.zip vs) m x=_;unfold bindC;exact Vg (i:=i) (List.nodup_cons.mp nd).2 (by simpa using h1) (by simpa using h2) hk
noncomputable def C7 (N:List Str) (vs:List V):St:=vs.map some++List.replicate (N.length - vs.length) none
noncomputable def w8 (CX:CXT) (P:Program) (w:World) (K:Frag) (mg:Str->Option Value) (base:Heap) (N:List Str) (qual:Str) (scope:Scope) (f:Addr) (cd:Value) (A:Around) (outer:List Env) (s:Shared) (H:Hp) (E:XK):Cx where
 prog:=P
 w:=w
 K:=K
 mg:=mg
 base:=base
 A:=A.deeper (envOfC qual scope s.heap.objs.size f cd)
 N:=N
 s₀:=s
 H₀:=H
 env:=envOfC qual scope s.heap.objs.size f cd
 outer:=outer
 stack:=envOfC qual scope s.heap.objs.size f cd::outer
 ex:=[]
 calm:=true
 fn:=fun _=>true
 pn:=[]
 xe:=fun e s'=>wpAny (model P w) (A.deeper (envOfC qual scope s.heap.objs.size f cd)) (leaving (envOfC qual scope s.heap.objs.size f cd) e) (fun _ s''=>CX outer H s E e s'') (fun e' s''=>CX outer H s E e' s'') s'
theorem Ug {sc:Scope} {n:Nat} {x:Str} (h:sc.names.lookup x=some .cell):∃c,(cellsFrom n sc.names []).lookup x=some c:=by have q:=PySem.W.cellsFrom_some sc.names n [] (.inl h);exact Option.isSome_iff_exists.mp q
theorem yp {CX:CXT} {P:Program} {w:World} {K:Frag} {mg:Str->Option Value} {base:Heap} {N ps:List Str} {qual:Str} {scope:Scope} {f:Addr} {cd:Value} {A:Around} {outer:List Env} {s s1:Shared} {H:Hp} {E:XK} {us:List Value} {vs:List V}
  (S:FnScope N ps scope) (hd:A.handled=none) (e0:Env0 P w K mg base A outer s H) (hl:vs.length=ps.length) (r:Vals vs us)
  (x:InCallC s s.heap.objs.size (bindL (envOfC qual scope s.heap.objs.size f cd).kindOf (ps.zip us) fun _=>none) (cellsFrom (s.heap.objs.size+1) scope.names []) (bindC (envOfC qual scope s.heap.objs.size f cd).kindOf (ps.zip us) fun _=>none) s1) :
  Inv (w8 CX P w K mg base N qual scope f cd A outer s H E) [] (C7 N vs) H s1:=by
 have hpl:ps.length<=N.length:=by have:=congrArg List.length S.pre;rw [List.length_take] at this;lia
 obtain ⟨h1,tk,rfl,hk⟩:=x.done
 have noA:∀b:Addr,b∉(w8 CX P w K mg base N qual scope f cd A outer s H E).ex:=fun b z=>absurd (show b∈([]:List Addr) from z) (by simp)
 refine ⟨⟨e0.mod,S.kind,rfl,rfl,ζ _,fun y z c h1 h2=>?_,fun y hy=>?_,fun y c _ h=>?_,fun _=>hd,Around.frames_deeper e0.frames,.inr ⟨rfl,rfl⟩,fun b z=>absurd z (noA b),e0.bs,e0.bsz,fun b _ _=>noA b,fun b z=>absurd z (noA b),e0.funs,e0.frf⟩,
  rfl,e0.bare,Un.kept hk,⟨_,x.toInCall.ns,fun i y v h1 h2 h3=>?_⟩,fun y c h=>⟨_,x.cell y c h⟩,e0.hok.fresh (ζ _),fun y c h=>?_,fun p hp=>absurd (show p∈([]:List (Addr×Obj)) from hp) (by simp),e0.hok.kept hk,?_⟩
 . exact name_of_addr x.apart (PySem.mem_of_lookup h1) (PySem.mem_of_lookup h2)
 . have hy:scope.names.lookup y=some .cell\/scope.names.lookup y=some .free:=hy;rcases hy with hy | hy
   . exact Ug hy
   . exact absurd rfl (S.nofree _ (PySem.mem_of_lookup hy))
 . exact Nat.le_of_lt (x.above y c (PySem.mem_of_lookup h))
 . have hi:i<vs.length:=by
    unfold C7 at h2
    by_cases hi:i<vs.length
    . exact hi
    . rw [List.getElem?_append_right (by simpa using hi)] at h2;rw [List.getElem?_replicate] at h2;split at h2<;>cases h2
   have ha:vs[i]?=some v:=by
    unfold C7 at h2;rw [List.getElem?_append_left (by simpa using hi),List.getElem?_map] at h2;cases e:vs[i]? with
    | none=>rw [e] at h2;cases h2
    | some a=>rw [e] at h2;cases h2;rfl
   obtain ⟨u,hu,rv⟩:=r.get ha
   have hp:ps[i]?=some y:=by rw [<-S.pre,List.getElem?_take_of_lt (by lia)];exact h1
   have ndP:ps.Nodup:=by rw [<-S.pre];exact S.nd.sublist (List.take_sublist _ _)
   refine ⟨u,rv,?_⟩
   rcases S.par y (List.mem_of_getElem? hp) with k | k
   . exact .inl ⟨k,Vh ndP hp hu k⟩
   . obtain ⟨c,e⟩:=Ug (n:=s.heap.objs.size+1) k;refine .inr ⟨.inl k,c,e,?_⟩;have q:=x.cell y c e;rw [Vg ndP hp hu (by show scope.names.lookup y≠_;rw [k];decide)] at q;exact q
 . exact e0.hok.fresh (Nat.le_of_lt (x.above y c (PySem.mem_of_lookup h)))
 . unfold C7;show _=N.length;rw [θ,List.length_map,List.length_replicate]
   lia
theorem Oy {CX:CXT} {P:Program} {w:World} {K:Frag} {mg:Str->Option Value} {base:Heap} {k:Nat} {f:Addr} {name qual:Str} {params:Arguments} {body:List Stmt} {scope:Scope} {dV kV doc pm cdv ct oc:Value} {an od:Option Addr}
  {osl:Array (Option Value)} {N ps:List Str} {sp:Sp} (lk:K.lookup f=some ⟨oc,od,.func (PySem.W.fnOf name qual params body scope dV kV doc pm an cdv ct),osl⟩) (hcd:codeIn K cdv qual=true) (S:FnScope N ps scope)
  (len:∀vs H Q E,sp vs H Q E->vs.length=ps.length)
  (hbody:∀(A:Around) (outer:List Env) (s:Shared) (H:Hp) (vs:List V) (Q:VK) (E:XK),Room k (A.deeper (envOfC qual scope s.heap.objs.size f cdv))->sp vs H Q E ->
   ∃t,PSs (w8 CX P w K mg base N qual scope f cdv A outer s H E) body t/\t { nx:=fun _ H'=>Q .non H',rt:=Q } (C7 N vs) H) :
  FnOk P w K mg base CX (k+1) f (PySem.W.fnOf name qual params body scope dV kV doc pm an cdv ct) ps sp:=by
 refine ⟨len,fun A outer s H args us vs Q E hr e0 hb r hsp=>?_⟩
 have hl:=len _ _ _ _ hsp
 have KX:K.In s.heap:=e0.mod.kin.keeps fun b o e=>(e0.bs b o e).1
 have lim:s.heap.NoLimit:=e0.mod.nolimit.keeps fun b o e=>(e0.bs b o e).1
 have hkind:∀y∈ps.zip us,scope.names.lookup y.1=some .local\/(scope.names.lookup y.1=some .cell/\((cellsFrom (s.heap.objs.size+1) scope.names []).lookup y.1).isSome=true):=fun ⟨n,v⟩ hy=>by
  rcases S.par n (List.of_mem_zip hy).1 with q | q
  . exact .inl q
  . exact .inr ⟨q,PySem.W.cellsFrom_some _ _ _ (.inl q)⟩
 refine codeAny_call_function hr.depth (KX _ _ lk) rfl S.co S.gen rfl (PySem.W.codeRec_of KX hcd) (hb _ _ _ _ ?_)
 refine wpAny_newFunctionEnv_cells S.kind hkind fun env he s1 x=>?_
 subst he
 refine ⟨lim.keeps x.toInCall.keep,codeAny_func ?_⟩
 obtain ⟨t,ht,hq⟩:=hbody A outer s H vs Q E (hr.deeper _) hsp
 have I:Inv (w8 CX P w K mg base N qual scope f cdv A outer s H E) [] (C7 N vs) H s1:=yp S hr.hd e0 hl r x
 refine wpAny_mono (ht [] s1 (C7 N vs) H _ I hq) (fun fl s' hs=>?_) fun e s' hs=>hs
 have fin:∀{σ':St} {H':Hp} {v:V} {u:Value},Inv (w8 CX P w K mg base N qual scope f cdv A outer s H E) [] σ' H' s'->RelV v u->Q v H'->CE outer P w H s Q u s':=
  fun {σ' H' v u} J rv q=>⟨v,H',J.os,J.bare,J.base,J.hok,rv,q⟩
 cases fl with
 | ret u=>
  obtain ⟨v,σ',H',J,rv,q⟩:=hs
  exact fin J rv q
 | next=>
  obtain ⟨σ',H',J,q⟩:=hs
  exact fin (v:=V.non) (u:=Value.none) J rfl q
 | brk=>
  obtain ⟨_,_,_,q⟩:=hs
  exact False.elim q
 | cont=>
  obtain ⟨_,_,_,q⟩:=hs
  exact False.elim q
section
variable {X:Cx} {x:Str} {p pos:Pos} {e:Expr} {es:List Expr} {t:TA} {id T:String} {r:List V->Hp->VK->Prop}
noncomputable def tCB (r:List V->Hp->VK->Prop) (t:TA):TE:=fun U H Q=>t U H fun vs H1=>r vs H1 Q
theorem Kt (hc:CallR X (.builtin id) r) (hg:Gl X x) (hm:X.mg x=none) (hv:bootBuiltins x=some (.builtin id)) (ha:PA X (e::es) t) (hn:x≠"__name__":=by decide) (hdb:(x==("__debug__":Str))=false:=by decide)
  (he:starEach (e::es) X.env=(false,eval e X.env)::starEach es X.env:=by rfl) (hpl:(backTo pos (starEach es X.env)).any (·.1)=false:=by rfl):PE X (.Call (.Name x p) (e::es) [] pos) (tCB r t):=by
 intro pins s U H Q I h
 refine wpAny_Call_Name_kw (U5 I hg hm hv ?_ hn hdb)
 exact PyProof.Rows.callWith_builtin1 (thn (ha pos pins s U H _ I h) fun us s1 ⟨vs,H1,I1,r1,q1⟩=>hc pins s1 U H1 vs us Q I1 r1 q1) he hpl
theorem yo (hc:CallR X (.type T) r) (hg:Gl X x) (hm:X.mg x=none) (hv:bootBuiltins x=some (.type T)) (ha:PA X (e::es) t) (hn:x≠"__name__":=by decide) (hdb:(x==("__debug__":Str))=false:=by decide)
  (he:starEach (e::es) X.env=(false,eval e X.env)::starEach es X.env:=by rfl) (hpl:(backTo pos (starEach es X.env)).any (·.1)=false:=by rfl):PE X (.Call (.Name x p) (e::es) [] pos) (tCB r t):=by
 intro pins s U H Q I h
 refine wpAny_Call_Name_kw (U5 I hg hm hv ?_ hn hdb)
 exact PyProof.Rows.callWith_type1 (thn (ha pos pins s U H _ I h) fun us s1 ⟨vs,H1,I1,r1,q1⟩=>hc pins s1 U H1 vs us Q I1 r1 q1) he hpl
end
end L2
namespace HT
open PySem PyProof.Rows
theorem rcLt_int (A:Around) (s:Shared) (a:Int) (t:Tok) (c:Int) (u:Tok) (prog:Program) (w:World) (E:Value->Shared->Prop) (Q:Value->Shared->Prop) (h:Q (.bool (decide (a<c))) s) :
  wpAny (model prog w) A (richCompare .Lt (.int a t) (.int c u)) Q E s:=
 (PyProof.Rows.lt_int h:wpAny (model prog w) A (compareOp .Lt (.int a t) (.int c u)) Q E s)
section
open PySem.SeqAt
open PySem.AutoSeq1 (wpAny_loadPart')
open PySem.MeetsSeq PySem.MeetsSeq2 PySem.MeetsSeq3
end
section
def sIx (n d:Nat):Option Int->Nat
 | none=>d
 | some v=>if v<0 then (v+(n:Int)).toNat else min v.toNat n
end
end HT
namespace L2
open PySem PySem.Spec PyProof.Rows
abbrev TO:=St->Hp->(Option Int->Hp->Prop)->Prop
def PO (X:Cx) (e:Option Expr) (t:TO):Prop:=
 ∀(pins:List (Addr×Obj)) (s:Shared) (U:St) (H:Hp) (Q:Option Int->Hp->Prop),Inv X pins U H s->t U H Q ->
  wpAny (model X.prog X.w) X.A (evalPart e X.env) (fun u s'=>∃o H',Inv X pins U H' s'/\IsPart u o/\Q o H') X.xe s
noncomputable def vR:TO:=fun _ H Q=>Q none H
noncomputable def ja (t:TE):TO:=fun U H Q=>t U H fun x H1=>∃i,x=.int i/\Q (some i) H1
theorem Ei:∀{us:List Value},Vals (ns.map V.int) us->IntsAre us ns:=by
 induction ns with
 | nil=>intro us r;rw [List.map_nil] at r;cases r;exact .nil
 | cons n ns ih=>
  intro us r
  rw [List.map_cons] at r
  cases r with
  | cons r1 r2=>
   obtain ⟨t,e⟩:=r1
   subst e
   exact .cons n t (ih r2)
section
variable {X:Cx} {e:Expr} {te:TE} {lo hi:Option Expr} {tl th:TO} {pos p2:Pos}
theorem po_none:PO X none vR:=by intro pins s U H Q I h;rw [evalPart_none];exact ω ⟨none,H,I,.none,h⟩
theorem vQ (h:PE X e te):PO X (some e) (ja te):=by
 intro pins s U H Q I hw;rw [evalPart_some];refine thn (h pins s U H _ I hw) fun u s1 ⟨x,H1,I1,r1,q1⟩=>?_
 obtain ⟨i,rfl,q⟩:=q1;obtain ⟨t,rfl⟩:=r1;exact ⟨some i,H1,I1,.int i t,q⟩
def SlR (X:Cx) (r:V->Option Int->Option Int->Hp->VK->Prop):Prop:=
 ∀(pins:List (Addr×Obj)) (s:Shared) (U:St) (H:Hp) (x:V) (v vl vu:Value) (lo hi:Option Int) (sl:Addr) (Q:VK),Inv X pins U H s->RelV x v->s.heap.IsSliceOf sl vl vu .none->IsPart vl lo->IsPart vu hi->r x lo hi H Q ->
  ∃T id,typeLookup (.type T) "__getitem__"=pure (some (.builtin id))/\s.TypeIs v T/\wpAny (model X.prog X.w) X.A (getItem v (.ref sl)) (EP X pins U Q) X.xe s
noncomputable def tSl (r:V->Option Int->Option Int->Hp->VK->Prop) (te:TE) (tl th:TO):TE:=fun U H Q=>te U H fun x H1=>tl U H1 fun l H2=>th U H2 fun u H3=>r x l u H3 Q
theorem xI (hr:SlR X r) (he:PE X e te) (hl:PO X lo tl) (hu:PO X hi th):PE X (.Subscript e (.Slice lo hi none p2) pos) (tSl r te tl th):=by
 intro pins s U H Q I h;refine Subscript_ (thn (he pins s U H _ I h) fun v s1 ⟨x,H1,I1,r1,q1⟩=>?_);refine wpAny_Slice (thn (hl pins s1 U H1 _ I1 q1) fun vl s2 ⟨l,H2,I2,pl,q2⟩=>thn (hu pins s2 U H2 _ I2 q2) fun vu s3 ⟨u,H3,I3,pu,q3⟩=>?_);rw [evalPart_none];refine ω ?_;have I4:Inv X pins U H3 { s3 with heap:=s3.heap.push { cls:=.type "slice",data:=.fields #[vl,vu,.none] } }:=I3.kept (t':=s3.toks) fun b ob q=>τ _ q
 obtain ⟨T,id,hT,ht,hg⟩:=hr pins { s3 with heap:=s3.heap.push { cls:=.type "slice",data:=.fields #[vl,vu,.none] } } U H3 x v vl vu l u s3.heap.objs.size Q I4 r1 (Heap.IsSliceOf.new ..) pl pu q3;show wpAny (model X.prog X.w) X.A (subscriptTail e (.Slice lo hi none p2) v (.ref s3.heap.objs.size)) (EP X pins U Q) X.xe { s3 with heap:=s3.heap.push { cls:=.type "slice",data:=.fields #[vl,vu,.none] } };exact tail_any (ops:=[.ref s3.heap.objs.size,v]) ht hT hg (by with_unfolding_all rfl)
noncomputable def R4 (xs:List V) (lo hi:Option Int):List V:=(xs.drop (HT.sIx xs.length 0 lo)).take (HT.sIx xs.length xs.length hi - HT.sIx xs.length 0 lo)
theorem zm (xs:List V) (lo hi:Option Int):(R4 xs lo hi).length<=xs.length:=by unfold R4;rw [List.length_take,List.length_drop];omega
end
noncomputable def ixN (n:Nat) (i:Int):Option Nat:=if 0<=i then (if i<n then some i.toNat else none) else if -(n:Int)<=i then some (i+n).toNat else none
def atI {α:Type} (xs:List α) (i:Int):Option α:=(ixN xs.length i).bind fun j=>xs[j]?
theorem vP (h:ixN n i=some j):seqIndex? i n=some j/\j<n/\-(n:Int)<=i/\i<n:=by
 unfold ixN at h;by_cases h0:0<=i
 . rw [ξ h0] at h;by_cases h1:i<n
   . rw [ξ h1] at h;have e:i.toNat=j:=Option.some.inj h;exact ⟨by rw [seqIndex_of h0 h1,e],by lia,by lia,h1⟩
   . rw [ψ h1] at h;cases h
 . rw [ψ h0] at h;by_cases h1:-(n:Int)<=i
   . rw [ξ h1] at h;have e:(i+n).toNat=j:=Option.some.inj h;exact ⟨by rw [seqIndex_neg (by lia) h1,e],by lia,h1,by lia⟩
   . rw [ψ h1] at h;cases h
theorem Kb (h:atI xs i=some v):∃j,seqIndex? i xs.length=some j/\xs[j]?=some v/\j<xs.length/\-(xs.length:Int)<=i/\i<xs.length:=by
 unfold atI at h;cases e:ixN xs.length i with
 | none=>rw [e] at h;cases h
 | some j=>
  rw [e] at h
  obtain ⟨h1,h2,h3,h4⟩:=vP e
  exact ⟨j,h1,h,h2,h3,h4⟩
theorem U9 {α:Type} {xs:List α} {j:Nat} {v:α} (h:xs[j]?=some v):atI xs (j:Int)=some v:=by
 have hj:j<xs.length:=(List.getElem?_eq_some_iff.mp h).1;have e:ixN xs.length (j:Int)=some j:=by unfold ixN;rw [ξ (by lia),ξ (by lia)];simp
 unfold atI;rw [e];exact h
theorem xH (xs:List α) (v:α):atI (xs++[v]) (-1)=some v:=by
 have hl:(xs++[v]).length=xs.length+1:=by simp
 have e:ixN (xs++[v]).length (-1)=some xs.length:=by
  unfold ixN;rw [hl,ψ (by decide),ξ (by lia)];congr 1
  lia
 unfold atI;rw [e];show (xs++[v])[xs.length]?=some v;simp
def Du (b:Expr):Prop:=∀o i,subscripted b false o i=operate [o,i] (getItem o i)
def IxR (X:Cx) (r:R2):Prop:=
 ∀(value slice:Expr) (pins:List (Addr×Obj)) (s:Shared) (U:St) (H:Hp) (x y:V) (v u:Value) (Q:VK),Inv X pins U H s->RelV x v->RelV y u->r x y H Q ->
  subscripted slice false v u=operate [v,u] (getItem v u)->wpAny (model X.prog X.w) X.A (subscriptTail value slice v u) (EP X pins U Q) X.xe s
def MtR (X:Cx) (id:String) (r:V->List V->Hp->VK->Prop):Prop:=
 ∀(pins:List (Addr×Obj)) (s:Shared) (U:St) (H:Hp) (x:V) (xs:List V) (v:Value) (us:List Value) (Q:VK),Inv X pins U H s->RelV x v->Vals xs us->r x xs H Q ->
  wpAny (model X.prog X.w) X.A (call (.builtin id) (v::us)) (EP X pins U Q) X.xe s
section
variable {X:Cx} {a b:Expr} {ta tb:TE} {pos:Pos}
theorem IxR.or (h:IxR X r) (h':IxR X r'):IxR X (fun x y H Q=>r x y H Q\/r' x y H Q):=by
 intro value slice pins s U H x y v u Q I rx ry q hs;rcases q with q | q
 . exact h value slice pins s U H x y v u Q I rx ry q hs
 . exact h' value slice pins s U H x y v u Q I rx ry q hs
theorem Ox (hr:IxR X r) (ha:PE X a ta) (hb:PE X b tb) (hs:Du b):PE X (.Subscript a b pos) (tOp r ta tb):=by intro pins s U H Q I h;exact Subscript_ (Fp ha hb I h fun v u s2 x y H2 I2 rx ry q=>hr a b pins s2 U H2 x y v u Q I2 rx ry q (hs _ _))
def Fo (K:Frag):R2:=fun x y H Q=>∃p xs i v,x=.ref p/\y=.int i/\SqL K H p xs/\atI xs i=some v/\Q v H
def Yp (K:Frag):R2:=fun x y H Q=>∃p xs i v,x=.ref p/\y=.int i/\SqT K H p xs/\atI xs i=some v/\Q v H
def Yo:R2:=fun x y H Q=>∃z i c,x=.str z/\y=.int i/\z.length<=sizeLine/\atI z.cps.toList i=some c/\Q (.str ⟨#[c]⟩) H
theorem ix_list:IxR X (Fo X.K):=by
 intro value slice pins s U H x y v u Q I rx ry h hs;obtain ⟨p,xs,i,z,rfl,rfl,hq,he,q⟩:=h;cases rx;obtain ⟨t,rfl⟩:=ry;obtain ⟨its,r,pl,hz⟩:=I.list hq;obtain ⟨j,h1,h2,h3,h4,h5⟩:=Kb he;obtain ⟨w,ew,rw'⟩:=r.get h2;have hl:=r.length;have hn:=U0;have fin:EP X pins U Q w s:=⟨z,H,I,rw',q⟩;by_cases h0:0<=i
 . have hj:i.toNat=j:=by
    rw [seqIndex_of h0 h5] at h1
    exact Option.some.inj h1
   exact item_listR pl.isList h0 (by lia) (by rw [hj];simpa using ew) fin hs
 . have hj:(i+(its.toArray.size:Int)).toNat=j:=by
    rw [seqIndex_neg (by lia) h4] at h1
    rw [List.size_toArray,<-hl]
    exact Option.some.inj h1
   exact subscriptTail_builtinR (x:=w) pl.isList.typeIs slot_list_getitem.lookup
    (wpAny_getItem_list_neg (Q:=fun r s'=>r=w/\EP X pins U Q r s') pl.isList (by lia) (by rw [List.size_toArray]<;>lia) (by lia) (by rw [hj];simpa using ew) ⟨rfl,fin⟩) hs
theorem ix_tup:IxR X (Yp X.K):=by
 intro value slice pins s U H x y v u Q I rx ry h hs;obtain ⟨p,xs,i,z,rfl,rfl,hq,he,q⟩:=h;cases rx;obtain ⟨t,rfl⟩:=ry;obtain ⟨its,r,pl,hz⟩:=I.tuple hq;obtain ⟨j,h1,h2,h3,h4,h5⟩:=Kb he;obtain ⟨w,ew,rw'⟩:=r.get h2;have hl:=r.length;have hn:=U0;have fin:EP X pins U Q w s:=⟨z,H,I,rw',q⟩;exact subscriptTail_builtinR (x:=w) pl.typeIs slot_tuple_getitem.lookup
  (getItem_tuple (j:=j) (Q:=fun r s'=>r=w/\EP X pins U Q r s') pl (by lia) (by lia) (by rw [List.size_toArray,<-hl];exact h1) (by simpa using ew) ⟨rfl,fin⟩) hs
theorem kP:IxR X Yo:=by
 intro value slice pins s U H x y v u Q I rx ry h hs;obtain ⟨z,i,c,rfl,rfl,hz,he,q⟩:=h;obtain ⟨t,rfl⟩:=rx;obtain ⟨t',rfl⟩:=ry;obtain ⟨j,h1,h2,h3,h4,h5⟩:=Kb he;have hl:z.cps.toList.length=z.length:=by simp [Str.length]
 rw [hl] at h1 h4 h5;have hn:=U0;exact tail_any (typeIs_str s z t) slot_str_getitem.lookup (getItem_str (c:=c) (by have e1:decide (i < -(2 ^ 63:Int))=false:=decide_eq_false (by lia);have e2:decide (i ≥ 2 ^ 63)=false:=decide_eq_false (by lia);rw [e1,e2,Bool.or_false]) (by rw [h1];simpa using h2) ⟨.str ⟨#[c]⟩,H,I.tok _,⟨_,rfl⟩,q⟩) hs
def rIx (K:Frag):R2:=fun x y H Q=>Fo K x y H Q\/Yp K x y H Q\/Yo x y H Q
theorem ix_seq:IxR X (rIx X.K):=ix_list.or (ix_tup.or kP)
theorem Inv.lst (I:Inv X pins U H s) (h:H p=some (.lst xs)) :
  ∃(its:List Value) (n:Nat),Vals xs its/\s.heap.get? p=some { cls:=.type "list",data:=.seq its.toArray n }/\xs.length<=sizeLine:=by
 obtain ⟨z,its,n,r,e⟩:=I.hok p _ h
 exact ⟨its,n,r,e,z⟩
theorem zE (lo hi:Option Int) (n:Nat):(sliceBounds lo hi none n).1=((HT.sIx n 0 lo:Nat):Int)/\(sliceBounds lo hi none n).2.1=((HT.sIx n n hi:Nat):Int)/\(sliceBounds lo hi none n).2.2=1:=by
 refine ⟨?_,?_,rfl⟩
 . cases lo with
   | none=>simp [sliceBounds,HT.sIx]
   | some i=>
    simp only [sliceBounds,HT.sIx,Option.getD_none,show (1:Int) > 0 by decide,if_true]
    by_cases h:i<0
    . simp only [h,if_true]<;>lia
    . simp only [h,if_false]<;>lia
 . cases hi with
   | none=>simp [sliceBounds,HT.sIx]
   | some i=>
    simp only [sliceBounds,HT.sIx,Option.getD_none,show (1:Int) > 0 by decide,if_true]
    by_cases h:i<0
    . simp only [h,if_true]<;>lia
    . simp only [h,if_false]<;>lia
theorem zM (its:List Value) (lo hi:Option Int):slicePick its.toArray lo hi none=((its.drop (HT.sIx its.length 0 lo)).take (HT.sIx its.length its.length hi - HT.sIx its.length 0 lo)).toArray:=by obtain ⟨h1,h2,h3⟩:=zE lo hi its.toArray.size;unfold slicePick;rw [h1,h2,h3];simp only [sliceRange_one,pick_run,List.size_toArray]<;>rfl
def Yn (K:Frag):V->Option Int->Option Int->Hp->VK->Prop:=fun x lo hi H Q=>∃a xs,x=.ref a/\SqL K H a xs/\∀p,H p=none->Q (.ref p) (upd H p (.lst (R4 xs lo hi)))
theorem Al:SlR X (Yn X.K):=by intro pins s U H x v vl vu lo hi sl Q I rx hs pl pu h;obtain ⟨a,xs,rfl,hx,q⟩:=h;cases rx;obtain ⟨its,r,ht,hz⟩:=I.list hx;have hlen:=r.length;refine ⟨"list",_,slot_list_getitem.lookup,ht.isList.typeIs,?_⟩;refine wpAny_getItem_list_slice ht.isList hs pl pu .none (by simp) ?_ (by rw [List.size_toArray]<;>lia);rw [zM,<-hlen];refine ⟨.ref s.heap.objs.size,_,I.laid (t':=s.toks) (o:=.lst (R4 xs lo hi)) (fun b ob q=>τ _ q) (ζ _) ?_,rfl,q _ (I.hok.fresh (ζ _))⟩;exact ⟨Nat.le_trans (zm xs lo hi) hz,_,0,(r.drop (HT.sIx xs.length 0 lo)).take (HT.sIx xs.length xs.length hi - HT.sIx xs.length 0 lo),Ψ _ rfl⟩
theorem call_len_seq:CallR X (.builtin "len") (fun xs H Q=>∃p ys,xs=[.ref p]/\(SqL X.K H p ys\/SqT X.K H p ys)/\Q (.int ys.length) H):=by
 intro pins s U H xs us Q I r h;obtain ⟨p,ys,rfl,hq,q⟩:=h;obtain ⟨u,rfl,rx⟩:=x4 r;cases rx;have hn:=U0;rcases hq with hq | hq
 . obtain ⟨its,r',pl,hz⟩:=I.list hq;have hlen:=r'.length;exact Calls.call_len_list pl.isList (by simp only [List.size_toArray]<;>lia) ⟨.int ys.length,H,I.tok _,⟨s.toks+1,by rw [List.size_toArray,hlen]⟩,q⟩
 . obtain ⟨its,r',pl,hz⟩:=I.tuple hq;have hlen:=r'.length;exact len_tuple pl (by simp only [List.size_toArray]<;>lia) ⟨.int ys.length,H,I.tok _,⟨s.toks+1,by rw [List.size_toArray,hlen]⟩,q⟩
theorem zC:CallR X (.builtin "len") (fun xs H Q=>∃z,xs=[.str z]/\z.length<=sizeLine/\Q (.int z.length) H):=by intro pins s U H xs us Q I r h;obtain ⟨z,rfl,hz,q⟩:=h;obtain ⟨u,rfl,t,rfl⟩:=x4 r;have hn:=U0;exact len_str (by lia) ⟨.int z.length,H,I.tok _,⟨_,rfl⟩,q⟩
theorem CallR.or (h:CallR X f r) (h':CallR X f r'):CallR X f (fun xs H Q=>r xs H Q\/r' xs H Q):=by
 intro pins s U H xs us Q I rs q;rcases q with q | q
 . exact h pins s U H xs us Q I rs q
 . exact h' pins s U H xs us Q I rs q
theorem zB:CallR X (.type "list") (fun xs H Q=>∃p ys,xs=[.ref p]/\(SqL X.K H p ys\/SqT X.K H p ys)/\∀l,H l=none->Q (.ref l) (upd H l (.lst ys))):=by
 intro pins s U H xs us Q I r h;obtain ⟨p,ys,rfl,hq,q⟩:=h;obtain ⟨u,rfl,rx⟩:=x4 r;cases rx;have fin:∀(its:List Value),Vals ys its->ys.length<=sizeLine->∀(h':Heap) (c':Nat),(∀b o',s.heap.get? b=some o'->h'.get? b=some o') ->
   h'.get? s.heap.objs.size=some { cls:=.type "list",dict:=none,data:=.seq its.toArray c',slots:=#[] }->EP X pins U Q (.ref s.heap.objs.size) { s with heap:=h' }:=fun its r' hz h' c' kp e=>
  ⟨.ref s.heap.objs.size,_,I.laid (t':=s.toks) kp (ζ _) (show ObjOk X.prog X.w _ h' _ (.lst ys) from ⟨hz,its,c',r',e⟩),rfl,q _ (I.hok.fresh (ζ _))⟩
 rcases hq with hq | hq
 . obtain ⟨its,r',pl,hz⟩:=I.list hq;have hlen:=r'.length;obtain ⟨o,ho,hc,n,hd⟩:=pl.isList;exact call_list_seq p (.inl rfl) ho hc hd (fun h' c' kp e=>fin its r' hz h' c' kp e) (by simp only [List.size_toArray]<;>lia)
 . obtain ⟨its,r',pl,hz⟩:=I.tuple hq;have hlen:=r'.length;obtain ⟨o,ho,hc,n,hd⟩:=pl;exact call_list_seq p (.inr rfl) ho hc hd (fun h' c' kp e=>fin its r' hz h' c' kp e) (by simp only [List.size_toArray]<;>lia)
theorem zL:CallR X (.type "tuple") (fun xs H Q=>∃p ys,xs=[.ref p]/\((SqL X.K H p ys/\∀l,H l=none->Q (.ref l) (upd H l (.tup ys)))\/(SqT X.K H p ys/\Q (.ref p) H))):=by
 intro pins s U H xs us Q I r h;obtain ⟨p,ys,rfl,h⟩:=h;obtain ⟨u,rfl,rx⟩:=x4 r;cases rx;rcases h with ⟨hq,q⟩ | ⟨hq,q⟩
 . obtain ⟨its,r',pl,hz⟩:=I.list hq;have hlen:=r'.length;refine call_tuple_list pl.isList (fun h' kp=>?_) (by simp only [List.size_toArray]<;>lia);have I1:Inv X pins U H { s with heap:=h' }:=I.kept (t':=s.toks) kp;have I2:Inv X pins U (upd H h'.objs.size (.tup ys)) { s with heap:=h'.push { cls:=.type "tuple",data:=.seq its.toArray } }:=
    I1.laid (t':=s.toks) (fun b o e=>τ _ e) (ζ _) (show ObjOk X.prog X.w _ _ _ (.tup ys) from ⟨hz,its,r',.mk' (Ψ _ rfl)⟩)
   exact ⟨.ref h'.objs.size,_,I2,rfl,q _ (I1.hok.fresh (ζ _))⟩
 . obtain ⟨its,r',pl,hz⟩:=I.tuple hq;exact call_tuple_same pl ⟨.ref p,H,I,rfl,q⟩
def tyV (K:Frag) (T:String) (x:V) (H:Hp):Prop:=match x with
 | .str _=>T="str"
 | .int _=>T="int"
 | .ref p=>(T="list"/\∃xs,SqL K H p xs)\/(T="tuple"/\∃o,K.lookup p=some o/\o.cls=.type "tuple"/\o.dict=none) \/
  (T="dict"/\((∃kvs,H p=some (.dK kvs))\/∃kvs,H p=some (.dT kvs)))\/(T="set"/\∃S n,H p=some (.set S n))
 | _=>False
theorem Qs (I:Inv X pins U H s) (r:RelV x v) (ty:tyV X.K T x H) :
  s.TypeIs v T/\∀a,v=.ref a->∃ob,s.heap.get? a=some ob/\ob.dict=none:=by
 cases x with
 | str z=>
  obtain ⟨t,rfl⟩:=r
  cases (show T="str" from ty)
  exact ⟨typeIs_str s z t,fun _ e=>nomatch e⟩
 | int i=>
  obtain ⟨t,rfl⟩:=r
  cases (show T="int" from ty)
  exact ⟨typeIs_int s i t,fun _ e=>nomatch e⟩
 | ref p=>
  cases r
  rcases ty with ⟨rfl,xs,hq⟩ | ⟨rfl,o,hk,hc,hd⟩ | ⟨rfl,hk⟩ | ⟨rfl,S,n,hk⟩
  . obtain ⟨its,_,pl,_⟩:=I.list hq;refine ⟨pl.isList.typeIs,fun a e=>?_⟩;cases e;obtain ⟨o,n,e,c,hd,_⟩:=pl;exact ⟨o,e,hd⟩
  . refine ⟨⟨o,I.kIn p o hk,hc⟩,fun a e=>?_⟩;cases e;exact ⟨o,I.kIn _ o hk,hd⟩
  . have z:∃o,s.heap.get? p=some o/\o.ExactDict:=by
     rcases hk with ⟨kvs,hk⟩ | ⟨kvs,hk⟩
     . obtain ⟨_,_,_,_,o,_,_,e,ex,_⟩:=I.hok p _ hk;exact ⟨o,e,ex⟩
     . obtain ⟨_,_,_,_,o,_,_,e,ex,_⟩:=I.hok p _ hk;exact ⟨o,e,ex⟩
    obtain ⟨o,e,ex⟩:=z
    refine ⟨⟨o,e,ex.1⟩,fun a e2=>?_⟩
    cases e2
    exact ⟨o,e,ex.2.1⟩
  . obtain ⟨o,_,_,_,e,ex,_⟩:=I.hok p _ hk;refine ⟨⟨o,e,ex.1⟩,fun a e2=>?_⟩;cases e2;exact ⟨o,e,ex.2.1⟩
 | _=>exact False.elim ty
noncomputable def Fn (K:Frag) (T:String) (r:V->List V->Hp->VK->Prop) (to:TE):TE:=fun U H Q=>to U H fun x H1=>tyV K T x H1/\r x [] H1 Q
noncomputable def tBM (K:Frag) (T:String) (r:V->List V->Hp->VK->Prop) (to:TE) (t:TA):TE:=fun U H Q=>to U H fun x H1=>tyV K T x H1/\t U H1 fun xs H2=>r x xs H2 Q
variable {o e:Expr} {es:List Expr} {to:TE} {t:TA} {name:Str} {apos cpos:Pos} {T id:String} {r:V->List V->Hp->VK->Prop}
theorem kN (pa:PlainAttrs T) (slot:Slot T name id) (hty:typeOf (.builtin id)=pure (.type "method_descriptor")) (hm:MtR X id r) (ho:PE X o to)
  (hbase:attributeBase o name X.env (eval o X.env)=eval o X.env:=by rfl) (hline:(apos.endLine==cpos.line)=true:=by rfl):PE X (.Call (.Attribute o name apos) [] [] cpos) (Fn X.K T r to):=by
 intro pins s U H Q I h
 refine wpAny_Call_method0_late hbase hline (thn (ho pins s U H _ I h) fun v s1 ⟨x,H1,I1,r1,ty,q1⟩=>?_)
 obtain ⟨h1,h2⟩:=Qs I1 r1 ty
 exact ⟨T,id,pa,slot,hty,h1,h2,Calls.callWith_builtin rfl (PySem.evalArgs_none (hm pins s1 U H1 x [] v [] Q I1 r1 .nil q1))⟩
theorem Ow (pa:PlainAttrs T) (slot:Slot T name id) (hty:typeOf (.builtin id)=pure (.type "method_descriptor")) (hm:MtR X id r) (ho:PE X o to) (ha:PA X (e::es) t)
  (hbase:attributeBase o name X.env (eval o X.env)=eval o X.env:=by rfl)
  (hfew:((backTo cpos (starEach (e::es) X.env)).all (fun x=>!x.1)&&(backToKw cpos (keywordEach [] X.env)).all (fun x=>x.1.isSome)
   && decide ((e::es).length+([]:List Keyword).length+(if ([]:List Keyword).isEmpty then 0 else 1)<30))=true:=by rfl)
  (hline:(apos.endLine==cpos.line)=true:=by rfl) (hs:starEach (e::es) X.env=(false,eval e X.env)::starEach es X.env:=by rfl) (hplain:(backTo cpos (starEach es X.env)).any (·.1)=false:=by rfl) :
  PE X (.Call (.Attribute o name apos) (e::es) [] cpos) (tBM X.K T r to t):=by
 intro pins s U H Q I h
 refine wpAny_Call_method_late hbase hfew hline rfl (thn (ho pins s U H _ I h) fun v s1 ⟨x,H1,I1,r1,ty,q1⟩=>?_)
 obtain ⟨h1,h2⟩:=Qs I1 r1 ty
 refine ⟨T,id,pa,slot,hty,h1,h2,?_⟩
 have hA:=ha cpos pins s1 U H1 _ I1 q1
 rw [hs] at hA ⊢
 refine Calls.callWith_builtin (by show (false||(backTo cpos (starEach es X.env)).any (·.1))=false;rw [hplain]<;>rfl) (Calls.evalArgs_plain ?_)
 exact thn hA fun us s2 ⟨vs,H2,I2,r2,q2⟩=>hm pins s2 U H2 x vs v us Q I2 r1 r2 q2
end
def MtM (X:Cx) (id:String) (r:V->List V->Hp->VK->Prop):Prop:=
 ∀(pins:List (Addr×Obj)) (s:Shared) (U:St) (H:Hp) (x:V) (xs:List V) (v:Value) (us:List Value) (Q:VK),Inv X pins U H s->RelV x v->Vals xs us->r x xs H Q ->
  wpAny (model X.prog X.w) X.A (call (.builtin id) (v::us)) (EP X pins U Q) X.xe s
theorem Vals.one:∀{x:V} {us:List Value},Vals [x] us->∃u,us=[u]/\RelV x u
 | _,_,.cons r .nil=>⟨_,rfl,r⟩
theorem Vals.two:∀{x y:V} {us:List Value},Vals [x,y] us->∃u v,us=[u,v]/\RelV x u/\RelV y v
 | _,_,_,.cons r (.cons q .nil)=>⟨_,_,rfl,r,q⟩
theorem Vals.zero:∀{us:List Value},Vals [] us->us=[]
 | _,.nil=>rfl
theorem Vals.dropLast (h:Vals xs us):Vals xs.dropLast us.dropLast:=by
 induction h with
 | nil=>exact .nil
 | cons r t ih=>
  cases t with
  | nil=>exact .nil
  | cons q t'=>exact .cons r ih
theorem Vals.eraseIdx:∀{xs:List V} {us:List Value} (i:Nat),Vals xs us->Vals (xs.eraseIdx i) (us.eraseIdx i)
 | _,_,_,.nil=>.nil
 | _,_,0,.cons _ t=>t
 | _,_,i+1,.cons r t=>.cons r (Vals.eraseIdx i t)
theorem yS (l:List α):l.eraseIdx (l.length - 1)=l.dropLast:=by
 induction l with
 | nil=>rfl
 | cons a r ih=>
  cases r with
  | nil=>rfl
  | cons b r=>
   have e:(a::b::r).length - 1=((b::r).length - 1)+1:=by
    have h1:(a::b::r).length=r.length+2:=rfl;have h2:(b::r).length=r.length+1:=rfl
    lia
   rw [e,List.eraseIdx_cons_succ,ih]
   all_goals rfl
theorem Vf:∀(l:List α) (i:Nat),(l.eraseIdx i).length<=l.length
 | [],_=>ζ _
 | _::_,0=>Nat.le_succ _
 | _::r,i+1=>Nat.succ_le_succ (Vf r i)
section
variable {X:Cx} {pins:List (Addr×Obj)} {U:St} {H:Hp} {s:Shared} {l:Addr} {xs ys:List V}
theorem Inv.lset {its its':List Value} {n:Nat} {f:Array Value->Array Value} {t':Nat} (I:Inv X pins U H s) (hH:H l=some (.lst xs))
  (e:s.heap.get? l=some { cls:=.type "list",data:=.seq its.toArray n }) (hf:f its.toArray=its'.toArray) (hv:Vals ys its') (hz:ys.length<=sizeLine) :
  Inv X pins U (upd H l (.lst ys)) { s with heap:=s.heap.update l (Obj.mapSeq f),toks:=t' }:=by
 have q:=PySem.IsL.update e f
 rw [hf] at q
 refine I.write (x:=l) (e:=l) (by rw [hH];exact trivial) (.inl rfl) (fun b' u hb hu=>(Heap.get?_update_other s.heap (Obj.mapSeq f) (Ne.symm hb)).trans hu) ⟨_,q⟩ ?_
 exact ⟨hz,its',_,hv,q⟩
theorem Inv.lnew (I:Inv X pins U H s) (hv:Vals ys its) (hz:ys.length<=sizeLine) :
  Inv X pins U (upd H s.heap.objs.size (.lst ys)) { s with heap:=s.heap.push { cls:=.type "list",data:=.seq its.toArray },toks:=t' }:=
 I.laid (fun _ _ q=>τ _ q) (ζ _) ⟨hz,its,0,hv,Ψ _ rfl⟩
theorem Inv.fresh (I:Inv X pins U H s):H s.heap.objs.size=none:=I.hok.fresh (ζ _)
theorem Inv.lstM (I:Inv X pins U H s) (hH:H l=some (.lst xs)):xs.length<=sizeLine/\∃(its:List Value) (n:Nat),Vals xs its/\xs.length=its.length/\s.heap.get? l=some { cls:=.type "list",data:=.seq its.toArray n }:=by obtain ⟨z,its,n,r,e⟩:=I.hok l _ hH;exact ⟨z,its,n,r,r.length,e⟩
end
section
variable {X:Cx}
def Sv:V->List V->Hp->VK->Prop:=fun x vs H Q=>∃l xs y,x=.ref l/\vs=[y]/\H l=some (.lst xs)/\xs.length<sizeLine/\Q .non (upd H l (.lst (xs++[y])))
theorem V7:MtM X "list.append" Sv:=by
 intro pins s U H x vs v us Q I rx rv h;obtain ⟨l,xs,y,rfl,rfl,hH,hz,q⟩:=h;cases rx;obtain ⟨u,rfl,ru⟩:=rv.one;obtain ⟨z,its,n,r,hl,e⟩:=I.lstM hH;refine call_meets F.slot_list_append ⟨_,e,rfl⟩ F.entry_list_append (F.args_list_append_2 _ _) (PySem.list_append l its.toArray n u (by rw [List.size_toArray];lia)) ⟨e,?_⟩;refine ⟨.non,_,I.lset (its':=its++[u]) hH e (by simp) (r.append (.cons ru .nil)) ?_,rfl,q⟩;rw [θ,List.length_singleton]
 lia
def Ym:V->List V->Hp->VK->Prop:=fun x vs H Q=>∃l xs y,x=.ref l/\vs=[]/\H l=some (.lst xs)/\xs[xs.length - 1]?=some y/\Q y (upd H l (.lst xs.dropLast))
theorem kM:MtM X "list.pop" Ym:=by
 intro pins s U H x vs v us Q I rx rv h;obtain ⟨l,xs,y,rfl,rfl,hH,hy,q⟩:=h;cases rx;have hus:=rv.zero;subst hus;obtain ⟨z,its,n,r,hl,e⟩:=I.lstM hH;obtain ⟨u,hu,ru⟩:=r.get hy;have hy':its.toArray[its.toArray.size - 1]?=some u:=by show its.toArray[its.length - 1]?=some u;rw [<-Array.getElem?_toList,<-hl];exact hu
 refine call_meets F.slot_list_pop ⟨_,e,rfl⟩ F.entry_list_pop (F.args_list_pop_1 _) (MeetsSeq.list_pop_last l its.toArray n u hy' (by rw [List.size_toArray];omega)) ⟨e,?_⟩;refine ⟨y,_,I.lset (its':=its.dropLast) hH e ?_ r.dropLast ?_,ru,q⟩
 . show its.toArray.eraseIdxIfInBounds (its.toArray.size - 1)=its.dropLast.toArray;rw [List.size_toArray,List.eraseIdxIfInBounds_toArray,yS]
 . rw [List.length_dropLast];omega
def Qr:V->List V->Hp->VK->Prop:=fun x vs H Q=>∃l xs i k y,x=.ref l/\vs=[.int i]/\H l=some (.lst xs)/\-(2 ^ 63)<=i/\i<2 ^ 63/\seqIndex? i xs.length=some k/\xs[k]?=some y/\Q y (upd H l (.lst (xs.eraseIdx k)))
theorem xG:MtM X "list.pop" Qr:=by
 intro pins s U H x vs v us Q I rx rv h;obtain ⟨l,xs,i,k,y,rfl,rfl,hH,h1,h2,hk,hy,q⟩:=h;cases rx;obtain ⟨u,rfl,ru⟩:=rv.one;obtain ⟨t,rfl⟩:=ru;obtain ⟨z,its,n,r,hl,e⟩:=I.lstM hH;obtain ⟨w,hw,rw'⟩:=r.get hy;refine call_meets F.slot_list_pop ⟨_,e,rfl⟩ F.entry_list_pop (F.args_list_pop_2 _ _)
  (MeetsSeq.list_pop_at l its.toArray n i t k w (fitsIndex_both h1 h2) (by rw [List.size_toArray,<-hl];exact hk) (by rw [<-Array.getElem?_toList];exact hw) (by rw [List.size_toArray];lia)) ⟨e,?_⟩
 refine ⟨y,_,I.lset (its':=its.eraseIdx k) hH e ?_ (r.eraseIdx k) ?_,rw',q⟩
 . show its.toArray.eraseIdxIfInBounds k=(its.eraseIdx k).toArray;rw [List.eraseIdxIfInBounds_toArray]
 . have:=Vf xs k
   lia
def Yl:R2:=fun x y H Q=>∃l b xs zs,x=.ref l/\y=.ref b/\H l=some (.lst xs)/\H b=some (.lst zs)/\xs.length+zs.length<=sizeLine/\∀p,H p=none->Q (.ref p) (upd H p (.lst (xs++zs)))
theorem Jb:OpR X (binaryOp .Add) Yl:=by
 intro pins s U H x y v u Q I rx ry h;obtain ⟨l,b,xs,zs,rfl,rfl,hH,hB,hz,q⟩:=h;cases rx;cases ry;obtain ⟨z,its,n,r,hl,e⟩:=I.lstM hH;obtain ⟨z2,its2,n2,r2,hl2,e2⟩:=I.lstM hB;refine PySem.P.add_list e e2 ?_ (by rw [List.size_toArray,List.size_toArray];omega);have ea:its.toArray++its2.toArray=(its++its2).toArray:=by simp
 rw [ea];exact ⟨.ref _,_,I.lnew (t':=s.toks) (r.append r2) (by rw [θ];omega),rfl,q _ I.fresh⟩
end
section
variable {κ:Type} [DecidableEq κ]
noncomputable def B6 (kvs:List (κ×V)) (k:κ):Option V:=(kvs.find? fun kv=>decide (kv.1=k)).map (·.2)
noncomputable def Fm (kvs:List (κ×V)) (k:κ) (v:V):List (κ×V):=
 if (kvs.any fun kv=>decide (kv.1=k))=true then kvs.map (fun kv=>if kv.1=k then (kv.1,v) else kv) else kvs++[(k,v)]
noncomputable def Ov (kvs:List (κ×V)) (k:κ):List (κ×V):=kvs.filter fun kv=>decide (kv.1≠k)
theorem Uf {p:κ×V} {r:List (κ×V)} {k:κ} (e:p.1=k):B6 (p::r) k=some p.2:=by simp [B6,List.find?_cons,e]
theorem Ue {p:κ×V} {r:List (κ×V)} {k:κ} (e:¬p.1=k):B6 (p::r) k=B6 r k:=by simp [B6,List.find?_cons,e]
theorem RelO.isSome_eq (r:RelO o u):o.isSome=u.isSome:=by
 cases o with
 | none=>cases u with
  | none=>rfl
  | some _=>exact (show False from r).elim
 | some _=>cases u with
  | none=>exact (show False from r).elim
  | some _=>rfl
theorem RelO.getD (r:RelO o u) (rd:RelV d d'):RelV (o.getD d) (u.getD d'):=by
 cases o with
 | none=>cases u with
  | none=>exact rd
  | some _=>exact (show False from r).elim
 | some _=>cases u with
  | none=>exact (show False from r).elim
  | some _=>exact r
theorem KV.val (r:KV kvs vs) (k:κ):RelO (B6 kvs k) (valueAt vs k):=by
 unfold KV at r;induction r with
 | nil=>exact True.intro
 | @cons p q ps qs h t ih=>
  obtain ⟨h1,h2⟩:=h
  by_cases e:p.1=k
  . have e':q.1=k:=h1.symm.trans e;have b:valueAt (q::qs) k=some q.2:=by simp [valueAt,List.find?_cons,e']
    rw [Uf e,b];exact h2
  . have e':¬q.1=k:=fun z=>e (h1.trans z)
    have b:valueAt (q::qs) k=valueAt qs k:=by simp [valueAt,List.find?_cons,e']
    rw [Ue e,b];exact ih
theorem KV.any (r:KV kvs vs) (k:κ):(kvs.any fun kv=>decide (kv.1=k))=vs.any fun kv=>decide (kv.1=k):=by
 unfold KV at r;induction r with
 | nil=>rfl
 | cons h t ih=>rw [List.any_cons,List.any_cons,ih,h.1]
theorem KV.drop (r:KV kvs vs) (k:κ):KV (Ov kvs k) (without vs k):=by
 unfold KV at r ⊢;unfold Ov without;induction r with
 | nil=>exact .nil
 | @cons p q ps qs h t ih=>
  obtain ⟨h1,h2⟩:=h
  rw [List.filter_cons,List.filter_cons]
  by_cases e:p.1=k
  . have a:¬decide (p.1≠k)=true:=by simp [e]
    have b:¬decide (q.1≠k)=true:=by simp [h1.symm.trans e]
    rw [ψ a,ψ b];exact ih
  . have e':¬q.1=k:=fun z=>e (h1.trans z)
    have a:decide (p.1≠k)=true:=by simp [e]
    have b:decide (q.1≠k)=true:=by simp [e']
    rw [ξ a,ξ b];exact .cons ⟨h1,h2⟩ ih
theorem KV.length (r:KV kvs vs):kvs.length=vs.length:=Paired.length r
end
theorem Gz (r:RelV (kV k) u):(E0 P w).is k u=true:=by
 cases k with
 | inl i=>obtain ⟨t,e⟩:=(show ∃t,u=Value.int i t from r);subst e;exact zp P w i t
 | inr x=>obtain ⟨t,e⟩:=(show ∃t,u=Value.str x t from r);subst e;exact zo P w x t
theorem Ve:∀{ks:List Key} {us:List Value},Vals (ks.map kV) us->ItemsAre (E0 P w) ks us
 | [],_,r=>by rw [List.map_nil] at r;cases r;exact .nil
 | k::ks,_,r=>by
  rw [List.map_cons] at r;cases r with
  | cons h t=>exact .cons (Gz h) (Ve t)
abbrev KT (H:Hp):List (List Key×V)->List (List Key×Addr×Value)->Prop:=Paired fun p q=>p.1=q.1/\H q.2.1=some (.tup (p.1.map kV))/\RelV p.2 q.2.2
theorem KT.val (r:KT H kvs xs) (k:List Key):RelO (B6 kvs k) ((atKey xs k).map (·.2)):=by
 induction r with
 | nil=>exact True.intro
 | @cons p q ps qs h t ih=>
  obtain ⟨h1,_,h2⟩:=h
  by_cases e:p.1=k
  . have e':q.1=k:=h1.symm.trans e;have b:atKey (q::qs) k=some q.2:=by simp [atKey,List.find?_cons,e']
    rw [Uf e,b];exact h2
  . have e':¬q.1=k:=fun z=>e (h1.trans z)
    have b:atKey (q::qs) k=atKey qs k:=by simp [atKey,List.find?_cons,e']
    rw [Ue e,b];exact ih
section
variable {P:Program} {w:World} {H:Hp} {h:Heap} {a:Addr}
theorem Ou (ok:HOk P w H h) (e:Rd H a u):ObjOk P w H h a u:=e.ok ok
theorem Cq (ok:HOk P w H h) (e:Rd H a (.dK kvs)):kvs.length<=sizeLine/\(a==sysModules)=false/\∃vs,KV kvs vs/\h.DictOf (E0 P w) a vs:=
 show ObjOk P w H h a (.dK kvs) from Ou ok e
theorem Ja (ok:HOk P w H h) (e:H a=some (.tup (ks.map kV))):(tupleKind (E0 P w)).is h ks a:=by obtain ⟨_,its,r,o,h1,h2,⟨n,h3⟩,_⟩:=(show ObjOk P w H h a (.tup (ks.map kV)) from ok a _ e);exact ⟨o,its.toArray,n,h1,h2,h3,by simpa using Ve r⟩
theorem Gy (ok:HOk P w H h) (e:Rd H a (.dT kvs)):kvs.length<=sizeLine/\(a==sysModules)=false /\
  ∃xs,KT H kvs xs/\h.DictOfH (tupleKind (E0 P w)) a xs:=by
 obtain ⟨z,y,xs,r,o,es,ep,h1,h2,h3,h4,h5⟩:=(show ObjOk P w H h a (.dT kvs) from Ou ok e)
 refine ⟨z,y,xs,r,o,es,ep,h1,h2,h3,h4,fun x hx=>?_,h5⟩
 have all:∀{l:List (List Key×V)} {m:List (List Key×Addr×Value)},KT H l m->∀x∈m,(tupleKind (E0 P w)).is h x.1 x.2.1:=by
  intro l m q;induction q with
  | nil=>intro x hx;exact nomatch hx
  | @cons p q ps qs hq t ih=>
   intro x hx
   rcases List.mem_cons.mp hx with e | hx
   . subst e;exact Ja ok (by rw [<-hq.1];exact hq.2.1)
   . exact ih x hx
 exact all r x hx
end
def DGet (H:Hp) (a:Addr) (y:V) (r:Option V):Prop:=
 (∃kvs k,Rd H a (.dK kvs)/\y=kV k/\r=B6 kvs k)\/∃kvs k b,Rd H a (.dT kvs)/\y=.ref b/\H b=some (.tup (k.map kV))/\r=B6 kvs k
def DPut (H:Hp) (a:Addr) (y v:V) (H':Hp):Prop:=
 (∃kvs k,H a=some (.dK kvs)/\y=kV k/\kvs.length<sizeLine/\H'=upd H a (.dK (Fm kvs k v))) \/
 ∃kvs k b,H a=some (.dT kvs)/\y=.ref b/\H b=some (.tup (k.map kV))/\kvs.length<sizeLine/\H'=upd H a (.dT (Fm kvs k v))
theorem DGet.k {H:Hp} {a:Addr} {kvs:List (Key×V)} {k:Key} (e:H a=some (.dK kvs)):DGet H a (kV k) (B6 kvs k):=.inl ⟨kvs,k,.inl e,rfl,rfl⟩
theorem DGet.t {H:Hp} {a b:Addr} {kvs:List (List Key×V)} {k:List Key} (e:H a=some (.dT kvs)) (eb:H b=some (.tup (k.map kV))):DGet H a (.ref b) (B6 kvs k):=.inr ⟨kvs,k,b,.inl e,rfl,eb,rfl⟩
theorem DPut.t {H:Hp} {a b:Addr} {kvs:List (List Key×V)} {k:List Key} {v:V} (e:H a=some (.dT kvs)) (eb:H b=some (.tup (k.map kV))) (hl:kvs.length<sizeLine) :
 DPut H a (.ref b) v (upd H a (.dT (Fm kvs k v))):=.inr ⟨kvs,k,b,e,rfl,eb,hl,rfl⟩
section
variable {X:Cx} {pins:List (Addr×Obj)} {U:St} {H:Hp} {s:Shared} {a:Addr} {y v:V} {u:Value} {o:Option V} {A:Around} {E:Value->Shared->Prop}
theorem Inv.big (I:Inv X pins U H s):sysModules<s.heap.objs.size:=by have h:mainGlobals<s.heap.objs.size:=(I.mod.glob.keeps I.bk).lt;exact Nat.lt_trans (by decide) h
theorem yn (hu:A.units+1<cLine) (I:Inv X pins U H s) (g:DGet H a y (some v)) (ry:RelV y u) (h:∀w' s',Inv X pins U H s'->RelV v w'->Q w' s') :
  wpAny (model X.prog X.w) A (getItem (.ref a) u) Q E s:=by
 rcases g with ⟨kvs,k,e,ey,l⟩ | ⟨kvs,k,b,e,ey,eb,l⟩
 . subst ey;obtain ⟨z,hd,vs,rel,dd⟩:=Cq I.hok e;obtain ⟨w',hw,rw'⟩:=RelO.some_of (v:=v) (o:=valueAt vs k) (by rw [l];exact rel.val k);exact wpAny_getItem_of (Gz ry) dd.mapOf hw (h w' _ (I.tok _) rw')
 . subst ey;cases (show u=Value.ref b from ry);obtain ⟨z,hd,xs,rel,dd⟩:=Gy I.hok e;obtain ⟨w',hw,rw'⟩:=RelO.some_of (v:=v) (o:=(atKey xs k).map (·.2)) (by rw [l];exact rel.val k);obtain ⟨p,hp,hp2⟩:=Option.map_eq_some_iff.mp hw;refine wpAny_getItem_heap (tupleKind_room_in1 hu) (Ja I.hok eb) dd hp ?_;rw [hp2];exact h w' _ (I.tok _) rw'
theorem vO (hu:A.units+1<cLine) (I:Inv X pins U H s) (g:DGet H a y o) (ry:RelV y u) (h:∀s',Inv X pins U H s'->Q (.bool (!o.isSome)) s') :
  wpAny (model X.prog X.w) A (compareOp .NotIn u (.ref a)) Q E s:=by
 rcases g with ⟨kvs,k,e,ey,l⟩ | ⟨kvs,k,b,e,ey,eb,l⟩
 . subst ey;obtain ⟨z,hd,vs,rel,dd⟩:=Cq I.hok e;refine wpAny_notIn_of (Gz ry) hd dd.mapOf ?_;rw [<-(rel.val k).isSome_eq,<-l];exact h _ (I.tok _)
 . subst ey;cases (show u=Value.ref b from ry);obtain ⟨z,hd,xs,rel,dd⟩:=Gy I.hok e;refine wpAny_notIn_heap (tupleKind_room_in1 hu) (Ja I.hok eb) hd dd ?_;have q:=(rel.val k).isSome_eq;rw [Option.isSome_map] at q;rw [<-q,<-l];exact h _ (I.tok _)
end
section
variable {X:Cx} {pins:List (Addr×Obj)} {U:St} {H:Hp} {s:Shared} {a:Addr} {kvs:List (Key×V)} {A:Around} {E:Value->Shared->Prop}
theorem Zz (I:Inv X pins U H s) (e:Rd H a (.dK kvs)) (h:∀t s',Inv X pins U H s'->Q (.int kvs.length t) s'):wpAny (model X.prog X.w) A (call (.builtin "len") [.ref a]) Q E s:=by obtain ⟨z,hd,vs,rel,dd⟩:=Cq I.hok e;refine call_len_dict hd dd (by rw [<-rel.length];rw [sizeLine_eq] at z;lia) ?_;rw [<-rel.length];exact h _ _ (I.tok _)
end
theorem zl (I:Inv X pins U H s) (g:DGet H a y o):s.TypeIs (.ref a) "dict":=by
 rcases g with ⟨kvs,k,e,_,_⟩ | ⟨kvs,k,b,e,_,_,_⟩
 . obtain ⟨_,_,vs,_,dd⟩:=Cq I.hok e;exact dd.typeIs
 . obtain ⟨_,_,xs,_,dd⟩:=Gy I.hok e;exact dd.typeIs
theorem xF (h:Heap) (hb:sysModules<h.objs.size):ObjOk P w H (h.push { cls:=.type "dict",data:=.dict #[] }) h.objs.size (.dK []):=
 ⟨Nat.zero_le _,beq_eq_false_iff_ne.mpr (Ne.symm (Nat.ne_of_lt hb)),[],.nil,Heap.DictOf.new h⟩
def kL:TE:=fun _ H Q=>∀p,H p=none->Q (.ref p) (upd H p (.dK []))
section
variable {X:Cx} {pos:Pos}
theorem pe_dnewK:PE X (.Dict [] [] pos) kL:=fun pins s U H Q I h=>
 wpAny_Dict_empty ⟨.ref s.heap.objs.size,_,I.laid (a:=s.heap.objs.size) (o:=.dK []) (t':=s.toks) (fun _ _ q=>τ _ q) (ζ _) (xF s.heap I.big),rfl,h _ (I.hok.fresh (ζ _))⟩
end
end L2
namespace Att
open PySem PySem.W PySem.Calls PyProof.Rows
theorem zX:∀(ns:List Int) (vs:List Value),WellAll P h vs (ns.map WData.int)->IntsAre vs ns:=by
 intro ns;induction ns with
 | nil=>
  intro vs w
  rw [List.map_nil] at w
  cases w
  exact .nil
 | cons n ns ih=>
  intro vs w
  rw [List.map_cons] at w
  cases w with
  | cons a b=>
   cases a
   exact .cons _ _ (ih _ b)
theorem ym {l:OpenLaw} {n:Nat} (hn:l.most=some n) {P:Params} {h:Heap} {args:List WData} {vals:List Value}
  (hpre:l.row.toRowW.claim.pre args=true) (hwl:WellAll P h vals args) :
  ∃a vs ns,vals=[Value.ref a]/\args=[WData.list (ns.map WData.int)]/\h.get? a=some { cls:=.type "list",data:=.seq vs.toArray }/\IntsAre vs ns/\ns.length<=n:=by
 have hsh:WShape.hasAll [] args [.list .int]=true:=(pre_splitW hpre).1
 have hc:l.pre.holds [] { args:=args }=true:=(pre_splitW hpre).2
 obtain ⟨d,r,rfl,h1,h2⟩:=hasAllW_cons hsh
 obtain rfl:=hasAllW_nil h2
 obtain ⟨xs,rfl,h3⟩:=hasW_list h1
 obtain ⟨ns,rfl⟩:=items_int h3
 have hlen:ns.length<=n:=by
  unfold OpenLaw.pre at hc;have h4:(WTm.not (.lt (.lit (.int (n:Int))) (.len (.arg 0)))).holds [] { args:=[.list (ns.map .int)] }=true:=by have h4:=(holds_andW hc).1;rw [hn] at h4;exact h4
  have h5:=condW_of h4 (w_not (w_lt w_lit (w_len_list (w_arg rfl))));rw [List.length_map] at h5;refine Nat.le_of_not_lt fun q=>?_
  have q':(n:Int)<((ns.length:Nat):Int):=by omega
  first
   | (rw [decide_eq_true q'] at h5;exact absurd h5 (by decide))
   | (simp at h5;omega)
 cases hwl with
 | cons w1 w2=>
  cases w2
  cases w1 with
  | list ho hall=>exact ⟨_,_,ns,rfl,rfl,ho,zX ns _ hall,hlen⟩
theorem yl (l:OpenLaw) (args:List WData):l.row.toRowW.claim.post args (.bool true) args=true:=
 postW_of (r:=l.row.toRowW) (X:=(true==true))
  (show WShape.has [] (.bool true) .bool=true by first | rfl | decide | simp [WShape.has,WShape.arms,WShape.armsAll])
  (show (WTm.eq .res (.lit (.bool true))).value [] { args:=args,res:=some (.bool true),after:=args }=some (.bool (true==true)) from w_eq_bool (w_res rfl) w_lit) rfl
theorem attach_call {l:OpenLaw} {n:Nat} {q:Program} {loose:List Str} {XP:(Str->Option Value)->Heap->Prop} {YP:World->Heap->Prop} {d:DefRec}
  (hn:l.most=some n) (hdf:d.params.defaults=[])
  (call:∀(w:World) (s₀ s₁:Shared) (mg mb:Str->Option Value) (fa:Addr) (o:Obj) (pm cd doc:Value) (a:Addr) (vs:List Value) (ns:List Int),
   Ground q loose [] XP w s₀ mg mb s₁.heap->YP w s₁.heap ->
   s₁.heap.get? fa=some o->o.data=.func (docDef d.name d.params d.body d.scope pm cd doc)->s₁.heap.CodeRec cd d.name->mg d.name=some (.ref fa) ->
   s₁.heap.get? a=some { cls:=.type "list",data:=.seq vs.toArray }->IntsAre vs ns->ns.length<=n->s₁.gens=#[] ->
   codeAny (model l.prog w) callerA (.call (.ref fa) ⟨[.ref a],[]⟩) (fun r s'=>r=.ok (.ret (.bool true))/\OldK s₁.heap s'.heap/\s'.os=s₁.os/\AllBare s'.gens) s₁) :
  WalkO q loose XP YP l.row.toRowW d [] (fun f vs=>PySem.call f vs):=by
 intro w s₀ s₁ mg mb G Y fa o pm cd doc dV kV ho hd hcd hD hmg hg args vals as hpre hlay hrd hwl hlo
 obtain rfl:dV=.none:=Dflts.none hD hdf
 obtain rfl:kV=.none:=Dflts.noKw hD
 obtain ⟨a,vs,ns,rfl,rfl,hobj,hints,hlen⟩:=ym hn hpre hwl
 refine enter_call (codeAny_mono (call w s₀ s₁ mg mb fa o pm cd doc a vs ns G Y ho (fd_plain hd) hcd hmg hobj hints hlen hg) fun r s' hq=>?_)
 obtain ⟨rfl,h2,h3,h4⟩:=hq
 exact ⟨.inl ⟨.bool true,.bool true,[],rfl,fun _=>rfl,.bool true,yl l _,fun _=>⟨List.Pairwise.nil,fun _ hm=>(nomatch hm)⟩⟩,h2,h3,h4⟩
section
def noObjs (h:Heap):Heap:={ h with objs:=#[] }
theorem noObjs_get (h:Heap) (b:Addr):(noObjs h).get? b=none:=by
 cases e:(noObjs h).get? b with
 | none=>rfl
 | some o=>exact absurd (Heap.lt_size e) (Nat.not_lt_zero _)
theorem fr_all (n:h.Ns L m):Fr (noObjs h) L h m:=
 ⟨n,fun b o e=>(by rw [noObjs_get] at e;cases e),Nat.zero_le _⟩
end
end Att
namespace L2
open PySem PySem.Spec PyProof.Rows
theorem Vd:∀{vs:List Value} {ns:List Int},IntsAre vs ns->Vals (ns.map V.int) vs
 | _,_,.nil=>.nil
 | _,_,.cons n t h=>.cons ⟨t,rfl⟩ (Vd h)
def Cd (H:Hp):Prop:=∀b,H b=none\/∃o xs,H b=some (.frz o (.lst xs))
theorem xE {P:Program} {w:World} {K:Frag} {mg mb:Str->Option Value} {CX:CXT} {k:Nat} {fa a:Addr} {fd:FuncData} {x:Str} {sp:Sp} {s₁:Shared} {vs:List Value} {ns:List Int}
  (KX:K.In s₁.heap) (hns:s₁.heap.Ns mainGlobals mg) (hb:s₁.heap.Ns builtinsNs mb) (hbb:∀x:Str,x≠"__name__"->mb x=bootBuiltins x) (hlim:s₁.heap.NoLimit) (hg:s₁.gens=#[])
  (ha:s₁.heap.get? a=some { cls:=.type "list",data:=.seq vs.toArray }) (hi:IntsAre vs ns) (hl:ns.length<=sizeLine) (hr:Room k callerA)
  (F:∀base:Heap,K.In base->base.Ns mainGlobals mg->FnOk P w K mg base CX k fa fd [x] sp) (hbind:∀(s:Shared) (u:Value),BindsTo s fd ⟨[u],[]⟩ [(x,u)])
  (hsp:∀H:Hp,Cd H->SqL K H a (ns.map V.int)->sp [.ref a] H (fun v _=>v=.bl true) fun _ _ _=>False)
  (hCX:∀H e s',CX [] H s₁ (fun _ _ _=>False) e s'->False) :
  codeAny (model P w) callerA (.call (.ref fa) ⟨[.ref a],[]⟩) (fun r s'=>r=.ok (.ret (.bool true))/\OldK s₁.heap s'.heap/\s'.os=s₁.os/\AllBare s'.gens) s₁:=by
 have rv:=Vd hi
 have lenV:=hi.length
 have core:∀H:Hp,Cd H->SqL K H a (ns.map V.int)->HOk P w H s₁.heap->(∀b,H b≠none->b=a)->(H a≠none->K.lookup a=none) ->
   codeAny (model P w) callerA (.call (.ref fa) ⟨[.ref a],[]⟩) (fun r s'=>r=.ok (.ret (.bool true))/\OldK s₁.heap s'.heap/\s'.os=s₁.os/\AllBare s'.gens) s₁:=by
  intro H hO hS hok hA hK
  have base_of:∀{b:Addr} {o:Obj},s₁.heap.get? b=some o->H b=none->(J1 s₁.heap H).get? b=some o:=fun e n=>xM e n
  have noA:∀{b:Addr} {o:Obj} {es:Array DictEntry} {ep:Nat},s₁.heap.get? b=some o->o.data=.dict es ep->H b=none:=fun {b o es ep} e d=>by
   cases q:H b with
   | none=>rfl
   | some u=>
    have e':b=a:=hA b (by rw [q];simp)
    subst e'
    rw [ha] at e;cases e
    have d':Data.seq vs.toArray _=Data.dict es ep:=d
    cases d'
  have nsK:∀{b:Addr} {m:Str->Option Value},s₁.heap.Ns b m->(J1 s₁.heap H).Ns b m:=fun {b m} ⟨o,es,ep,e,d,r⟩=>⟨o,es,ep,base_of e (noA e d),d,r⟩
  have hKb:K.In (J1 s₁.heap H):=fun b o e=>base_of (KX b o e) (by
   cases q:H b with
   | none=>rfl
   | some u=>
    have e':b=a:=hA b (by rw [q];simp)
    subst e'
    rw [hK (by rw [q];simp)] at e;cases e)
  have hM:Mod K mg (J1 s₁.heap H):=⟨hKb,nsK hns,⟨mb,nsK hb,hbb⟩,let ⟨mc,h1,h2⟩:=hlim;⟨mc,nsK h1,h2⟩⟩
  have e0:Env0 P w K mg (J1 s₁.heap H) callerA [] s₁ H:=⟨rfl,hM,fun b o e=>vX e,Nat.le_of_eq (yy _ _),trivial,fun b hb=>absurd (show b∈([]:List Addr) from hb) (by simp),hok,.of_eq hg⟩
  refine codeAny_mono ((F _ hKb (nsK hns)).run callerA [] s₁ H ⟨[.ref a],[]⟩ [.ref a] [.ref a] _ _ hr e0 (hbind s₁ (.ref a)) (.cons rfl .nil) (hsp H hO hS)) fun r s' h=>?_
  cases r with
  | error e=>exact (hCX H e s' h).elim
  | ok fl=>
   cases fl with
   | next=>exact False.elim h
   | brk=>exact False.elim h
   | cont=>exact False.elim h
   | ret u=>
    obtain ⟨v,H',os,bare,un,hok',r',q⟩:=h
    have q':v=.bl true:=q
    subst q'
    obtain rfl:u=Value.bool true:=r'
    refine ⟨rfl,OldK.of_keep fun b o e=>?_,os,bare⟩
    cases q:H b with
    | none=>exact un.keep b o e q (by intro z;exact absurd (show b∈([]:List Addr) from z) (by simp)) (by simp)
    | some u=>
     rcases hO b with z | ⟨ob,xs,z⟩
     . rw [q] at z;cases z
     . have z2:=un.frzs b ob _ z;obtain ⟨e1,_⟩:=hok b _ z;obtain ⟨e2,_⟩:=hok' b _ z2;rw [e] at e1;cases e1;exact e2
 cases hk:K.lookup a with
 | some o=>
  have e:=KX a o hk
  rw [ha] at e
  cases e
  refine core (fun _=>none) (fun _=>.inl rfl) (.inr ⟨_,vs.toArray,_,hk,rfl,rfl,rfl,by rw [List.size_toArray,lenV];exact hl,by simpa using rv⟩) (fun b u z=>by have z':(none:Option HO)=some u:=z;cases z') (fun b z=>absurd rfl z) fun z=>absurd rfl z
 | none=>
  refine core (fun b=>if b=a then some (.frz { cls:=.type "list",data:=.seq vs.toArray } (.lst (ns.map V.int))) else none) (fun b=>?_) (.inl (.inr ⟨{ cls:=.type "list",data:=.seq vs.toArray },ξ rfl⟩)) (fun b u z=>?_) (fun b z=>?_) fun _=>hk
  . by_cases hb:b=a
    . exact .inr ⟨_,_,ξ hb⟩
    . exact .inl (ψ hb)
  . by_cases hb:b=a
    . have z':=(ξ hb).symm.trans z;cases z';subst hb;exact ⟨ha,by rw [List.length_map];exact hl,vs,_,rv,ha⟩
    . have z':=(ψ hb).symm.trans z;cases z'
  . by_cases hb:b=a
    . exact hb
    . exact absurd (ψ hb) z
theorem walk_of {l:PySem.W.OpenLaw} {n k:Nat} {q:Program} {loose:List Str} {XP:(Str->Option Value)->Heap->Prop} {YP:World->Heap->Prop} {d:DefRec} {K:Params->Frag} {CX:World->CXT} {sp:World->Sp} {x:Str}
  (hn:l.most=some n) (hn2:n<=sizeLine) (hdf:d.params.defaults=[]) (hr:Room k callerA)
  (hY:∀(w:World) (h:Heap),YP w h->(K w.params).In h)
  (F:∀(w:World) (mg:Str->Option Value) (fa:Addr) (h:Heap),(K w.params).In h->h.Ns mainGlobals mg->mg d.name=some (.ref fa) ->
   ∃fd:FuncData,(∀(s:Shared) (u:Value),BindsTo s fd ⟨[u],[]⟩ [(x,u)]) /\
    ∀base:Heap,(K w.params).In base->base.Ns mainGlobals mg->FnOk l.prog w (K w.params) mg base (CX w) k fa fd [x] (sp w))
  (hsp:∀(w:World) (H:Hp) (a:Addr) (ns:List Int),ns.length<=n->Cd H->SqL (K w.params) H a (ns.map V.int)->sp w [.ref a] H (fun v _=>v=.bl true) fun _ _ _=>False)
  (hCX:∀(w:World) (H:Hp) (s:Shared) (e:Value) (s':Shared),CX w [] H s (fun _ _ _=>False) e s'->False) :
  PySem.W.WalkO q loose XP YP l.row.toRowW d [] (fun f vs=>PySem.call f vs):=by
 refine Att.attach_call hn hdf fun w s₀ s₁ mg mb fa o pm cd doc a vs ns G Y ho hd hcd hmg hobj hints hlen hg=>?_
 have KX:=hY w _ Y
 obtain ⟨fd,hb,hF⟩:=F w mg fa _ KX G.T.g hmg
 exact xE KX G.T.g G.T.b G.T.builtins G.T.nolimit hg hobj hints (Nat.le_trans hlen hn2) hr hF hb (fun H hO hS=>hsp w H a ns hlen hO hS) fun H e s'=>hCX w H s₁ e s'
noncomputable def G4 (s:Stmt):Arguments:=match s with
 | .FunctionDef _ a _ _ _ _ _ _ _ _=>a
 | _=>{ posonlyargs:=[],args:=[],vararg:=none,kwonlyargs:=[],kw_defaults:=[],kwarg:=none,defaults:=[] }
noncomputable def x8 (s:Stmt):List Stmt:=match s with
 | .FunctionDef _ _ b _ _ _ _ _ _ _=>b
 | _=>[]
noncomputable def d8 (s:Stmt):Scope:=match s with
 | .FunctionDef _ _ _ _ _ _ sc _ _ _=>sc
 | _=>{ kind:=.function,names:=[],isGenerator:=false,isCoroutine:=false }
abbrev CX0:CXT:=fun _ _ _ _ _ _=>False
structure Fun (K:Frag) (x qual:Str) (st:Stmt) (f:Addr) (fd:FuncData):Prop where
 ex:∃(oc:Value) (od:Option Addr) (kV doc pm:Value) (an:Option Addr) (cdv ct:Value) (osl:Array (Option Value)),
  fd=PySem.W.fnOf x qual (G4 st) (x8 st) (d8 st) .none kV doc pm an cdv ct/\K.lookup f=some ⟨oc,od,.func fd,osl⟩/\codeIn K cdv qual=true
 kp:keepIn K (.ref f)=true
section
variable {P:Program} {w:World} {K:Frag} {mg:Str->Option Value} {base:Heap}
theorem Fun.ok {x qual:Str} {st:Stmt} {f:Addr} {fd:FuncData} {N ps:List Str} {k:Nat} {sp:Sp} (F:Fun K x qual st f fd) (S:FnScope N ps (d8 st)) (len:∀vs H Q E,sp vs H Q E->vs.length=ps.length)
  (hbody:∀(cdv:Value) (A:Around) (outer:List Env) (s:Shared) (H:Hp) (vs:List V) (Q:VK) (E:XK),Room k (A.deeper (envOfC qual (d8 st) s.heap.objs.size f cdv))->sp vs H Q E ->
   ∃t,PSs (w8 CX0 P w K mg base N qual (d8 st) f cdv A outer s H E).nox (x8 st) t/\t { nx:=fun _ H'=>Q .non H',rt:=Q } (C7 N vs) H):FnOk P w K mg base CX0 (k+1) f fd ps sp:=by
 obtain ⟨oc,od,kV,doc,pm,an,cdv,ct,osl,rfl,lk,hcd⟩:=F.ex
 refine Oy lk hcd S len fun A outer s H vs Q E hr hsp=>?_
 obtain ⟨t,h,q⟩:=hbody cdv A outer s H vs Q E hr hsp
 exact ⟨t,h.nox,q⟩
theorem Fun.binds {x qual:Str} {st:Stmt} {f:Addr} {fd:FuncData} {ps:List Str} (F:Fun K x qual st f fd)
  (h:∀(kV doc pm:Value) (an:Option Addr) (cdv ct:Value) (us:List Value),us.length=ps.length->bindArgs (PySem.W.fnOf x qual (G4 st) (x8 st) (d8 st) .none kV doc pm an cdv ct) ⟨us,[]⟩=pure (ps.zip us)):Binds K fd ps []:=by
 obtain ⟨oc,od,kV,doc,pm,an,cdv,ct,osl,rfl,lk,hcd⟩:=F.ex
 exact .all (h kV doc pm an cdv ct)
theorem Ae {x qual:Str} {st:Stmt} {f:Addr} {oc:Value} {od an:Option Addr} {osl:Array (Option Value)} {kV doc pm cdv ct:Value} (l:K.lookup f=some ⟨oc,od,.func (PySem.W.fnOf x qual (G4 st) (x8 st) (d8 st) .none kV doc pm an cdv ct),osl⟩)
 (c:codeIn K cdv qual=true) (k:keepIn K (.ref f)=true):Fun K x qual st f (PySem.W.fnOf x qual (G4 st) (x8 st) (d8 st) .none kV doc pm an cdv ct):=⟨⟨oc,od,kV,doc,pm,an,cdv,ct,osl,rfl,l,c⟩,k⟩
end
section
variable {X:Cx}
theorem pv (i:Nat) (hN:X.N[i]?=some x:=by rfl) (hv:Vis X.env.scope x:=by first | exact .inl rfl | exact .inr (.inl rfl) | exact .inr (.inr rfl)) (hd:(x==("__debug__":Str))=false:=by decide)
 (hcd:(x==("__classdict__":Str))=false:=by decide):PE X (.Name x pos) (Fv i):=K4 hN hv hd hcd
theorem call_lenD:CallR X (.builtin "len") (fun xs H Q=>∃a kvs,xs=[V.ref a]/\H a=some (.dK kvs)/\Q (.int kvs.length) H):=by intro pins s U H xs us Q I r h;obtain ⟨a,kvs,rfl,ha,q⟩:=h;obtain ⟨u,rfl,ru⟩:=x4 r;cases ru;exact Zz I (.inl ha) fun t s' I'=>⟨.int kvs.length,H,I',⟨t,rfl⟩,q⟩
end
def Same (H H':Hp):Prop:=∀b o,H b=some o->H' b=some o
theorem Same.refl (H:Hp):Same H H:=fun _ _ h=>h
theorem Same.trans (a:Same H H1) (b:Same H1 H2):Same H H2:=fun c o h=>b c o (a c o h)
theorem Same.free (e:Same H H') (h:H' l=Option.none):H l=Option.none:=by
 cases q:H l with
 | none=>rfl
 | some o=>
  rw [e l o q] at h
  cases h
theorem Same.seq {K:Frag} {H H':Hp} {a:Addr} {xs:List V} (e:Same H H') (h:SqL K H a xs):SqL K H' a xs:=by
 rcases h with (h | ⟨o,h⟩) | h
 . exact .inl (.inl (e _ _ h))
 . exact .inl (.inr ⟨o,e _ _ h⟩)
 . exact .inr h
end L2
set_option maxHeartbeats 4000000
namespace L2
open PySem PySem.Spec PyProof.Rows
noncomputable def p0 (cells:List (Str×Addr)):List (Str×NameKind)->List (Str×Addr)->List (Str×Addr)
 | [],acc=>acc
 | (n,k)::r,acc=>p0 cells r (if k==.free then (n,(cells.lookup n).getD 0)::acc else acc)
theorem Xf:∀{names:List (Str×NameKind)} {acc:List (Str×Addr)},
  (∀y∈names,y.2=.free->∃c,cells.lookup y.1=some c)->(∀y c,acc.lookup y=some c->cells.lookup y=some c)->(p0 cells names acc).lookup x=some c->cells.lookup x=some c
 | [],acc,_,ha,h=>ha x c h
 | (n,k)::r,acc,hf,ha,h=>by
  refine Xf (names:=r) (fun y hy=>hf y (List.mem_cons_of_mem _ hy)) (fun y c'=>?_) h;by_cases hk:k=.free
  . subst hk;obtain ⟨c0,e0⟩:=hf (n,.free) List.mem_cons_self rfl;intro e;have e1:(if (NameKind.free==NameKind.free)=true then (n,(cells.lookup n).getD 0)::acc else acc)=(n,(cells.lookup n).getD 0)::acc:=ξ (show (NameKind.free==NameKind.free)=true from rfl);rw [e1,List.lookup_cons] at e;cases hyn:y==n with
    | true=>
     rw [hyn] at e
     have e2:y=n:=by simpa using hyn
     subst e2
     have e3:=Option.some.inj e
     have e0':cells.lookup y=some c0:=e0
     rw [e0'] at e3 ⊢
     exact congrArg some e3
    | false=>rw [hyn] at e;exact ha y c' e
  . have e1:(if (k==NameKind.free)=true then (n,(cells.lookup n).getD 0)::acc else acc)=acc:=ψ (by simpa using hk);rw [e1];exact ha y c'
theorem Mf:∀{names:List (Str×NameKind)} {acc:List (Str×Addr)},
  ((∃c,acc.lookup x=some c)\/∃y∈names,y.2=.free/\y.1=x)->∃c,(p0 cells names acc).lookup x=some c
 | [],acc,h=>by
  rcases h with h | ⟨y,hy,_⟩
  . exact h
  . cases hy
 | (n,k)::r,acc,h=>by
  refine Mf (names:=r) ?_;by_cases hk:k=.free
  . subst hk;have e1:(if (NameKind.free==NameKind.free)=true then (n,(cells.lookup n).getD 0)::acc else acc)=(n,(cells.lookup n).getD 0)::acc:=ξ (show (NameKind.free==NameKind.free)=true from rfl);rw [e1,List.lookup_cons];cases hxn:x==n with
    | true=>exact .inl ⟨_,rfl⟩
    | false=>
     rcases h with h | ⟨y,hy,hf,e⟩
     . exact .inl h
     . rcases List.mem_cons.mp hy with z | z
       . subst z;have e':n=x:=e;subst e';simp at hxn
       . exact .inr ⟨y,z,hf,e⟩
  . have e1:(if (k==NameKind.free)=true then (n,(cells.lookup n).getD 0)::acc else acc)=acc:=ψ (by simpa using hk);rw [e1];rcases h with h | ⟨y,hy,hf,e⟩
    . exact .inl h
    . rcases List.mem_cons.mp hy with z | z
      . subst z;exact absurd hf hk
      . exact .inr ⟨y,z,hf,e⟩
theorem Mw (hf:∀y∈scope.names,y.2=.free->∃c,env.cells.lookup y.1=some c):closureFor scope env=pure (p0 env.cells scope.names []):=by
 have go:∀(names:List (Str×NameKind)) (acc:List (Str×Addr)),(∀y∈names,y.2=.free->∃c,env.cells.lookup y.1=some c) ->
   (forIn names acc fun x cs=>if (x.2==NameKind.free)=true then do let a <-cellOf env x.1;pure (ForInStep.yield ((x.1,a)::cs)) else pure (ForInStep.yield cs):Sem (List (Str×Addr)))=pure (p0 env.cells names acc):=by
  intro names
  induction names with
  | nil=>intro acc _;rfl
  | cons p r ih=>
   intro acc h
   obtain ⟨n,k⟩:=p
   rw [List.forIn_cons]
   by_cases hk:k=.free
   . subst hk;obtain ⟨c,e⟩:=h (n,.free) List.mem_cons_self rfl;have e':env.cells.lookup n=some c:=e;have e1:cellOf env n=pure c:=by unfold cellOf;rw [e']
     have e2:p0 env.cells ((n,NameKind.free)::r) acc=p0 env.cells r ((n,c)::acc):=by show p0 env.cells r (if (NameKind.free==NameKind.free)=true then (n,(env.cells.lookup n).getD 0)::acc else acc)=_;rw [ξ (show (NameKind.free==NameKind.free)=true from rfl),e'];rfl
     rw [e2,<-ih _ fun y hy=>h y (List.mem_cons_of_mem _ hy)];show ((if (NameKind.free==NameKind.free)=true then do let a <-cellOf env n;pure (ForInStep.yield ((n,a)::acc)) else pure (ForInStep.yield acc)) >>= _:Sem _)=_;rw [ξ (show (NameKind.free==NameKind.free)=true from rfl),e1];rfl
   . have hk':(k==NameKind.free)=false:=by simpa using hk
     have e2:p0 env.cells ((n,k)::r) acc=p0 env.cells r acc:=by show p0 env.cells r (if (k==NameKind.free)=true then _ else acc)=_;rw [ψ (by rw [hk'];exact η)]
     rw [e2,<-ih _ fun y hy=>h y (List.mem_cons_of_mem _ hy)];show ((if (k==NameKind.free)=true then do let a <-cellOf env n;pure (ForInStep.yield ((n,a)::acc)) else pure (ForInStep.yield acc)) >>= _:Sem _)=_;rw [ψ (by rw [hk'];exact η)];rfl
 have:=go scope.names [] hf;unfold closureFor;simpa using this
theorem zA (I:Nat->Shared->Prop)
  (turn:∀n s,I n s->wpAny (model prog w) A (pyNext it) (fun r s₁=>match r with
   | none=>R (.ok .next) s₁
   | some v=>wpAny (model prog w) A (letOwnedTupleGo target it v) (fun _ s₁'=>wpAny (model prog w) A (assign target env v) (fun _ s₂=>
    wpAny (model prog w) A (forIn ifs true fun c r=>if r=true then do let ok <-isTrue c env (eval c env);pure (ForInStep.yield ok) else pure (ForInStep.yield r)) (fun ok s₃=>
     if ok=true then wpAny (model prog w) A (eval elt env) (fun x s₄=>
      wpAny (model prog w) A (call (.builtin "list.append") [acc,x]) (fun _ s₅=>∃m,m<n/\I m s₅) (fun _ _=>False) s₄) (fun _ _=>False) s₃
     else ∃m,m<n/\I m s₃) (fun _ _=>False) s₂) (fun _ _=>False) s₁') (fun _ _=>False) s₁) (fun _ _=>False) s)
  (n:Nat) (h:I n s) :
  codeAny (model prog w) A (.compLoop (.ListComp elt [⟨target,iter,ifs,0⟩] scope pos) 0 it acc env) R s:=by
 refine codeAny_loop rfl I (fun n s hI=>?_) n h
 show wpAny _ A ((compTurn (.ListComp elt [⟨target,iter,ifs,0⟩] scope pos) 0 it acc env).onRaise (fun x=>do noteFrame x env;theTreesLotGoes x)) _ _ s
 refine wpAny_noted ?_
 rw [compTurn_list]
 refine δ (wpAny_standAt (δ (wpAny_mono (turn n s hI) (fun r s₁ h₁=>?_) fun _ _ h'=>h'.elim)))
 cases r with
 | none=>exact ω h₁
 | some v=>
  refine δ (wpAny_mono h₁ (fun _ s₁' h₁'=>?_) fun _ _ h'=>h'.elim)
  refine δ (wpAny_mono h₁' (fun _ s₂ h₂=>δ (wpAny_mono h₂ (fun ok s₃ h₃=>?_) fun _ _ h'=>h'.elim)) fun _ _ h'=>h'.elim)
  cases ok with
  | false=>exact ω ⟨rfl,h₃⟩
  | true=>
   exact δ (δ (wpAny_mono h₃ (fun x s₄ h₄=>δ (wpAny_mono h₄ (fun _ s₅ h₅=>ω (ω ⟨rfl,h₅⟩)) fun _ _ h'=>h'.elim)) fun _ _ h'=>h'.elim))
theorem Na {env:Env}:∀{names:List (Str×NameKind)} {x:Str},
  (names.map fun (n,k)=>if (k==NameKind.free&&env.scope.kind==.function&&env.kindOf n==some .cell) then (n,NameKind.cell) else (n,k)).lookup x =
   (names.lookup x).map fun k=>if (k==NameKind.free&&env.scope.kind==.function&&env.kindOf x==some .cell) then NameKind.cell else k
 | [],_=>rfl
 | (n,k)::r,x=>by
  have ih:=@Na env r x;show List.lookup x ((if (k==NameKind.free&&env.scope.kind==.function&&env.kindOf n==some .cell)=true then (n,NameKind.cell) else (n,k))::_)=_;cases hx:x==n with
  | true=>
   have e:x=n:=by simpa using hx
   subst e
   by_cases hc:(k==NameKind.free&&env.scope.kind==.function&&env.kindOf x==some .cell)=true
   . rw [ξ hc];simp only [List.lookup_cons,hx,Option.map_some,hc,if_true]
   . rw [ψ hc];simp only [List.lookup_cons,hx,Option.map_some,hc,if_false];rfl
  | false=>
   by_cases hc:(k==NameKind.free&&env.scope.kind==.function&&env.kindOf n==some .cell)=true
   . rw [ξ hc];simp only [List.lookup_cons,hx];exact ih
   . rw [ψ hc];simp only [List.lookup_cons,hx];exact ih
def j6 (X:Cx) (sc:Scope) (N':List Str) (fp:List Addr) (s₃:Shared) (H₃:Hp):Cx:=
 { X with env:=compEnvC sc (p0 X.env.cells sc.names []) s₃.heap.objs.size X.env,N:=N',s₀:=s₃,H₀:=H₃,outer:=X.stack,ex:=fp,fn:=fun _=>false,pn:=[],xe:=fun _ _=>False }
noncomputable def C4 (ix:List Nat) (U:St):St:=ix.map fun j=>(U[j]?).getD none
structure CompOk (X:Cx) (sc:Scope) (caps:List Str) (ix:List Nat):Prop where
 calm:X.calm=true
 kind:sc.kind=.function
 ncell:∀y∈sc.names,y.2≠.cell
 free:∀y∈sc.names,y.2=.free->X.env.kindOf y.1=some .cell\/X.env.kindOf y.1=some .free
 names:∀y∈sc.names,y.2=.local->sc.names.lookup y.1=some .local
 cap:∀(j:Nat) x,caps[j]?=some x->sc.names.lookup x=some .free/\∃i,ix[j]?=some i/\X.N[i]?=some x
 len:ix.length=caps.length
noncomputable def Vb (fsc:Scope) (N:List Str) (sc:Scope) (caps:List Str) (ix:List Nat):Bool:=
 sc.kind==.function&&sc.names.all (fun y=>y.2 != .cell)&&sc.names.all (fun y=>y.2 != .free||(fsc.names.lookup y.1==some .cell||fsc.names.lookup y.1==some .free)) &&
  sc.names.all (fun y=>y.2 != .local||sc.names.lookup y.1==some .local)&&caps.all (fun x=>sc.names.lookup x==some .free)&&(ix.map fun i=>N[i]?)==caps.map some
theorem G6 (hc:X.calm=true) (h:Vb X.env.scope X.N sc caps ix=true):CompOk X sc caps ix:=by
 unfold Vb at h;simp only [Bool.and_eq_true] at h;obtain ⟨⟨⟨⟨⟨h1,h2⟩,h3⟩,h4⟩,h5⟩,h6⟩:=h;have e6:(ix.map fun i=>X.N[i]?)=caps.map some:=by simpa using h6
 have elen:ix.length=caps.length:=by simpa using congrArg List.length e6
 refine ⟨hc,by simpa using h1,fun y hy=>?_,fun y hy hf=>?_,fun y hy hl=>?_,fun j x hj=>⟨?_,?_⟩,elen⟩
 . have:=List.all_eq_true.mp h2 y hy;simpa using this
 . have:=List.all_eq_true.mp h3 y hy;rw [hf] at this;simp only [bne_self_eq_false,Bool.false_or,Bool.or_eq_true,beq_iff_eq] at this;exact this
 . have:=List.all_eq_true.mp h4 y hy;rw [hl] at this;simpa using this
 . have:=List.all_eq_true.mp h5 x (List.mem_of_getElem? hj);simpa using this
 . have hjl:j<ix.length:=by rw [elen];exact (List.getElem?_eq_some_iff.mp hj).1
   refine ⟨ix[j],List.getElem?_eq_getElem hjl,?_⟩;have q:=congrArg (fun l=>l[j]?) e6;simp only [List.getElem?_map,List.getElem?_eq_getElem hjl,hj,Option.map_some] at q;exact Option.some.inj q
section
variable {X:Cx} {sc:Scope} {tgs caps:List Str} {ix:List Nat} {pins:List (Addr×Obj)} {U:St} {H:Hp} {s:Shared} {fp:List Addr}
theorem CompOk.free_cell (C:CompOk X sc caps ix) (I:Inv X pins U H s):∀y∈sc.names,y.2=.free->∃c,X.env.cells.lookup y.1=some c:=fun y hy hf=>I.ok.has y.1 (C.free y hy hf)
theorem CompOk.sub (C:CompOk X sc caps ix) (I:Inv X pins U H s) (h:(p0 X.env.cells sc.names []).lookup x=some c):X.env.cells.lookup x=some c:=
 Xf (C.free_cell I) (fun _ _ e=>by cases e) h
theorem Vy (C:CompOk X sc caps ix) (I:Inv X pins U H s) (hf:∀b∈fp,n9 X pins H b) (hl:∀b∈fp,b<s.heap.objs.size) (hn:h'.Ns s.heap.objs.size m)
  (hk:∀b o,s.heap.get? b=some o->h'.get? b=some o) :
  Inv (j6 X sc (tgs++caps) fp s H) [] (List.replicate tgs.length none++C4 ix U) H { s with heap:=h',toks:=t' }:=by
 have sub:∀{x c},(p0 X.env.cells sc.names []).lookup x=some c->X.env.cells.lookup x=some c:=fun h=>C.sub I h
 have clt:∀{x c},X.env.cells.lookup x=some c->c<s.heap.objs.size:=fun {x c} h=>by obtain ⟨v,q⟩:=I.cell x c h;exact q.lt
 refine ⟨⟨I.ok.mod,C.kind,I.ok.glob,I.ok.blt,ζ _,fun x y c h1 h2=>I.ok.inj x y c (sub h1) (sub h2),fun x hx=>?_,fun x c hfn _=>?_,I.ok.hd,I.ok.frames,.inl rfl,fun b hb=>⟨?_,fun x c h z=>?_⟩,fun b o e=>I.bs b o e,Nat.le_trans I.ok.bsz I.sz,fun b o e hb=>?_,fun b hb hfs=>?_,I.stack,I.stkFree⟩,
  rfl,I.bare,Un.kept hk,⟨m,hn,fun i x v e1 e2 e3=>?_⟩,fun x c h=>?_,I.hok.fresh (ζ _),fun x c h=>I.freeC x c (sub h),fun p hp=>absurd (show p∈([]:List (Addr×Obj)) from hp) (by simp),I.hok.kept hk,?_⟩
 . -- a cell or free name of the block has a cell
   have hx':(relabel sc X.env).names.lookup x=some .cell\/(relabel sc X.env).names.lookup x=some .free:=hx;have e:(relabel sc X.env).names.lookup x=(sc.names.lookup x).map fun k=>if (k==NameKind.free&&X.env.scope.kind==.function&&X.env.kindOf x==some .cell) then NameKind.cell else k:=Na
   rw [e] at hx';cases q:sc.names.lookup x with
   | none=>rw [q] at hx';rcases hx' with z | z<;>cases z
   | some k=>
    have hm:(x,k)∈sc.names:=PySem.mem_of_lookup q
    have hkf:k=.free:=by
     rw [q] at hx';simp only [Option.map_some] at hx';by_cases hkk:k=.free
     . exact hkk
     . have:(k==NameKind.free)=false:=by simpa using hkk
       simp only [this,Bool.false_and,Bool.false_eq_true,if_false] at hx';rcases hx' with z | z
       . exact absurd (Option.some.inj z) (C.ncell _ hm)
       . exact Option.some.inj z
    subst hkf
    exact Mf (.inr ⟨_,hm,rfl,rfl⟩)
 . exact absurd (show false=true from hfn) η
 . exact Nat.ne_of_lt (hl b hb)
 . exact (hf b hb).2.2.2.2.1 x c (sub h) z
 . obtain ⟨_,_,_,hx,_⟩:=hf b hb;rcases hx with z | z
   . exact I.ok.noex b o e z
   . exact absurd (Nat.lt_of_lt_of_le (π e) (Nat.le_trans I.ok.bsz z)) (χ _)
 . obtain ⟨_,h1,h2,_⟩:=hf b hb;rcases List.mem_cons.mp (I.stkSub b hfs) with z | z
   . exact h1 z
   . exact h2 z
 . -- the captured names' values
   have hi:tgs.length<=i:=by
    by_cases hi:i<tgs.length
    . rw [List.getElem?_append_left (by simpa using hi),List.getElem?_replicate] at e2;split at e2<;>cases e2
    . lia
   have e1':caps[i - tgs.length]?=some x:=by have:(tgs++caps)[i]?=some x:=e1;rw [List.getElem?_append_right hi] at this;exact this
   rw [List.getElem?_append_right (by simpa using hi),List.length_replicate] at e2;obtain ⟨hfr,j,hj,hjN⟩:=C.cap _ x e1';have e2':U[j]?=some (some v):=by
    unfold C4 at e2;rw [List.getElem?_map,hj] at e2;simp only [Option.map_some] at e2;have e2:=Option.some.inj e2;cases q:U[j]? with
    | none=>rw [q] at e2;cases e2
    | some o=>rw [q] at e2;exact congrArg some e2
   have hmem:(x,NameKind.free)∈sc.names:=PySem.mem_of_lookup hfr;have hkind:=C.free _ hmem rfl;obtain ⟨m0,hn0,hl0⟩:=I.loc;have hvis:Vis X.env.scope x:=hkind.elim (fun z=>.inr (.inl z)) fun z=>.inr (.inr z)
   obtain ⟨u,r,look⟩:=hl0 j x v hjN e2' hvis;refine ⟨u,r,?_⟩;rcases look with ⟨k,_⟩ | ⟨_,c,hc,z⟩
   . rcases hkind with q | q
     . rw [show X.env.kindOf x=some .cell from q] at k;cases k
     . rw [show X.env.kindOf x=some .free from q] at k;cases k
   . obtain ⟨c',hc'⟩:=Mf (cells:=X.env.cells) (names:=sc.names) (acc:=[]) (x:=x) (.inr ⟨_,hmem,rfl,rfl⟩);have hcc:c'=c:=by have:=sub hc';rw [hc] at this;exact (Option.some.inj this).symm
     subst hcc;refine .inr ⟨?_,c',hc',?_⟩
     . have e:(relabel sc X.env).names.lookup x=(sc.names.lookup x).map fun k=>if (k==NameKind.free&&X.env.scope.kind==.function&&X.env.kindOf x==some .cell) then NameKind.cell else k:=Na
       show (relabel sc X.env).names.lookup x=some .cell\/(relabel sc X.env).names.lookup x=some .free;rw [e,hfr];simp only [Option.map_some];split
       . exact .inl rfl
       . exact .inr rfl
     . obtain ⟨o,ho,hd⟩:=z;exact ⟨o,hk _ o ho,hd⟩
 . obtain ⟨v,o,ho,hd⟩:=I.cell x c (sub h);exact ⟨v,o,hk _ o ho,hd⟩
 . show _=(tgs++caps).length;unfold C4;rw [θ,List.length_replicate,List.length_map,θ,C.len]
inductive PTs (X:Cx):List Expr->TT->Prop where
 | nil:PTs X [] (fun _ H Q=>Q true H)
 | one {c:Expr} {t:TT} (h:PT X c t):PTs X [c] t
theorem PTs.run (h:PTs X ifs t) (I:Inv X pins U H s) (q:t U H Q) :
  wpAny (model X.prog X.w) X.A (forIn ifs true fun c r=>if r=true then do let ok <-isTrue c X.env (eval c X.env);pure (ForInStep.yield ok) else pure (ForInStep.yield r)) (TP X pins U Q) X.xe s:=by
 cases h with
 | nil=>exact wpAny_tests_nil ⟨H,I,q⟩
 | one h=>exact wpAny_tests_one (h pins s U H Q I q)
def Gx (J:It) (D:Addr) (B:V->Hp->(List V->Hp->Prop)->Prop) (cs:St) (tt:TT) (te:TE) (Q:VK) (H1:Hp):Prop:=
 ∃W:Nat->Nat->List V->Hp->Prop,(∃m,W 0 m [] (upd H1 D (.lst [])))/\∀i m ys H,W i m ys H ->
  H D=some (.lst ys)/\((J.stop i H/\Q (.ref D) H)\/(J.go i H/\∀x H',J.yld i H x H'->B x H' fun vals H2=>tt (vals.map some++cs) H2 fun b H3=>
   if b=true then te (vals.map some++cs) H3 fun y H4=>H4 D=some (.lst ys)/\ys.length<sizeLine/\∃m',m'<m/\W (i+1) m' (ys++[y]) (upd H4 D (.lst (ys++[y])))
   else ∃m',m'<m/\W (i+1) m' ys H3))
def J7 (wi:TI) (B:V->Hp->(List V->Hp->Prop)->Prop) (ix:List Nat) (tt:TT) (te:TE):TE:=fun U H Q=>wi U H fun J H1=>∀D,H1 D=none->Gx J D B (C4 ix U) tt te Q H1
variable {elt tg iter:Expr} {ifs:List Expr} {pos:Pos} {g:TG} {B:V->Hp->(List V->Hp->Prop)->Prop} {tt:TT} {te:TE}
theorem Vx (C:CompOk X sc caps ix) (hg:∀fp s H,PG (j6 X sc (tgs++caps) fp s H) tg g)
  (hB:∀(x:V) (σt cs:St) (H:Hp) (Q:St->Hp->Prop),σt.length=tgs.length->B x H (fun vals H2=>Q (vals.map some++cs) H2)->g x (σt++cs) H fun σ2 H2=>(∃vals:List V,vals.length=tgs.length/\σ2=vals.map some++cs)/\Q σ2 H2)
  (ht:∀fp s H,PTs (j6 X sc (tgs++caps) fp s H) ifs tt) (he:∀fp s H,PE (j6 X sc (tgs++caps) fp s H) elt te)
  {J:It} {it:Addr} {tn:Nat->Heap->Prop} {Q:VK} {E:Value->Shared->Prop} (I2:Inv X pins U H s) (T:Turn X.prog X.w X.K tg J fp it tn) (st:tn 0 s.heap) (hf:∀b∈fp,n9 X pins H b)
  (hw:∀D,H D=none->Gx J D B (C4 ix U) tt te Q H) {RR:Value->Addr->Result->Shared->Prop}
  (hRR:∀D Cc H' s' m,s'.heap.Ns Cc m->Inv X pins U H' s'->n9 X pins H' Cc->Q (.ref D) H'->RR (.ref D) Cc (.ok .next) s') :
  wpAny (model X.prog X.w) X.A (newList []) (fun acc s₃=>wpAny (model X.prog X.w) X.A (newFunctionEnv sc X.env.globals (p0 X.env.cells sc.names []) [] X.env.qual none .none (some X.env)) (fun cenv s₄=>
   codeAny (model X.prog X.w) X.A (.compStart (.ListComp elt [⟨tg,iter,ifs,0⟩] sc pos) 0 (.ref it) acc { cenv with scope:=relabel sc X.env }) (RR acc cenv.locals) s₄) E s₃) E s:=by
 refine wpAny_newObj_type (wpAny_newFunctionEnv C.ncell (by intro y hy;simp at hy) (fun h₁ hns₁ hsb₁=>?_) C.kind)
 have I3:Inv X pins U (upd H s.heap.objs.size (.lst [])) { s with heap:=s.heap.push { cls:=.type "list",dict:=none,data:=.seq ([]:List Value).toArray } }:=I2.lnew (t':=s.toks) (its:=[]) .nil (Nat.zero_le _)
 have hD0:H s.heap.objs.size=none:=I2.fresh
 have lt0:∀b∈fp,b<s.heap.objs.size:=fun b hb=>by obtain ⟨o,e,_⟩:=T.obj _ _ st b hb;exact π e
 have hfD:∀b∈fp,b≠s.heap.objs.size:=fun b hb=>Nat.ne_of_lt (lt0 b hb)
 have hf3:∀b∈fp,n9 X pins (upd H s.heap.objs.size (.lst [])) b:=fun b hb=>⟨by rw [b8 (hfD b hb)];exact (hf b hb).1,(hf b hb).2⟩
 generalize hs3:({ s with heap:=s.heap.push { cls:=.type "list",dict:=none,data:=.seq ([]:List Value).toArray } }:Shared)=s₃ at I3 hns₁ hsb₁ ⊢
 have hs3h:s₃.heap=s.heap.push { cls:=.type "list",dict:=none,data:=.seq ([]:List Value).toArray }:=by rw [<-hs3]
 have st3:tn 0 s₃.heap:=T.keep _ _ _ st fun b _ o e=>by rw [hs3h];exact τ _ e
 have hl3:∀b∈fp,b<s₃.heap.objs.size:=fun b hb=>by rw [hs3h,Heap.size_push];exact Nat.lt_succ_of_lt (lt0 b hb)
 generalize hDD:s.heap.objs.size=D at *
 have hk1:∀b o,s₃.heap.get? b=some o->h₁.get? b=some o:=fun b o e=>hsb₁.extBut b o (Nat.ne_of_lt (π e)) (τ _ e)
 have I4:=Vy (tgs:=tgs) (t':=s₃.toks+([]:List (Str×Value)).length) C I3 hf3 hl3 hns₁ hk1
 have st4:tn 0 h₁:=T.keep _ _ _ st3 fun b _ o e=>hk1 b o e
 have fr4:∀b∈fp,(upd H D (.lst [])) b=none:=fun b hb=>(hf3 b hb).1
 generalize hXc:j6 X sc (tgs++caps) fp s₃ (upd H D (.lst []))=Xc at I4
 have hprog:Xc.prog=X.prog:=by rw [<-hXc];rfl
 have hww:Xc.w=X.w:=by rw [<-hXc];rfl
 have hKK:Xc.K=X.K:=by rw [<-hXc];rfl
 have hcalm:Xc.calm=true:=by rw [<-hXc];exact C.calm
 have hA:Xc.A=X.A:=by rw [<-hXc];rfl
 have henv:Xc.env=compEnvC sc (p0 X.env.cells sc.names []) s₃.heap.objs.size X.env:=by rw [<-hXc];rfl
 have hxe:Xc.xe=fun _ _=>False:=by rw [<-hXc];rfl
 have hg':=hg fp s₃ (upd H D (.lst []))
 have ht':=ht fp s₃ (upd H D (.lst []))
 have he':=he fp s₃ (upd H D (.lst []))
 rw [hXc] at hg' ht' he'
 obtain ⟨W,⟨m0,w0⟩,turn⟩:=hw D hD0
 have stat:∀{H':Hp},(∀b∈fp,H' b=none)->∀b∈fp,n9 Xc [] H' b:=fun {H'} hn b hb=>by
  refine ⟨hn b hb,?_,?_,.inl ?_,fun x c e z=>?_,fun p hp=>?_⟩
  . rw [henv];exact Nat.ne_of_lt (hl3 b hb)
  . rw [<-hXc];intro z;obtain ⟨_,h1,h2,_⟩:=hf b hb;rcases List.mem_cons.mp (I3.stkSub b z) with q | q
    . exact h1 q
    . exact h2 q
  . rw [<-hXc];exact hb
  . rw [henv] at e;exact (hf b hb).2.2.2.2.1 x c (C.sub I2 e) z
  . rw [<-hXc] at hp;exact absurd (show p∈([]:List (Addr×Obj)) from hp) (by simp)
 have loop:∀s₄:Shared,s₄={ s₃ with heap:=h₁,toks:=s₃.toks+([]:List (Str×Value)).length } ->
   codeAny (model X.prog X.w) X.A (.compLoop (.ListComp elt [⟨tg,iter,ifs,0⟩] sc pos) 0 (.ref it) (.ref D) (compEnvC sc (p0 X.env.cells sc.names []) s₃.heap.objs.size X.env)) (RR (.ref D) s₃.heap.objs.size) s₄:=by
  intro s₄ hs4
  rw [<-hprog,<-hww,<-hA,<-henv]
  refine zA (fun n s'=>∃(i:Nat) (ys:List V) (σt:St) (H':Hp),σt.length=tgs.length/\Inv Xc [] (σt++C4 ix U) H' s'/\tn i s'.heap/\(∀b∈fp,H' b=none)/\W i n ys H') ?_ m0
   ⟨0,[],List.replicate tgs.length none,upd H D (.lst []),by simp,by rw [hs4];exact I4,by rw [hs4];exact st4,fr4,w0⟩
  rintro n s5 ⟨i,ys,σt,H5,hσ,I5,st5,fr5,w5⟩
  obtain ⟨hD5,hturn⟩:=turn i n ys H5 w5
  rcases hturn with ⟨stop,q⟩ | ⟨go,step⟩
  . rw [hprog,hww];refine thn (T.done Xc hprog hww hKK hcalm i [] s5 _ H5 _ I5 (stat fr5) st5 stop) fun r s6 ⟨hr,I6⟩=>?_
    subst hr;obtain ⟨m6,hn6,_⟩:=I6.loc;rw [henv] at hn6;have hcb:∀b∈fp,(b∈X.ex\/X.s₀.heap.objs.size<=b)/\b≠X.env.locals/\(∀x c,X.env.cells.lookup x=some c->c≠b)/\∀p∈X.pn++pins,p.1≠b:=fun b hb=>⟨(hf b hb).2.2.2.1,(hf b hb).2.1,(hf b hb).2.2.2.2.1,(hf b hb).2.2.2.2.2⟩
    have hos:s6.os=s₃.os:=by have:=I6.os;rw [<-hXc] at this;exact this
    have un6:Un (frs X.stack) fp (upd H D (.lst [])) H5 s₃.heap s6.heap:=by have:=I6.base;rw [<-hXc] at this;exact this
    have hok6:HOk X.prog X.w H5 s6.heap:=by have:=I6.hok;rw [hprog,hww] at this;exact this
    have I7:Inv X pins U H5 s6:=I3.call' hos un6 hok6 I6.bare hcb;refine hRR D _ H5 s6 m6 hn6 I7 ?_ q;have hCn:H5 s₃.heap.objs.size=none:=by have:=I6.free;rw [henv] at this;exact this
    exact I3.fpOk (ζ _) hCn
  . rw [hprog,hww];refine thn (T.item Xc hprog hww hKK hcalm i [] s5 _ H5 _ I5 (stat fr5) st5 go) fun r s6 ⟨u,hr,h6⟩=>?_
    subst hr;refine thn h6 fun _ s7 ⟨x,H7,I7,r7,y7,st7,fr7⟩=>?_
    have I7':=I7.pinned (stat fr7) (T.obj _ _ st7);have hst:=hg' _ s7 _ H7 x u _ I7' r7 (hB x σt (C4 ix U) H7 (fun σ2 H2=>tt σ2 H2 fun b H3=>if b=true then te σ2 H3 fun y H4=>H4 D=some (.lst ys)/\ys.length<sizeLine/\∃m',m'<n/\W (i+1) m' (ys++[y]) (upd H4 D (.lst (ys++[y]))) else ∃m',m'<n/\W (i+1) m' ys H3) hσ (step x H7 y7));rw [hprog,hww,hxe] at hst;refine thn hst fun _ s8 ⟨σ8,H8,I8,⟨vals,hvl,hσ8⟩,q8⟩=>?_
    have again:∀{H9:Hp} {s9:Shared},Inv Xc ([]++U4 fp s7.heap) σ8 H9 s9->tn (i+1) s9.heap/\∀b∈fp,H9 b=none:=fun {H9 s9} I9=>
     ⟨T.keep _ _ _ st7 fun b hb o e=>(I9.pin (b,o) (List.mem_append_right _ (List.mem_append_right _ (W0 hb e)))).1,fun b hb=>by obtain ⟨o,e,d⟩:=T.obj _ _ st7 b hb;exact (I9.pin (b,o) (List.mem_append_right _ (List.mem_append_right _ (W0 hb e)))).2.1⟩
    subst hσ8;have hts:=ht'.run I8 q8;rw [hprog,hww,hxe] at hts;refine thn hts fun ok s9 ⟨H9,I9,q9⟩=>?_
    cases ok with
    | false=>
     rw [ψ η] at q9 ⊢
     obtain ⟨m',hm,w9⟩:=q9
     obtain ⟨a1,a2⟩:=again I9
     exact ⟨m',hm,i+1,ys,vals.map some,H9,by simpa using hvl,I9.unpinned,a1,a2,w9⟩
    | true=>
     rw [ξ rfl] at q9 ⊢
     have hev:=he' _ s9 _ H9 _ I9 q9
     rw [hprog,hww,hxe] at hev
     refine thn hev fun uy s10 ⟨y,H10,I10,r10,hD10,hz10,m',hm,w10⟩=>?_
     have hap:=V7 (X:=Xc) _ s10 _ H10 (.ref D) [y] (.ref D) [uy] (fun v H11=>v=.non/\H11=upd H10 D (.lst (ys++[y]))) I10 rfl (.cons r10 .nil) ⟨D,ys,y,rfl,rfl,hD10,hz10,rfl,rfl⟩
     rw [hprog,hww,hxe] at hap
     refine thn hap fun _ s11 ⟨v,H11,I11,_,_,e11⟩=>?_
     subst e11
     obtain ⟨a1,a2⟩:=again I11
     exact ⟨m',hm,i+1,ys++[y],vals.map some,_,by simpa using hvl,I11.unpinned,a1,a2,w10⟩
 refine codeAny_compStart_list (loop _ rfl) (T.self X.A 0 _ _ _ st4 (loop _ rfl))
theorem vN (C:CompOk X sc caps ix) (hi:PI X tg iter wi) (hg:∀fp s H,PG (j6 X sc (tgs++caps) fp s H) tg g)
  (hB:∀(x:V) (σt cs:St) (H:Hp) (Q:St->Hp->Prop),σt.length=tgs.length->B x H (fun vals H2=>Q (vals.map some++cs) H2)->g x (σt++cs) H fun σ2 H2=>(∃vals:List V,vals.length=tgs.length/\σ2=vals.map some++cs)/\Q σ2 H2)
  (ht:∀fp s H,PTs (j6 X sc (tgs++caps) fp s H) ifs tt) (he:∀fp s H,PE (j6 X sc (tgs++caps) fp s H) elt te)
  (hs:∀x,foldedSetIterable iter X.env x=pure x:=by intro _;rfl):PE X (.ListComp elt [⟨tg,iter,ifs,0⟩] sc pos) (J7 wi B ix tt te):=by
 intro pins s U H Q I h
 rw [eval_ListComp]
 refine wpAny_comprehension_free (use:=none) rfl hs (Mw (C.free_cell I)) C.kind C.names (thn (hi pins s U H _ I h) fun v s1 h1=>thn h1 fun itv s2 h2=>?_)
 obtain ⟨it,fp,tn,J,H2,e,I2,T,st2,f2,hw⟩:=h2
 subst e
 refine Vx (RR:=fun acc Cc=>compPost (model X.prog X.w) X.A X.xe none (EP X pins U Q) acc Cc) C hg hB ht he I2 T st2 f2 hw ?_
 intro D Cc H' s' m hn I' hfp q
 refine ⟨m,hn,fun h' sb=>⟨.ref D,H',?_,rfl,q⟩⟩
 exact I'.turned (t':=s'.toks) (fun b o hb e=>sb.extBut b o hb e) hfp.1 hfp.2.1 hfp.2.2.2.1 hfp.2.2.2.2.1 hfp.2.2.2.2.2
theorem Su (hN:X.N.Nodup) (hk:X.N[k]?=some x) (hx:X.env.scope.names.lookup x=some .local) (C:CompOk X sc caps ix) (hi:PI X tg iter wi) (hg:∀fp s H,PG (j6 X sc (tgs++caps) fp s H) tg g)
  (hB:∀(x:V) (σt cs:St) (H:Hp) (Q:St->Hp->Prop),σt.length=tgs.length->B x H (fun vals H2=>Q (vals.map some++cs) H2)->g x (σt++cs) H fun σ2 H2=>(∃vals:List V,vals.length=tgs.length/\σ2=vals.map some++cs)/\Q σ2 H2)
  (ht:∀fp s H,PTs (j6 X sc (tgs++caps) fp s H) ifs tt) (he:∀fp s H,PE (j6 X sc (tgs++caps) fp s H) elt te)
  (hsw:swapsWith (.ListComp elt [⟨tg,iter,ifs,0⟩] sc pos) (some (.Name x px)) spos.line X.env=pure true:=by rfl)
  (hs:∀x,foldedSetIterable iter X.env x=pure x:=by intro _;rfl):PS X (.Assign [.Name x px] (.ListComp elt [⟨tg,iter,ifs,0⟩] sc pos) spos) (E5 (J7 wi B ix tt te) (x5 k)):=by
 intro pins s U H D0 I h
 rw [exec_Assign_Name_used _ _ _ _ hsw]
 refine δ (wpAny_standAt (δ ?_))
 show wpAny _ X.A (do let _ <-comprehension (.ListComp elt [⟨tg,iter,ifs,0⟩] sc pos) sc X.env _ (newList []) false (eval iter X.env) (some (assign (.Name x px) X.env))) _ _ s
 refine δ (wpAny_mono (wpAny_comprehension_free (use:=some (assign (.Name x px) X.env)) (Q:=fun _ s'=>SP X pins D0 .next s') rfl hs (Mw (C.free_cell I)) C.kind C.names
  (thn (hi pins s U H _ I h) fun v s1 h1=>thn h1 fun itv s2 h2=>?_)) (fun _ s' hq=>ω (ω hq)) fun _ _ e=>e)
 obtain ⟨it,fp,tn,J,H2,e,I2,T,st2,f2,hw⟩:=h2
 subst e
 refine Vx (RR:=fun acc Cc=>compPost (model X.prog X.w) X.A X.xe (some (assign (.Name x px) X.env)) (fun _ s'=>SP X pins D0 .next s') acc Cc) C hg hB ht he I2 T st2 f2 hw ?_
 intro D Cc H' s' m hn I' hfp q
 show wpAny _ X.A (assign (.Name x px) X.env (.ref D)) _ _ _
 refine wpAny_assign_Name (Lk I' hN hk (.inl hx) (v:=.ref D) rfl (fun s'' I'' hch=>?_) (.inr hx))
 obtain ⟨a,sb,ha⟩:=hch
 have hne:Cc≠a:=by
  rcases ha with z | z
  . rw [z];exact hfp.2.1
  . exact fun e=>hfp.2.2.2.2.1 x a z e.symm
 refine ⟨m,hn.sameBut sb hne,fun h' sb'=>⟨_,H',?_,q⟩⟩
 exact I''.turned (t':=s''.toks) (fun b o hb e=>sb'.extBut b o hb e) hfp.1 hfp.2.1 hfp.2.2.2.1 hfp.2.2.2.2.1 hfp.2.2.2.2.2
end
section
variable {X:Cx}
theorem PE.imp (h:PE X e t) (hi:∀U H Q,t' U H Q->t U H Q):PE X e t':=fun pins s U H Q I q=>h pins s U H Q I (hi U H Q q)
theorem PT.imp (h:PT X e t) (hi:∀U H Q,t' U H Q->t U H Q):PT X e t':=fun pins s U H Q I q=>h pins s U H Q I (hi U H Q q)
theorem OpR.imp (h:OpR X f r) (hi:∀x y H Q,r' x y H Q->r x y H Q):OpR X f r':=fun pins s U H x y v u Q I rx ry q=>h pins s U H x y v u Q I rx ry (hi x y H Q q)
theorem UnR.imp (h:UnR X f r) (hi:∀x H Q,r' x H Q->r x H Q):UnR X f r':=fun pins s U H x v Q I rx q=>h pins s U H x v Q I rx (hi x H Q q)
theorem CallR.imp (h:CallR X f r) (hi:∀xs H Q,r' xs H Q->r xs H Q):CallR X f r':=fun pins s U H xs us Q I rx q=>h pins s U H xs us Q I rx (hi xs H Q q)
end
noncomputable def u8 (i:Nat):TE:=fun U H Q=>match U[i]? with | some (some v)=>Q v H | _=>False
theorem pw (i:Nat) (hN:X.N[i]?=some x:=by rfl) (hv:Vis X.env.scope x:=by first | exact .inl rfl | exact .inr (.inl rfl) | exact .inr (.inr rfl)) (hd:(x==("__debug__":Str))=false:=by decide)
  (hcd:(x==("__classdict__":Str))=false:=by decide):PE X (.Name x pos) (u8 i):=
 (K4 hN hv hd hcd).imp fun U H Q q=>by
  unfold u8 at q;unfold Fv;split at q
  . rename_i v e;exact ⟨v,e,q⟩
  . exact q.elim
noncomputable def cI (g:Int->Int->V):R2:=fun x y H Q=>match x,y with | .int i,.int j=>Q (g i j) H | _,_=>False
noncomputable def cIC (C:Int->Int->Prop) (g:Int->Int->V):R2:=fun x y H Q=>match x,y with | .int i,.int j=>C i j/\Q (g i j) H | _,_=>False
theorem OpR.cI (h:OpR X f (rI0 g)):OpR X f (cI g):=h.imp fun x y H Q q=>by cases x<;>cases y<;>first | exact ⟨_,_,rfl,rfl,q⟩ | exact q.elim
theorem OpR.cIC (h:OpR X f (rI C g)):OpR X f (cIC C g):=h.imp fun x y H Q q=>by cases x<;>cases y<;>first | exact ⟨_,_,rfl,rfl,q.1,q.2⟩ | exact q.elim
section
variable {X:Cx}
theorem r8:OpR X (binaryOp .Add) (cI fun i j=>.int (i+j)):=op_add.cI
theorem D8:OpR X (binaryOp .Sub) (cI fun i j=>.int (i - j)):=op_sub.cI
theorem J6:OpR X (binaryOp .Mult) (cIC CMul fun i j=>.int (i * j)):=op_mul.cIC
theorem Ad:OpR X (binaryOp .FloorDiv) (cIC O4 fun i j=>.int (i / j)):=op_fdiv.cIC
theorem l8:OpR X (binaryOp .Mod) (cIC (fun _ j=>0<j) fun i j=>.int (i % j)):=op_mod.cIC
theorem Gw:OpR X (binaryOp .Pow) (cIC R5 fun i j=>.int (i ^ j.toNat)):=op_pow.cIC
theorem o7:OpR X (compareOp .Lt) (cI fun i j=>.bl (decide (i<j))):=op_lt.cI
theorem R1:OpR X (compareOp .LtE) (cI fun i j=>.bl (decide (i<=j))):=op_le.cI
theorem X6:OpR X (compareOp .Gt) (cI fun i j=>.bl (decide (j<i))):=op_gt.cI
theorem y2v:OpR X (compareOp .GtE) (cI fun i j=>.bl (decide (j<=i))):=op_ge.cI
def cU (g:Int->V):V->Hp->VK->Prop:=fun x H Q=>match x with | .int i=>Q (g i) H | _=>False
theorem T0:UnR X (unaryOp .USub) (cU fun i=>.int (-i)):=un_neg.imp fun x H Q q=>by cases x<;>first | exact ⟨_,rfl,q⟩ | exact q.elim
end
noncomputable def D7 (H:Hp) (p:Addr):Option (List V):=match H p with
 | some (.lst xs)=>some xs
 | some (.tup xs)=>some xs
 | some (.frz _ (.lst xs))=>some xs
 | some (.frz _ (.tup xs))=>some xs
 | _=>none
theorem Ud {K:Frag} {H:Hp} {p:Addr} {xs:List V} (h:D7 H p=some xs):SqL K H p xs\/SqT K H p xs:=by
 unfold D7 at h;split at h;all_goals first | (cases h;done) | skip
 . rename_i ys e;cases h;exact .inl (.inl (.inl e))
 . rename_i ys e;cases h;exact .inr (.inl (.inl e))
 . rename_i o ys e;cases h;exact .inl (.inl (.inr ⟨_,e⟩))
 . rename_i o ys e;cases h;exact .inr (.inl (.inr ⟨_,e⟩))
theorem Va (h:H p=some (.lst xs)):D7 H p=some xs:=by unfold D7;rw [h]
theorem Uz (h:H p=some (.tup xs)):D7 H p=some xs:=by unfold D7;rw [h]
def M5 (x:V) (H:Hp) (Q:Bool->Hp->Prop):Prop:=match x with
 | .bl b=>Q b H
 | .int i=>Q (i != 0) H
 | .non=>Q false H
 | .str y=>y.length<=sizeLine/\Q ((y.length:Int) != 0) H
 | .ref p=>(match D7 H p with
  | some xs=>Q (!xs.isEmpty) H
  | none=>(match H p with | some (.dK kvs)=>Q (!kvs.isEmpty) H | _=>False))
 | _=>False
theorem Uc {K:Frag} {x:V} {H:Hp} {Q:Bool->Hp->Prop} (h:M5 x H Q):∃k,Ys K x H k/\Q k H:=by
 cases x with
 | bl b=>exact ⟨b,rfl,h⟩
 | int i=>exact ⟨_,rfl,h⟩
 | non=>exact ⟨_,rfl,h⟩
 | str y=>exact ⟨_,⟨h.1,rfl⟩,h.2⟩
 | ref p=>
  unfold M5 at h
  dsimp only at h
  split at h
  . rename_i xs e;rcases Ud (K:=K) e with z | z
    . exact ⟨_,.inl ⟨xs,z,rfl⟩,h⟩
    . exact ⟨_,.inr (.inl ⟨xs,z,rfl⟩),h⟩
  . split at h
    . rename_i kvs e;exact ⟨_,.inr (.inr ⟨kvs,e,rfl⟩),h⟩
    . exact h.elim
 | _=>exact h.elim
noncomputable def y2w (t:TE):TT:=fun U H Q=>t U H fun x H'=>M5 x H' Q
section
variable {X:Cx} {a b c:Expr} {ta tb:TE} {pos:Pos}
theorem kK (ha:PE X a ta) (he:∀whole,isTrue a X.env whole=(do let v <-whole;standAt a.pos;holding [v] (truthy v)):=by intro _;rfl):PT X a (y2w ta):=by intro pins s U H Q I h;exact isTrue_plain (thn (ha pins s U H _ I h) fun v s1 ⟨x,H1,I1,r1,q1⟩=>Qt pins s1 U H1 x v Q I1 r1 (Uc q1)) (he _)
noncomputable def Gv (t:TE):TT:=fun U H Q=>t U H fun x H'=>match x with | .bl k=>Q k H' | _=>False
theorem vM (ho:OpR X (compareOp op) r) (ha:PE X a ta) (hb:PE X b tb) (hm:behindInMarks op b=false):PT X (.Compare a [op] [b] pos) (Gv (tOp r ta tb)):=by
 intro pins s U H Q I h;refine wpAny_isTrue_Compare1 (thn (ha pins s U H _ I h) fun v s1 ⟨x,H1,I1,r1,q1⟩=>thn (hb pins s1 U H1 _ I1 q1) fun u s2 ⟨y,H2,I2,r2,q2⟩=>
  thn (ho pins s2 U H2 x y v u _ I2 r1 r2 q2) fun c s3 ⟨z,H3,I3,r3,q3⟩=>?_) hm
 cases z<;>first | exact q3.elim | skip
 cases r3;exact wpAny_truthy_bool ⟨H3,I3,q3⟩
end
section
variable {X:Cx} {a b c:Expr} {ta tb:TE} {pos:Pos}
def PCh (X:Cx) (ops:List CmpOp) (rs:List Expr) (t:V->TE):Prop:=
 ∀(pos:Pos) (pins:List (Addr×Obj)) (s:Shared) (U:St) (H:Hp) (x:V) (v:Value) (Q:VK),Inv X pins U H s->RelV x v->t x U H Q->wpAny (model X.prog X.w) X.A (compareChain pos v ops (evalEach rs X.env)) (EP X pins U Q) X.xe s
noncomputable def Ot (r:R2) (tb:TE):V->TE:=fun x U H Q=>tb U H fun y H2=>r x y H2 Q
noncomputable def Os (r:R2) (tb:TE) (t:V->TE):V->TE:=fun x U H Q=>tb U H fun y H2=>r x y H2 fun z H3=>match z with | .bl k=>(if k=true then t y U H3 Q else Q (.bl false) H3) | _=>False
theorem xD (ho:OpR X (compareOp op) r) (hb:PE X b tb):PCh X [op] [b] (Ot r tb):=by intro pos pins s U H x v Q I rx h;exact chain_last (thn (hb pins s U H _ I h) fun u s2 ⟨y,H2,I2,r2,q2⟩=>ho pins s2 U H2 x y v u Q I2 rx r2 q2)
theorem xC (ho:OpR X (compareOp op) r) (hb:PE X b tb) (hr:PCh X (op'::ops) (r'::rs) t):PCh X (op::op'::ops) (b::r'::rs) (Os r tb t):=by
 intro pos pins s U H x v Q I rx h;refine chain_link (thn (hb pins s U H _ I h) fun u s2 ⟨y,H2,I2,r2,q2⟩=>thn (ho pins s2 U H2 x y v u _ I2 rx r2 q2) fun d s3 ⟨z,H3,I3,r3,q3⟩=>?_);cases z<;>first | exact q3.elim | skip
 rename_i k;cases r3;refine wpAny_truthy_bool ?_;cases k with
 | false=>exact ite_ff ⟨.bl false,H3,I3,rfl,by simpa using q3⟩
 | true=>exact ite_tt (hr pos pins s3 U H3 y u Q I3 r2 (by simpa using q3))
noncomputable def Yk (ta:TE) (t:V->TE):TE:=fun U H Q=>ta U H fun x H1=>t x U H1 Q
theorem kJ (ha:PE X a ta) (hr:PCh X (op₁::op₂::ops) (r₁::r₂::rs) t) (hm:lastMarks (op₁::op₂::ops) (r₁::r₂::rs)=false:=by with_unfolding_all rfl) :
  PE X (.Compare a (op₁::op₂::ops) (r₁::r₂::rs) pos) (Yk ta t):=by
 intro pins s U H Q I h
 exact Compare_chain (thn (ha pins s U H _ I h) fun v s1 ⟨x,H1,I1,r1,q1⟩=>hr pos pins s1 U H1 x v Q I1 r1 q1) hm
noncomputable def Oq (ta tb:TE):TE:=fun U H Q=>ta U H fun x H1=>match x with | .bl c=>(if c=true then tb U H1 Q else Q (.bl false) H1) | _=>False
noncomputable def Yj (ta tb:TE):TE:=fun U H Q=>ta U H fun x H1=>match x with | .bl c=>(if c=true then Q (.bl true) H1 else tb U H1 Q) | _=>False
end
section
variable {X:Cx} {a b c:Expr} {ta tb:TE} {pos:Pos} {rest:List Expr}
theorem vL (ha:PE X a ta) (hb:PE X (.BoolOp .And (b::rest) pos) tb):PE X (.BoolOp .And (a::b::rest) pos) (Oq ta tb):=by
 intro pins s U H Q I h;refine BoolOp_and (thn (ha pins s U H _ I h) fun v s1 ⟨x,H1,I1,r1,q1⟩=>?_);cases x<;>first | exact q1.elim | skip
 rename_i k;cases r1;refine wpAny_truthy_bool ?_;cases k with
 | true=>exact ite_tt (hb pins s1 U H1 Q I1 (by simpa using q1))
 | false=>exact ite_ff ⟨.bl false,H1,I1,rfl,by simpa using q1⟩
theorem kI (ha:PE X a ta) (hb:PE X (.BoolOp .Or (b::rest) pos) tb):PE X (.BoolOp .Or (a::b::rest) pos) (Yj ta tb):=by
 intro pins s U H Q I h;refine BoolOp_or (thn (ha pins s U H _ I h) fun v s1 ⟨x,H1,I1,r1,q1⟩=>?_);cases x<;>first | exact q1.elim | skip
 rename_i k;cases r1;refine wpAny_truthy_bool ?_;cases k with
 | true=>exact ite_tt ⟨.bl true,H1,I1,rfl,by simpa using q1⟩
 | false=>exact ite_ff (hb pins s1 U H1 Q I1 (by simpa using q1))
noncomputable def Zy (ta:TE):TE:=fun U H Q=>ta U H fun x H1=>M5 x H1 fun k H2=>Q (.bl (!k)) H2
theorem vK (ha:PE X a ta):PE X (.UnaryOp .Not a pos) (Zy ta):=by intro pins s U H Q I h;refine UnaryOp_ (thn (ha pins s U H _ I h) fun v s1 ⟨x,H1,I1,r1,q1⟩=>not_of ?_);exact thn (Qt pins s1 U H1 x v _ I1 r1 (Uc q1)) fun k s2 ⟨H2,I2,q2⟩=>⟨.bl (!k),H2,I2,rfl,q2⟩
noncomputable def J5 (H:Hp):V->Option String
 | .non=>some "NoneType"
 | .bl _=>some "bool"
 | .int _=>some "int"
 | .str _=>some "str"
 | .ref a=>(match H a with
  | some (.lst _)=>some "list"
  | some (.frz _ (.lst _))=>some "list"
  | some (.tup _)=>some "tuple"
  | some (.dK _)=>some "dict"
  | some (.dT _)=>some "dict"
  | _=>none)
 | _=>none
noncomputable def E4 (t c:String):Bool:=t==c||(t=="bool"&&c=="int")
noncomputable def E6 (c:String):Bool:=["int","bool","str","list","tuple","dict"].contains c
theorem K8 {K:Frag} {t c:String} (ht:["NoneType","bool","int","str","list","tuple","dict"].contains t=true) (hc:E6 c=true):kitOne K (.type t) (.type c)=some (E4 t c):=by
 have h1:t="NoneType"\/t="bool"\/t="int"\/t="str"\/t="list"\/t="tuple"\/t="dict":=by simpa using ht
 have h2:c="int"\/c="bool"\/c="str"\/c="list"\/c="tuple"\/c="dict":=by simpa [E6] using hc
 rcases h1 with rfl | rfl | rfl | rfl | rfl | rfl | rfl<;>rcases h2 with rfl | rfl | rfl | rfl | rfl | rfl<;>first | rfl | (with_unfolding_all rfl)
theorem xB:CallR X (.builtin "isinstance") (fun xs H Q=>match xs with
  | [x,.ty c]=>E6 c=true/\(match J5 H x with | some t=>Q (.bl (E4 t c)) H | none=>False)
  | _=>False):=by
 intro pins s U H xs us Q I r h
 split at h
 . rename_i x c;obtain ⟨hc,h⟩:=h;obtain ⟨u,w',rfl,ru,rw'⟩:=Ha r;cases rw';split at h
   . rename_i t et;have fin:∀(tk:Nat),EP X pins U Q (.bool (E4 t c)) { s with toks:=tk }:=fun tk=>⟨.bl _,H,I.tok _,rfl,h⟩
     cases x<;>simp only [J5] at et
     case non=>cases et;exact K9 I ru .non (K8 (by decide) hc) fin
     case bl b=>cases et;exact K9 I ru (.bl b) (K8 (by decide) hc) fin
     case int b=>cases et;exact K9 I ru (.int b) (K8 (by decide) hc) fin
     case str b=>cases et;exact K9 I ru (.str b) (K8 (by decide) hc) fin
     case ref a=>
      split at et<;>first | (cases et;done) | skip
      . rename_i ys e;cases et;exact K9 I ru (.lst e) (K8 (by decide) hc) fin
      . rename_i o ys e;cases et;exact K9 I ru (.frz e) (K8 (by decide) hc) fin
      . rename_i ys e;cases et;exact K9 I ru (.tup e) (K8 (by decide) hc) fin
      . rename_i ys e;cases et;exact K9 I ru (.dK e) (K8 (by decide) hc) fin
      . rename_i ys e;cases et;exact K9 I ru (.dT e) (K8 (by decide) hc) fin
     all_goals cases et
   . exact h.elim
 . exact h.elim
theorem yk (hc:X.calm=true):CallR X (.builtin "sum") (fun xs H Q=>match xs with
  | [.ref p]=>∃ns:List Int,D7 H p=some (ns.map V.int)/\Q (.int ns.sum) H
  | _=>False):=by
 intro pins s U H xs us Q I r h
 split at h
 . rename_i p;obtain ⟨ns,e,q⟩:=h;obtain ⟨u,rfl,ru⟩:=x4 r;cases ru;have key:∀{its:List Value},Vals (ns.map V.int) its->∃ys:Array (Int×Tok),its.toArray=intItems ys/\preSum (numAt ys) ys.size=ns.sum:=fun {its} rv=>by
    have hi:=Ei rv;obtain ⟨ys,hx⟩:=hi.allInts.items;refine ⟨ys,hx,?_⟩;have e1:ns=ys.toList.map (·.1):=by rw [<-nums_intItems,<-hx];exact (show numsOf its.toArray.toList=ns from hi.numsOf).symm
    rw [preSum_eq,List.take_of_length_le (by simp),e1]
   rcases Ud (K:=X.K) e with hq | hq
   . obtain ⟨its,rv,pl,_⟩:=I.list hq;obtain ⟨ys,hx,es⟩:=key rv;refine sum_intListG (I.ok.hd hc) (hx ▸ pl.isList) fun h' tk t' hk=>?_
     rw [es];exact ⟨.int ns.sum,H,I.kept hk,⟨_,rfl⟩,q⟩
   . obtain ⟨its,rv,pl,_⟩:=I.tuple hq;obtain ⟨ys,hx,es⟩:=key rv;refine PySem.W.ktm_sumG (I.ok.hd hc) (hx ▸ pl) fun h' tk t' hk=>?_
     rw [es];exact ⟨.int ns.sum,H,I.kept hk,⟨_,rfl⟩,q⟩
 . exact h.elim
abbrev Gu (s:Shared) (L:Addr):List (Addr×Obj):=An (Att.noObjs s.heap) s.heap L
section
variable {pins:List (Addr×Obj)} {U:St} {H:Hp} {s:Shared} {h':Heap} {m:Str->Option Value}
theorem Vw (N:News (Att.noObjs s.heap) L h' (Gu s L)):∀b o,b≠L->s.heap.get? b=some o->h'.get? b=some o:=fun b o hb e=>(N (b,o) (zn hb (Att.noObjs_get _ _) e)).1
theorem Inv.frn (I:Inv X pins U H s) (hn:s.heap.Ns X.env.locals m) (F:Fr (Att.noObjs s.heap) X.env.locals h' m) (N:News (Att.noObjs s.heap) X.env.locals h' (Gu s X.env.locals)):Inv X pins U H { s with heap:=h',toks:=tk }:=by
 have kept:=Vw N;refine I.step (g':=s.gens) (d':=s.drawn) (ch:=[]) (fun _ z=>nomatch z) (fun b o hL _ _ e _=>kept b o hL e) (fun b o hL _ _ e _=>⟨o.slots,kept b o hL e⟩) (fun _ _ _ _ n=>n) (fun b o _ e=>?_) (fun _ _ e=>e) (fun _ _ _ e=>e) (fun b ps e=>⟨#[],by rw [e];simp⟩) (fun m' hm=>?_) (fun b u e=>?_) I.bare
 . by_cases hb:b=X.env.locals
   . subst hb;obtain ⟨o',_,_,ho',_⟩:=F.ns;exact ⟨o',ho'⟩
   . exact ⟨o,kept b o hb e⟩
 . rw [hm.eq_nsMap,<-hn.eq_nsMap];exact F.ns
 . refine (I.hok b u e).stay (fun c v hc q=>kept c v ?_ q) (fun _ q=>q) fun _ _ q=>q
   intro z;rcases hc with hc | hc
   . rw [<-hc,z,I.free] at e;cases e
   . rw [z,I.free] at hc;cases hc
theorem Inv.frnew (I:Inv X pins U H s) (hn:s.heap.Ns X.env.locals m) (F:Fr (Att.noObjs s.heap) X.env.locals h' m) (N:News (Att.noObjs s.heap) X.env.locals h' ((D,ob)::Gu s X.env.locals))
  (hD:s.heap.get? D=none) (new:ObjOk X.prog X.w (upd H D o) h' D o):H D=none/\Inv X pins U (upd H D o) { s with heap:=h',toks:=tk }:=by
 have kept:=Vw (fun p hp=>N p (.tail _ hp))
 have hDL:D≠X.env.locals:=(N (D,ob) (.head _)).2.1
 have neD:∀b o,s.heap.get? b=some o->b≠D:=fun b o e z=>by rw [z,hD] at e;cases e
 have HD:H D=none:=by
  cases q:H D with
  | none=>rfl
  | some u=>
   have:=(I.hok D u q).lt
   obtain ⟨v,hv⟩:∃v,s.heap.get? D=some v:=by
    have z:=I.hok D u q;cases u with
    | lst xs=>obtain ⟨_,_,_,_,e⟩:=z;exact ⟨_,e⟩
    | tup xs=>obtain ⟨_,_,_,o,e,_⟩:=z;exact ⟨_,e⟩
    | dK kvs=>obtain ⟨_,_,_,_,o,_,_,e,_⟩:=z;exact ⟨_,e⟩
    | dT kvs=>obtain ⟨_,_,_,_,o,_,_,e,_⟩:=z;exact ⟨_,e⟩
    | set S n=>obtain ⟨_,_,_,_,e,_⟩:=z;exact ⟨_,e⟩
    | ins C dx fs=>obtain ⟨_,_,_,e,_⟩:=z;exact ⟨_,e⟩
    | own x=>exact z
    | xd fs=>obtain ⟨mA,n1,_⟩:=z;obtain ⟨o,_,_,e,_⟩:=n1;exact ⟨o,e⟩
    | met f x=>exact ⟨_,z⟩
    | rng lo hi=>obtain ⟨_,_,_,e⟩:=z;exact ⟨_,e⟩
    | frz o u=>exact ⟨_,z.1⟩
    | tbl ps=>exact ⟨_,z⟩
    | ctb q=>obtain ⟨_,e,_⟩:=z;exact ⟨_,e⟩
    | ext φ=>exact z.2.1
   rw [hD] at hv;cases hv
 refine ⟨HD,I.step (g':=s.gens) (d':=s.drawn) (ch:=[]) (fun _ z=>nomatch z) (fun b o hL _ _ e _=>kept b o hL e) (fun b o hL _ _ e _=>⟨o.slots,kept b o hL e⟩) (fun b ob _ e n=>by rw [b8 (neD b ob e)];exact n) (fun b o _ e=>?_)
  (fun b xs e=>by rw [b8 (w4 e HD)];exact e) (fun b u xs e=>by rw [b8 (w4 e HD)];exact e) (fun b ps e=>⟨#[],by rw [b8 (w4 e HD),e];simp⟩) (fun m' hm=>?_) (fun b u e=>?_) I.bare⟩
 . by_cases hb:b=X.env.locals
   . subst hb;obtain ⟨o',_,_,ho',_⟩:=F.ns;exact ⟨o',ho'⟩
   . exact ⟨o,kept b o hb e⟩
 . rw [hm.eq_nsMap,<-hn.eq_nsMap];exact F.ns
 . by_cases hb:b=D
   . subst hb;rw [i8] at e;cases e;exact new
   . rw [b8 hb] at e;refine (I.hok b u e).stay (fun c v hc q=>kept c v ?_ q) (fun c q=>?_) fun c xs q=>?_
     . intro z;rcases hc with hc | hc
       . rw [<-hc,z,I.free] at e;cases e
       . rw [z,I.free] at hc;cases hc
     . rw [b8 (w4 q HD)];exact q
     . rw [b8 (w4 q HD)];exact q
end
theorem Wk:∀{us:List Value},Vals (bs.map V.bl) us->LSm.BoolsAre us bs:=by
 induction bs with
 | nil=>intro us r;cases r;exact .nil
 | cons b bs ih=>
  intro us r
  cases r with
  | cons r1 r2=>cases r1;exact .cons b (ih r2)
theorem yj (hc:X.calm=true):CallR X (.builtin "all") (fun xs H Q=>match xs with
  | [.ref p]=>∃bs:List Bool,Rd H p (.lst (bs.map V.bl))/\Q (.bl (bs.all id)) H
  | _=>False):=by
 intro pins s U H xs us Q I r h
 split at h
 . rename_i p;obtain ⟨bs,e,q⟩:=h;obtain ⟨u,rfl,ru⟩:=x4 r;cases ru;obtain ⟨its,rv,pl,_⟩:=I.list (.inl e);obtain ⟨m,hn,_⟩:=id I.loc;exact LSm.all_bools (Att.fr_all hn) (V3 (g:=Att.noObjs s.heap) (L:=X.env.locals)) (I.ok.hd hc) pl.isList (Wk rv) fun h' tk F N=>⟨.bl _,H,I.frn hn F N,rfl,q⟩
 . exact h.elim
theorem yi (hc:X.calm=true):CallR X (.builtin "any") (fun xs H Q=>match xs with
  | [.ref p]=>∃bs:List Bool,Rd H p (.lst (bs.map V.bl))/\Q (.bl (bs.any id)) H
  | _=>False):=by
 intro pins s U H xs us Q I r h
 split at h
 . rename_i p;obtain ⟨bs,e,q⟩:=h;obtain ⟨u,rfl,ru⟩:=x4 r;cases ru;obtain ⟨its,rv,pl,_⟩:=I.list (.inl e);obtain ⟨m,hn,_⟩:=id I.loc;exact LSm.any_bools (Att.fr_all hn) (V3 (g:=Att.noObjs s.heap) (L:=X.env.locals)) (I.ok.hd hc) pl.isList (Wk rv) fun h' tk F N=>⟨.bl _,H,I.frn hn F N,rfl,q⟩
 . exact h.elim
theorem yh:CallR X (.type "int") (fun xs H Q=>match xs with | [.int i]=>Q (.int i) H | [.bl k]=>Q (.int (if k then 1 else 0)) H | _=>False):=call_int1.imp fun xs H Q q=>by
 split at q
 . exact .inl ⟨_,rfl,q⟩
 . exact .inr ⟨_,rfl,q⟩
 . exact q.elim
theorem yR (hc:X.calm=true):CallR X (.builtin "max") (fun xs H Q=>match xs with | [.int i,.int j]=>Q (.int (if j > i then j else i)) H | _=>False):=(yu hc).imp fun xs H Q q=>by
 split at q
 . exact ⟨_,_,rfl,q⟩
 . exact q.elim
theorem yQ (hc:X.calm=true):CallR X (.builtin "min") (fun xs H Q=>match xs with | [.int i,.int j]=>Q (.int (if j<i then j else i)) H | _=>False):=(yt hc).imp fun xs H Q q=>by
 split at q
 . exact ⟨_,_,rfl,q⟩
 . exact q.elim
end
noncomputable def ItS (S:Hp->Prop) (xs:List V):It:=⟨fun i H=>S H/\i<xs.length,fun i H x H'=>H'=H/\xs[i]?=some x,fun i H=>S H/\xs.length<=i⟩
theorem Turn.conv {P:Program} {w:World} {K:Frag} {tg:Expr} {J J':It} {fp:List Addr} {it:Addr} {tn:Nat->Heap->Prop} (T:Turn P w K tg J fp it tn) (h1:∀i H,J'.go i H->J.go i H) (h2:∀i H x H',J'.go i H->J.yld i H x H'->J'.yld i H x H')
  (h3:∀i H,J'.stop i H->J.stop i H):Turn P w K tg J' fp it tn where
 mem:=T.mem
 obj:=T.obj
 keep:=T.keep
 item:=fun X a b c d i pins s U H E I hf st hg=>thn (T.item X a b c d i pins s U H E I hf st (h1 i H hg)) fun r s1 ⟨u,e,h⟩=>⟨u,e,thn h fun _ s2 ⟨x,H',I',r',y',st',fr'⟩=>⟨x,H',I',r',h2 i H x H' hg y',st',fr'⟩⟩
 done:=fun X a b c d i pins s U H E I hf st hg=>T.done X a b c d i pins s U H E I hf st (h3 i H hg)
 self:=T.self
section
variable {X:Cx} {tg:Expr}
def R0 (x:V) (H1:Hp) (R:It->Hp->Prop):Prop:=match x with
 | .ref a=>(match H1 a with
  | some (.lst xs)=>R (ItS (fun H'=>Rd H' a (.lst xs)) xs) H1
  | some (.frz _ (.lst xs))=>R (ItS (fun H'=>Rd H' a (.lst xs)) xs) H1
  | some (.tup xs)=>R (ItS (fun H'=>H' a=some (.tup xs)) xs) H1
  | _=>False)
 | _=>False
theorem xA (h:Rd H a (.lst xs)) (r:R (ItS (fun H'=>Rd H' a (.lst xs)) xs) H):R0 (.ref a) H R:=by
 unfold R0;rcases h with h | ⟨o,h⟩
 . dsimp only;rw [h];exact r
 . dsimp only;rw [h];exact r
theorem xz (h:H a=some (.tup xs)) (r:R (ItS (fun H'=>H' a=some (.tup xs)) xs) H):R0 (.ref a) H R:=by unfold R0;dsimp only;rw [h];exact r
noncomputable def y2x (K:Frag) (tl:TE):TI:=fun U H R=>tl U H fun x H1=>R0 x H1 R
theorem kH (hl:PE X l tl):PI X tg l (y2x X.K tl):=by
 intro pins s U H R I h;refine thn (hl pins s U H _ I h) fun v s1 ⟨x,H1,I1,r1,q1⟩=>?_
 cases x<;>first | exact q1.elim | skip
 rename_i a;cases r1;unfold R0 at q1;dsimp only at q1;have asList:∀xs,Rd H1 a (.lst xs)->R (ItS (fun H'=>Rd H' a (.lst xs)) xs) H1->wpAny (model X.prog X.w) X.A (pyIter (.ref a)) (PIE X pins U tg R) X.xe s1:=fun xs hq q=>by
  obtain ⟨its,rv,p,hz⟩:=I1.list (.inl hq);refine wpAny_pyIter_list p.isList ?_;refine ⟨s1.heap.objs.size,[s1.heap.objs.size],_,_,H1,rfl,I1.kept (t':=s1.toks) fun b o e=>τ _ e,(yx a _).conv ?_ ?_ ?_,⟨_,Ψ _ rfl,rfl,rfl⟩,fun b hb=>?_,q⟩
  . exact fun i H' ⟨h1,h2⟩=>⟨xs,xs[i],.inl h1,by simp [h2]⟩
  . exact fun i H' x H'' ⟨h1,h2⟩ ⟨e,y⟩=>⟨e,y xs (.inl h1)⟩
  . exact fun i H' ⟨h1,h2⟩=>⟨xs,.inl h1,h2⟩
  . have e:b=s1.heap.objs.size:=by simpa using hb
    subst e;exact I1.fpOk (ζ _) (I1.hok.fresh (ζ _))
 split at q1
 . rename_i xs e;exact asList xs (.inl e) q1
 . rename_i o xs e;exact asList xs (.inr ⟨o,e⟩) q1
 . rename_i xs e;obtain ⟨its,rv,p,hz⟩:=I1.tuple (.of e);refine wpAny_pyIter_tuple (show s1.heap.IsTuple a its.toArray from p) ?_;refine ⟨s1.heap.objs.size,[s1.heap.objs.size],_,_,H1,rfl,I1.kept (t':=s1.toks) fun b o e=>τ _ e,(yX a _).conv ?_ ?_ ?_,⟨_,Ψ _ rfl,rfl,rfl⟩,fun b hb=>?_,q1⟩
   . exact fun i H' ⟨h1,h2⟩=>⟨xs,xs[i],.of h1,by simp [h2]⟩
   . exact fun i H' x H'' ⟨h1,h2⟩ ⟨e,y⟩=>⟨e,y xs (.of h1)⟩
   . exact fun i H' ⟨h1,h2⟩=>⟨xs,.of h1,h2⟩
   . have e:b=s1.heap.objs.size:=by simpa using hb
     subst e;exact I1.fpOk (ζ _) (I1.hok.fresh (ζ _))
 . exact q1.elim
noncomputable def D5 (lo:Int) (n:Nat):List V:=(List.range n).map fun (i:Nat)=>V.int (lo+i)
theorem Aq (lo:Int) (n:Nat):(D5 lo n).length=n:=by simp [D5]
theorem Ss (lo:Int) (n i:Nat) (h:i<n):(D5 lo n)[i]?=some (.int (lo+i)):=by simp [D5,h]
def iR1 (ta:TA):TI:=fun U H R=>ta U H fun vs H1=>match vs with | [.int j]=>(-(2 ^ 62)<=j/\j<2 ^ 62)/\R (ItS (fun _=>True) (D5 0 j.toNat)) H1 | _=>False
theorem Lw (lo:Int) (n:Nat):(∀i (H:Hp),(ItS (fun _=>True) (D5 lo n)).go i H->(Itr lo n).go i H)/\(∀i H x H',(ItS (fun _=>True) (D5 lo n)).go i H->(Itr lo n).yld i H x H'->(ItS (fun _=>True) (D5 lo n)).yld i H x H') /\
  (∀i (H:Hp),(ItS (fun _=>True) (D5 lo n)).stop i H->(Itr lo n).stop i H):=by
 refine ⟨fun i H ⟨_,h⟩=>?_,fun i H x H' ⟨_,h⟩ ⟨e,y⟩=>⟨e,?_⟩,fun i H ⟨_,h⟩=>?_⟩
 . rw [Aq] at h;exact h
 . rw [Aq] at h;rw [y];exact Ss lo n i h
 . rw [Aq] at h;exact h
end
def Yi (J:It) (g:TG) (tb:TS) (D:Ends) (U:St) (H1:Hp):Prop:=∃W:Nat->Nat->St->Hp->Prop,(∃m,W 0 m U H1)/\∀i m U H,W i m U H ->
 (J.stop i H/\D.nx U H)\/(J.go i H/\∃N:St->Hp->Prop,(∀σ' H',N σ' H'->∃m',m'<m/\W (i+1) m' σ' H')/\∀x H',J.yld i H x H'->g x U H' fun σ2 H2=>tb { D with nx:=N,ct:=N,bk:=D.nx } σ2 H2)
noncomputable def Op (wi:TI) (g:TG) (tb:TS):TS:=fun D U H=>wi U H fun J H1=>Yi J g tb D U H1
theorem Sr (hp:PassesOwn (model X.prog X.w) X.A X.env X.xe) (hc:X.calm=true) (hi:PI X tg iter wi) (hg:PG X tg g) (hb:PSs X body tb)
 (hs:∀x,foldedSetIterable iter X.env x=pure x:=by intro _;rfl):PS X (.For tg iter body [] pos) (Op wi g tb):=kT hp hc hi hg hb hs
def Stp (n i:Nat) (P:Prop):Prop:=∃m',m'<n - i/\m'=n - (i+1)/\i+1<=n/\P
theorem Stp.mk (h:i<n) (p:P):Stp n i P:=⟨n - (i+1),by omega,rfl,h,p⟩
theorem Same.upd_new (h:H a=none):Same H (upd H a o):=fun b u e=>by rw [b8 (w4 e h)];exact e
theorem Same.upd_at (s:Same H H1) (h:H a=none):Same H (upd H1 a o):=fun b u e=>by rw [b8 (w4 e h)];exact s b u e
theorem vJ {prog:Program} {w:World} {A:Around} {E:Value->Shared->Prop} {s:Shared} {e it l:Addr} (hei:e≠it) (hle:l≠e) (hli:l≠it) {items:Array Value} {i:Nat} {Q:Option Value->Shared->Prop} (hi:i<items.size)
  (he:∃old,IsEnum s.heap e it i old) (h1:s.heap.IsListIter it l i) (g1:s.heap.IsList l items)
  (q:∀T vals h' tk,(∃t x,items[i]?=some x/\vals=#[.int i t,x])->s.heap.objs.size<=T->IsTp h' T vals->((∃x,IsEnumOut h' e it ((i:Int)+1) x T)/\h'.IsListIter it l (i+1)/\h'.IsList l items/\T≠e/\T≠it) ->
   (∀c o,c∉[e,it]->s.heap.get? c=some o->h'.get? c=some o)->Q (some (.ref T)) { s with heap:=h',toks:=tk }):wpAny (model prog w) A (pyNext (.ref e)) Q E s:=by
 obtain ⟨old,he⟩:=he
 have gt:∀{c:Addr} {o:Obj},s.heap.get? c=some o->s.heap.objs.size≠c:=fun e z=>absurd (π e) (by rw [z];exact χ _)
 have n1:s.heap.objs.size≠it:=by obtain ⟨_,e,_⟩:=h1;exact gt e
 refine wpAny_pyNext_enum_item he h1 g1 (x:=items[i]) (by simp [hi]) hei fun h' r1 r2 r3 _ kp=>?_
 have kl:∀c o,c∉[e,it]->s.heap.get? c=some o->h'.get? c=some o:=fun c o hc e=>by simp only [List.mem_cons,List.not_mem_nil,or_false,not_or] at hc;exact kp c o hc.1 hc.2 e
 exact q s.heap.objs.size #[.int i s.toks,items[i]] h' (s.toks+1) ⟨_,_,by simp [hi],rfl⟩ (ζ _) (.mk' r3) ⟨⟨_,r1⟩,r2,g1.at fun o e=>kp _ o hle hli e,gt he,n1⟩ kl
section
variable {X:Cx} {pins:List (Addr×Obj)} {U:St} {H:Hp} {s:Shared}
theorem Inv.turnedT {wr:List Addr} {h':Heap} {tk:Nat} {T:Addr} {xs:List V} {its:List Value} (I:Inv X pins U H s) (hw:∀b∈wr,n9 X pins H b) (k:∀b o,b∉wr->s.heap.get? b=some o->h'.get? b=some o)
  (hT:s.heap.objs.size<=T) (ht:IsTp h' T its.toArray) (rv:Vals xs its) (hz:xs.length<=sizeLine):Inv X pins U (upd H T (.tup xs)) { s with heap:=h',toks:=tk }:=by
 have HT:H T=none:=I.hok.fresh hT
 have nw:∀b u,H b=some u->b∉wr:=fun b u e z=>by rw [(hw b z).1] at e;cases e
 have neT:∀b o,s.heap.get? b=some o->b≠T:=fun b o e=>Nat.ne_of_lt (Nat.lt_of_lt_of_le (π e) hT)
 refine I.step (g':=s.gens) (d':=s.drawn) (ch:=wr) (fun b hb=>⟨(hw b hb).2.2.2.1,(hw b hb).2.1,(hw b hb).2.2.2.2.1,(hw b hb).2.2.2.2.2⟩) (fun b o _ _ hc e _=>k b o hc e) (fun b o _ _ hc e _=>⟨o.slots,k b o hc e⟩)
  (fun b o _ e n=>by rw [b8 (neT b o e)];exact n) (fun b o hc e=>⟨o,k b o hc e⟩) (fun b ys e=>by rw [b8 (w4 e HT)];exact e) (fun b u ys e=>by rw [b8 (w4 e HT)];exact e)
  (fun b ps e=>⟨#[],by rw [b8 (w4 e HT),e];simp⟩) (fun m hm=>?_) (fun b u e=>?_) I.bare
 . obtain ⟨o,es,ep,ho,r⟩:=hm;exact ⟨o,es,ep,k _ o (fun z=>(hw _ z).2.1 rfl) ho,r⟩
 . by_cases hb:b=T
   . subst hb;rw [i8] at e;cases e;exact ⟨hz,its,rv,ht⟩
   . rw [b8 hb] at e;refine (I.hok b u e).stay (fun c v hc q=>k c v ?_ q) (fun c q=>?_) fun c ys q=>?_
     . rcases hc with z | z
       . rw [z];exact nw b u e
       . exact nw c _ z
     . rw [b8 (w4 q HT)];exact q
     . rw [b8 (w4 q HT)];exact q
end
section
variable {X:Cx} {pins:List (Addr×Obj)} {U:St} {H:Hp} {s:Shared}
theorem Inv.turnedN {wr:List Addr} {h':Heap} {tk:Nat} (I:Inv X pins U H s) (hw:∀b∈wr,n9 X pins H b) (k:∀b o,b∉wr->s.heap.get? b=some o->h'.get? b=some o):Inv X pins U H { s with heap:=h',toks:=tk }:=by
 have nw:∀b u,H b=some u->b∉wr:=fun b u e z=>by rw [(hw b z).1] at e;cases e
 refine I.step (g':=s.gens) (d':=s.drawn) (ch:=wr) (fun b hb=>⟨(hw b hb).2.2.2.1,(hw b hb).2.1,(hw b hb).2.2.2.2.1,(hw b hb).2.2.2.2.2⟩) (fun b o _ _ hc e _=>k b o hc e) (fun b o _ _ hc e _=>⟨o.slots,k b o hc e⟩)
  (fun b o _ e n=>n) (fun b o hc e=>⟨o,k b o hc e⟩) (fun b ys e=>e) (fun b u ys e=>e) (fun b ps e=>⟨#[],by rw [e];simp⟩) (fun m hm=>?_) (fun b u e=>?_) I.bare
 . obtain ⟨o,es,ep,ho,r⟩:=hm;exact ⟨o,es,ep,k _ o (fun z=>(hw _ z).2.1 rfl) ho,r⟩
 . refine (I.hok b u e).stay (fun c v hc q=>k c v ?_ q) (fun c q=>q) fun c ys q=>q
   rcases hc with z | z
   . rw [z];exact nw b u e
   . exact nw c _ z
end
def ItP (S:Hp->Prop) (ps:List (V×V)):It:=⟨fun i H=>S H/\i<ps.length,fun i H x H'=>∃T a b,x=.ref T/\H T=none/\H'=upd H T (.tup [a,b])/\ps[i]?=some (a,b),fun i H=>S H/\i=ps.length⟩
theorem kG:2<=sizeLine:=by rw [sizeLine_eq];decide
theorem yg {P:Program} {w:World} {K:Frag} {elts:List Expr} {k:Nat} {pos:Pos} {e it l:Addr} {xs:List V} (hei:e≠it) (hle:l≠e) (hli:l≠it) :
  Turn P w K (.Tuple elts k pos) (ItP (fun H=>Rd H l (.lst xs)) ((D5 0 xs.length).zip xs)) [e,it] e (fun i h=>(∃old,IsEnum h e it i old)/\h.IsListIter it l i) where
 mem:=by simp
 obj:=fun i h ⟨⟨old,he⟩,⟨o1,h1,_,d1⟩⟩ c hc=>by
  have hc':c=e\/c=it:=by simpa using hc
  rcases hc' with rfl | rfl
  . exact ⟨_,he,fun v z=>by cases z⟩
  . exact ⟨o1,h1,fun v z=>by rw [d1] at z;cases z⟩
 keep:=fun i h h' ⟨⟨old,he⟩,h1⟩ kp=>⟨⟨old,kp e (by simp) _ he⟩,h1.at fun o z=>kp it (by simp) o z⟩
 item:=by
  intro X hP hw hK hc i pins s U H E I hf st hg;subst hP hw hK;obtain ⟨hS,hlt⟩:=hg;obtain ⟨he,h1⟩:=st;obtain ⟨its,r,p1,z1⟩:=I.list (.inl hS);have W:=WalksT.enumerate (prog:=X.prog) (w:=X.w) (A:=X.A) (I.ok.hd hc) e it l hei hle hli its.toArray;have le1:=r.length;have hlx:i<xs.length:=by rw [List.length_zip,Aq] at hlt;lia
  have hlz:i<its.toArray.size:=by simp only [List.size_toArray];lia
  refine vJ hei hle hli hlz he h1 p1.isList fun T vals h' tk hPt hT ht hM hk=>⟨.ref T,rfl,?_⟩
  refine W.go elts k pos i T _ _ _ hM fun h'' hst'' hk''=>?_
  obtain ⟨t,x,hx,rfl⟩:=hPt;obtain ⟨a,ea⟩:∃a,xs[i]?=some a:=⟨xs[i],by simp⟩;obtain ⟨u1,q1,ru1⟩:=r.get ea;have hx':its[i]?=some x:=by simpa using hx
  rw [q1] at hx';cases hx';obtain ⟨oT,hoT,hcT,nT,hdT⟩:=ht;have ht'':IsTp h'' T ([.int (i:Nat) t,x]:List Value).toArray:=⟨oT,hk'' T oT (W.apart i T _ hM) hoT,hcT,nT,hdT⟩;have sub:∀c∈[e,it],n9 X pins H c:=fun c hc'=>hf c hc'
  have I2:=I.turnedT (tk:=tk) (xs:=[.int (i:Nat),a]) (its:=[.int (i:Nat) t,x]) sub (fun c o hcw z=>hk'' c o hcw (hk c o hcw z)) hT ht'' (.cons ⟨_,rfl⟩ (.cons ru1 .nil)) kG;have HT:H T=none:=I.hok.fresh hT;refine ⟨.ref T,upd H T (.tup [.int (i:Nat),a]),I2,rfl,⟨T,.int (i:Nat),a,rfl,HT,rfl,?_⟩,⟨hst''.1,hst''.2.1⟩,fun c hc'=>?_⟩
  . rw [List.getElem?_zip_eq_some];refine ⟨?_,ea⟩;rw [Ss 0 _ _ hlx];simp
  . rw [b8]
    . exact (hf c hc').1
    . intro ec;have hh:∃o,s.heap.get? c=some o:=by
       have hc'':c=e\/c=it:=by simpa using hc'
       obtain ⟨old,he'⟩:=he;obtain ⟨o1,g1,_⟩:=h1;rcases hc'' with z | z<;>subst z
       . exact ⟨_,he'⟩
       . exact ⟨_,g1⟩
      obtain ⟨o,ho⟩:=hh;exact absurd (Nat.lt_of_lt_of_le (π ho) hT) (by rw [ec];exact χ _)
 done:=by
  intro X hP hw hK hc i pins s U H E I hf st hg;subst hP hw hK;obtain ⟨hS,hle'⟩:=hg;obtain ⟨he,h1⟩:=st;obtain ⟨its,r,p1,z1⟩:=I.list (.inl hS);have W:=WalksT.enumerate (prog:=X.prog) (w:=X.w) (A:=X.A) (I.ok.hd hc) e it l hei hle hli its.toArray;have le1:=r.length;have hi:its.toArray.size=i:=by rw [List.length_zip,Aq] at hle';simp only [List.size_toArray];lia
  rw [<-hi] at h1 he;exact W.done s _ _ ⟨he,h1,p1.isList⟩ fun h' tk hk=>⟨rfl,I.turnedN hf hk⟩
 self:=fun A i s Q E st h=>by obtain ⟨⟨old,he⟩,_⟩:=st;exact wpAny_pyIter_enum he h
section
variable {X:Cx} {a:Expr} {ta:TA} {p pos tpos:Pos} {elts:List Expr} {k:Nat}
def Zx (ta:TA):TI:=fun U H R=>ta U H fun vs H1=>match vs with
 | [.ref l]=>∃xs,Rd H1 l (.lst xs)/\R (ItP (fun H=>Rd H l (.lst xs)) ((D5 0 xs.length).zip xs)) H1
 | _=>False
theorem vI (hg:Gl X "enumerate") (hm:X.mg "enumerate"=none) (ha:PA X [a] ta) (hs:starEach [a] X.env=[(false,eval a X.env)]:=by rfl) :
  PI X (.Tuple elts k tpos) (.Call (.Name "enumerate" p) [a] [] pos) (Zx ta):=by
 intro pins s U H R I h
 refine Call_ (U5 I hg hm boot_enumerate (PyProof.Rows.callWith_type1 (thn (ha pos pins s U H _ I h) fun us s1 ⟨vs,H1,I1,r1,q1⟩=>?_) hs rfl))
 dsimp only at q1
 split at q1
 . rename_i l;obtain ⟨xs,e1,q⟩:=q1;obtain ⟨u,rfl,ru⟩:=x4 r1;cases ru;obtain ⟨its1,rr1,p1,_⟩:=I1.list (.inl e1);have lt1:l<s1.heap.objs.size:=by obtain ⟨o,ho,_⟩:=p1.isList;exact π ho
   refine call_enumerate_list p1.isList fun h' he hi hsz hk=>?_
   refine wpAny_pyIter_enum he ⟨s1.heap.objs.size+1,[s1.heap.objs.size+1,s1.heap.objs.size],_,_,H1,rfl,I1.kept (t':=s1.toks) hk,yg (Nat.succ_ne_self _) (Nat.ne_of_lt (Nat.lt_succ_of_lt lt1)) (Nat.ne_of_lt lt1),⟨⟨_,he⟩,hi⟩,fun c hc=>?_,q⟩;have hc':s1.heap.objs.size<=c:=by
    have:c=s1.heap.objs.size+1\/c=s1.heap.objs.size:=by simpa using hc
    rcases this with z | z<;>rw [z]<;>first | exact Nat.le_add_right _ _ | exact ζ _
   exact I1.fpOk hc' (I1.hok.fresh hc')
 . exact q1.elim
end
section
variable {X:Cx} {tg:Expr} {a:Expr} {ta:TA} {p pos:Pos}
theorem Zw (hg:Gl X "range") (hm:X.mg "range"=none) (ha:PA X [a] ta) (hs:starEach [a] X.env=[(false,eval a X.env)]:=by rfl):PI X tg (.Call (.Name "range" p) [a] [] pos) (iR1 ta):=by
 intro pins s U H R I h;refine Call_ (U5 I hg hm boot_range (PyProof.Rows.callWith_type1 (thn (ha pos pins s U H _ I h) fun us s1 ⟨vs,H1,I1,r1,q1⟩=>?_) hs rfl));dsimp only at q1;split at q1
 . rename_i j;obtain ⟨⟨h1,h2⟩,q⟩:=q1;obtain ⟨u,rfl,t,rfl⟩:=x4 r1;refine call_range_1 (thn (xJ (tg:=tg) (R:=fun J H1=>∃J',(∀i H,J'.go i H->J.go i H)/\(∀i H x H',J'.go i H->J.yld i H x H'->J'.yld i H x H')/\(∀i H,J'.stop i H->J.stop i H)/\R J' H1) I1 (by lia) (by lia) h1 h2 ?_) fun itv s2 h2=>?_)
   . refine ⟨_,(Lw 0 (j - 0).toNat).1,(Lw 0 (j - 0).toNat).2.1,(Lw 0 (j - 0).toNat).2.2,?_⟩;simpa using q
   . obtain ⟨it,fp,tn,J,H2,e,I2,T,st,hf,J',c1,c2,c3,r⟩:=h2;exact ⟨it,fp,tn,J',H2,e,I2,T.conv c1 c2 c3,st,hf,r⟩
 . exact q1.elim
end
def cB1:V->Hp->(List V->Hp->Prop)->Prop:=fun x H R=>R [x] H
def cBT (n:Nat):V->Hp->(List V->Hp->Prop)->Prop:=fun x H R=>match x with
 | .ref a=>(match H a with | some (.tup xs)=>xs.length=n/\R xs H | _=>False)
 | _=>False
section
variable {X:Cx} {sc:Scope} {caps:List Str} {ix:List Nat} {elt iter:Expr} {ifs:List Expr} {pos px py tpos:Pos} {tt:TT} {te:TE} {wi:TI} {x y:Str} {kt:Nat}
theorem Fk (x:V) (σt cs:St) (H:Hp) (Q:St->Hp->Prop) (hl:σt.length=1) (h:cB1 x H (fun vals H2=>Q (vals.map some++cs) H2)):x5 0 x (σt++cs) H fun σ2 H2=>(∃vals:List V,vals.length=1/\σ2=vals.map some++cs)/\Q σ2 H2:=by
 match σt,hl with
 | [t],_=>exact ⟨⟨[x],rfl,rfl⟩,h⟩
theorem y2y {K:Frag} (x:V) (σt cs:St) (H:Hp) (Q:St->Hp->Prop) (hl:σt.length=2) (h:cBT 2 x H (fun vals H2=>Q (vals.map some++cs) H2)) :
  Fq K 2 (Z1 (x5 0) (Z1 (x5 1) Fs)) x (σt++cs) H fun σ2 H2=>(∃vals:List V,vals.length=2/\σ2=vals.map some++cs)/\Q σ2 H2:=by
 cases x<;>first | exact h.elim | skip
 rename_i a
 unfold cBT at h
 dsimp only at h
 split at h
 . rename_i xs e;obtain ⟨hn,h⟩:=h
   match σt,hl,xs,hn with
   | [t,t'],_,[v,v'],_=>exact ⟨a,[v,v'],rfl,.of e,rfl,v,[v'],rfl,v',[],rfl,rfl,⟨[v,v'],rfl,rfl⟩,h⟩
 . exact h.elim
theorem X5 (hN:(tgs++caps).Nodup) (hi:(tgs++caps)[i]?=some x) (hx:sc.names.lookup x=some .local) (fp:List Addr) (s:Shared) (H:Hp):PG (j6 X sc (tgs++caps) fp s H) (.Name x px) (x5 i):=
 Dv (X:=j6 X sc (tgs++caps) fp s H) hN hi (.inl (lookup_relabel_local hx)) (.inr (lookup_relabel_local hx))
theorem xy (C:CompOk X sc caps ix) (hN:([x]++caps).Nodup) (hx:sc.names.lookup x=some .local) (hi:PI X (.Name x px) iter wi) (ht:∀fp s H,PTs (j6 X sc ([x]++caps) fp s H) ifs tt) (he:∀fp s H,PE (j6 X sc ([x]++caps) fp s H) elt te)
  (hs:∀x,foldedSetIterable iter X.env x=pure x:=by intro _;rfl):PE X (.ListComp elt [⟨.Name x px,iter,ifs,0⟩] sc pos) (J7 wi cB1 ix tt te):=
 vN (tgs:=[x]) C hi (fun fp s H=>X5 hN rfl hx fp s H) Fk ht he hs
theorem xx {v:Str} {k:Nat} {spos pv:Pos} (hNX:X.N.Nodup) (hk:X.N[k]?=some v) (hv:X.env.scope.names.lookup v=some .local) (C:CompOk X sc caps ix) (hN:([x]++caps).Nodup) (hx:sc.names.lookup x=some .local) (hi:PI X (.Name x px) iter wi)
  (ht:∀fp s H,PTs (j6 X sc ([x]++caps) fp s H) ifs tt) (he:∀fp s H,PE (j6 X sc ([x]++caps) fp s H) elt te)
  (hsw:swapsWith (.ListComp elt [⟨.Name x px,iter,ifs,0⟩] sc pos) (some (.Name v pv)) spos.line X.env=pure true:=by rfl) (hs:∀x,foldedSetIterable iter X.env x=pure x:=by intro _;rfl) :
  PS X (.Assign [.Name v pv] (.ListComp elt [⟨.Name x px,iter,ifs,0⟩] sc pos) spos) (E5 (J7 wi cB1 ix tt te) (x5 k)):=
 Su (tgs:=[x]) hNX hk hv C hi (fun fp s H=>X5 hN rfl hx fp s H) Fk ht he hsw hs
theorem Zv (hc:X.calm=true) (hN:([x,y]++caps).Nodup) (hx:sc.names.lookup x=some .local) (hy:sc.names.lookup y=some .local) (fp:List Addr) (s:Shared) (H:Hp) :
  PG (j6 X sc ([x,y]++caps) fp s H) (.Tuple [.Name x px,.Name y py] kt tpos) (Fq X.K 2 (Z1 (x5 0) (Z1 (x5 1) Fs))):=
 Qv (X:=j6 X sc ([x,y]++caps) fp s H) hc (Ku (X5 hN rfl hx fp s H) (Ku (X5 hN rfl hy fp s H) pgs_nil))
theorem xw {v:Str} {k:Nat} {spos pv:Pos} (hNX:X.N.Nodup) (hk:X.N[k]?=some v) (hv:X.env.scope.names.lookup v=some .local) (C:CompOk X sc caps ix) (hN:([x,y]++caps).Nodup) (hx:sc.names.lookup x=some .local) (hy:sc.names.lookup y=some .local)
  (hi:PI X (.Tuple [.Name x px,.Name y py] kt tpos) iter wi) (ht:∀fp s H,PTs (j6 X sc ([x,y]++caps) fp s H) ifs tt) (he:∀fp s H,PE (j6 X sc ([x,y]++caps) fp s H) elt te)
  (hsw:swapsWith (.ListComp elt [⟨.Tuple [.Name x px,.Name y py] kt tpos,iter,ifs,0⟩] sc pos) (some (.Name v pv)) spos.line X.env=pure true:=by rfl) (hs:∀x,foldedSetIterable iter X.env x=pure x:=by intro _;rfl) :
  PS X (.Assign [.Name v pv] (.ListComp elt [⟨.Tuple [.Name x px,.Name y py] kt tpos,iter,ifs,0⟩] sc pos) spos) (E5 (J7 wi (cBT 2) ix tt te) (x5 k)):=
 Su (tgs:=[x,y]) hNX hk hv C hi (fun fp s H=>Zv C.calm hN hx hy fp s H) y2y ht he hsw hs
noncomputable def Gs (n:Nat) (t:TGs):TG:=fun v U H Q=>match v with
 | .ref a=>(match H a with | some (.tup xs)=>xs.length=n/\t xs U H Q | _=>False)
 | _=>False
noncomputable def Qq (t:TG) (u:TGs):TGs:=fun vs U H Q=>match vs with | v::r=>t v U H fun σ' H'=>u r σ' H' Q | []=>False
noncomputable def Oo:TGs:=fun vs U H Q=>match vs with | []=>Q U H | _=>False
theorem PGs.imp (h:PGs X es t) (hi:∀vs U H Q,t' vs U H Q->t vs U H Q):PGs X es t':=fun pins s U H vs us Q I r q=>h pins s U H vs us Q I r (hi vs U H Q q)
theorem PG.imp (h:PG X e t) (hi:∀v U H Q,t' v U H Q->t v U H Q):PG X e t':=fun pins s U H v u Q I r q=>h pins s U H v u Q I r (hi v U H Q q)
theorem xv:PGs X [] Oo:=pgs_nil.imp fun vs U H Q q=>by
 cases vs with
 | nil=>exact ⟨rfl,q⟩
 | cons _ _=>exact q.elim
theorem yf (h1:PG X e t) (h2:PGs X es u) (hs:(assignEach (e::es) X.env).map (·.2)=assign e X.env::(assignEach es X.env).map (·.2):=by rfl):PGs X (e::es) (Qq t u):=(Ku h1 h2 hs).imp fun vs U H Q q=>by
 cases vs with
 | nil=>exact q.elim
 | cons v r=>exact ⟨v,r,rfl,q⟩
theorem vH (hc:X.calm=true) (h:PGs X es t)
  (hn:(assignEach es X.env).length=n:=by rfl) (hst:(assignEach es X.env).findIdx? (·.1)=none:=by rfl):PG X (.Tuple es k pos) (Gs n t):=(Qv hc h hn hst).imp fun v U H Q q=>by
 cases v<;>first | exact q.elim | skip
 rename_i a
 unfold Gs at q
 dsimp only at q
 split at q
 . rename_i xs e;exact ⟨a,xs,rfl,.of e,q.1,q.2⟩
 . exact q.elim
end
theorem Yh (a:α) (r:List α):atI (a::r) 0=some a:=U9 (j:=0) rfl
theorem Yg (a b:α) (r:List α):atI (a::b::r) 1=some b:=U9 (j:=1) rfl
section
variable {prog:Program} {w:World} {A:Around} {E:Value->Shared->Prop} {s:Shared}
theorem Ub (hne:t≠it):∀(n i:Nat) (s:Shared) (Q:List Value->Shared->Prop),s.heap.IsListIter it t i->s.heap.IsList t items->i+n<=items.size ->
  (∀h',h'.IsListIter it t (i+n)->Heap.SameBut it s.heap h'->Q ((items.toList.drop i).take n) { s with heap:=h' })->wpAny (model prog w) A (draw (.ref it) n) Q E s
 | 0,i,s,Q,hit,_,_,k=>by show wpAny _ _ (pure []) Q E s;exact ω (by simpa using k s.heap hit (Heap.SameBut.refl ..))
 | n+1,i,s,Q,hit,ht,hle,k=>by
  have hlt:i<items.size:=by lia
  show wpAny _ _ (pyNext (.ref it) >>= _) Q E s;refine δ (wpAny_pyNext_list_item hit ht (x:=items[i]) (by simp [hlt]) fun g1 it1 sb1=>?_);refine δ (wpAny_holding (Ub hne n (i+1) _ _ it1 (ht.extBut sb1.extBut hne) (by lia) fun g2 it2 sb2=>ω ?_));have hd:items.toList.drop i=items[i]::items.toList.drop (i+1):=by simp [List.drop_eq_getElem_cons,hlt]
  have z:=k g2 (by rw [show i+(n+1)=i+1+n by lia];exact it2) (sb1.trans sb2);rw [hd,List.take_succ_cons] at z;exact z
theorem ye (hh:A.handled=none) (ht:s.heap.IsList t items)
  (k:∀h',(∀b o,s.heap.get? b=some o->h'.get? b=some o)->Q items.toList { s with heap:=h' }):wpAny (model prog w) A (unpackItems (.ref t) items.size none) Q E s:=by
 have hlt:t≠s.heap.objs.size:=by obtain ⟨o,ho,_⟩:=ht;exact Nat.ne_of_lt (π ho)
 have old:∀{b:Addr} {o:Obj},s.heap.get? b=some o->b≠s.heap.objs.size:=fun e=>Nat.ne_of_lt (π e)
 unfold unpackItems
 refine δ ?_
 . unfold notIterableAtAll;refine δ (wpAny_specialOf ht.typeIs slot_list_iter.lookup ?_);refine ω ?_;simp only [Bool.false_eq_true,if_false];refine δ (wpAny_holding (wpAny_pyIter_list ht ?_));refine δ (wpAny_holding (Ub hlt items.size 0 _ _ ⟨_,Ψ _ rfl,rfl,rfl⟩ (ht.push _) (by lia) fun g1 it1 sb1=>?_));have hall:List.take items.size (List.drop 0 items.toList)=items.toList:=by rw [List.drop_zero];exact List.take_of_length_le (by simp)
   rw [hall];rw [ψ (by simp)];have ht1:g1.IsList t items:=(ht.push _).extBut sb1.extBut hlt;refine δ (wpAny_holding (wpAny_pyNext_list_end hh it1 ht1 (by simp) fun g2 eb2=>?_));simp only [Option.isSome_none,Bool.false_eq_true,if_false];exact ω (k g2 fun b o e=>eb2 b o (old e) (sb1.extBut b o (old e) (τ _ e)))
theorem yP (hh:A.handled=none) (ht:s.heap.IsList t items)
  (hn:(assignEach elts env).length=items.size) (hstar:(assignEach elts env).findIdx? (·.1)=none)
  (h:∀h',(∀b o,s.heap.get? b=some o->h'.get? b=some o)->wpAny (model prog w) A (assignInOrder ((assignEach elts env).map (·.2)) items.toList) Q E { s with heap:=h' }) :
  wpAny (model prog w) A (assign (.Tuple elts x1 pos) env (.ref t)) Q E s:=by
 rw [assign_Tuple]
 refine δ (wpAny_standAt ?_)
 unfold unpack
 rw [hn,hstar]
 exact δ (wpAny_holding (ye hh ht h))
end
section
variable {X:Cx} {pos:Pos}
noncomputable def Z0 (n:Nat) (t:TGs):TG:=fun v U H Q=>match v with
 | .ref a=>(match H a with
  | some (.tup xs)=>xs.length=n/\t xs U H Q
  | some (.lst xs)=>xs.length=n/\t xs U H Q
  | _=>False)
 | _=>False
theorem vG (hc:X.calm=true) (h:PGs X es t)
  (hn:(assignEach es X.env).length=n:=by rfl) (hst:(assignEach es X.env).findIdx? (·.1)=none:=by rfl):PG X (.Tuple es k pos) (Z0 n t):=by
 intro pins s U H v u Q I r hw
 cases v<;>first | exact hw.elim | skip
 rename_i a
 unfold Z0 at hw
 dsimp only at hw
 split at hw
 . rename_i xs e;exact vH hc h hn hst pins s U H (.ref a) u Q I r (by unfold Gs;dsimp only;rw [e];exact hw)
 . rename_i xs e;obtain ⟨hl,hw⟩:=hw;cases r;obtain ⟨its,rv,ht,hz⟩:=I.list (.of e);refine yP (I.ok.hd hc) ht.isList (by simp [hn,<-hl,rv.length]) hst fun h' hx=>?_
   exact h pins _ U H xs _ Q (I.kept (t':=s.toks) hx) (by simpa using rv) hw
 . exact hw.elim
def Cb:List V->Hp->VK->Prop:=fun xs H Q=>match xs with
 | [x,.ty c]=>E6 c=true/\(match J5 H x with | some t=>Q (.bl (E4 t c)) H | none=>False)
 | _=>False
def Gr:List V->Hp->VK->Prop:=fun xs H Q=>match xs with
 | [.ref p]=>∃ns:List Int,D7 H p=some (ns.map V.int)/\Q (.int ns.sum) H
 | _=>False
def Gq:List V->Hp->VK->Prop:=fun xs H Q=>match xs with
 | [.ref p]=>∃bs:List Bool,Rd H p (.lst (bs.map V.bl))/\Q (.bl (bs.all id)) H
 | _=>False
def Gp:List V->Hp->VK->Prop:=fun xs H Q=>match xs with
 | [.ref p]=>∃bs:List Bool,Rd H p (.lst (bs.map V.bl))/\Q (.bl (bs.any id)) H
 | _=>False
def On:List V->Hp->VK->Prop:=fun xs H Q=>match xs with | [.int i]=>Q (.int i) H | [.bl k]=>Q (.int (if k then 1 else 0)) H | _=>False
def Go:List V->Hp->VK->Prop:=fun xs H Q=>match xs with | [.int i,.int j]=>Q (.int (if j > i then j else i)) H | _=>False
def Gn:List V->Hp->VK->Prop:=fun xs H Q=>match xs with | [.int i,.int j]=>Q (.int (if j<i then j else i)) H | _=>False
section
variable {H:Hp} {Q:VK} {p:Addr} {i j:Int} {x:V} {cs:String}
theorem kF:Cb [x,.ty cs] H Q=(E6 cs=true/\(match J5 H x with | some t=>Q (.bl (E4 t cs)) H | none=>False)):=rfl
theorem Sq:Gr [.ref p] H Q=∃ns:List Int,D7 H p=some (ns.map V.int)/\Q (.int ns.sum) H:=rfl
theorem vF:Gq [.ref p] H Q=∃bs:List Bool,Rd H p (.lst (bs.map V.bl))/\Q (.bl (bs.all id)) H:=rfl
theorem vE:Gp [.ref p] H Q=∃bs:List Bool,Rd H p (.lst (bs.map V.bl))/\Q (.bl (bs.any id)) H:=rfl
theorem vD:Go [.int i,.int j] H Q=Q (.int (if j > i then j else i)) H:=rfl
theorem vC:Gn [.int i,.int j] H Q=Q (.int (if j<i then j else i)) H:=rfl
end
theorem Zu:CallR X (.builtin "isinstance") Cb:=xB
theorem Zt (hc:X.calm=true):CallR X (.builtin "sum") Gr:=yk hc
theorem Om (hc:X.calm=true):CallR X (.builtin "all") Gq:=yj hc
theorem Zs (hc:X.calm=true):CallR X (.builtin "any") Gp:=yi hc
theorem Gm:CallR X (.type "int") On:=yh
theorem kE (hc:X.calm=true):CallR X (.builtin "max") Go:=yR hc
theorem kD (hc:X.calm=true):CallR X (.builtin "min") Gn:=yQ hc
end
inductive NK where
 | i (n:Int)
 | t (ks:List NK)
noncomputable instance:DecidableEq NK:=fun a b=>Classical.propDecidable (a=b)
mutual
noncomputable def NK.dep:NK->Nat
 | .i _=>0
 | .t ks=>Qp ks+1
noncomputable def Qp:List NK->Nat
 | []=>0
 | k::ks=>max k.dep (Qp ks)
end
mutual
noncomputable def NK.hs:NK->Int
 | .i n=>hashInt n
 | .t ks=>reduceHash (Builtin.Tuple.tupleHashOf (Ye ks))
noncomputable def Ye:List NK->List Int
 | []=>[]
 | k::ks=>k.hs::Ye ks
end
mutual
def NKv (h:Heap):NK->Value->Prop
 | .i n,v=>∃t,v=.int n t
 | .t ks,v=>∃a its,v=.ref a/\h.IsTuple a its/\NKvs h ks its.toList
def NKvs (h:Heap):List NK->List Value->Prop
 | [],vs=>vs=[]
 | k::ks,vs=>∃v r,vs=v::r/\NKv h k v/\NKvs h ks r
end
theorem NKvs.len:∀{ks:List NK} {vs:List Value},NKvs h ks vs->ks.length=vs.length
 | [],_,q=>by simp only [NKvs] at q;rw [q];rfl
 | k::ks,_,q=>by simp only [NKvs] at q;obtain ⟨v,r,rfl,_,q⟩:=q;simp only [List.length_cons,NKvs.len q]
theorem yd {h:Heap} {a:Addr} {x y:Array Value} (p:h.IsTuple a x) (q:h.IsTuple a y):x=y:=by obtain ⟨o,e,c,n,d⟩:=p;obtain ⟨o',e',c',n',d'⟩:=q;rw [e] at e';cases e';rw [d] at d';cases d';rfl
mutual
theorem NKv.inj:∀{k j:NK} {v:Value},NKv h k v->NKv h j v->k=j
 | .i n,.i m,v,p,q=>by simp only [NKv] at p q;obtain ⟨t,rfl⟩:=p;obtain ⟨t',e⟩:=q;cases e;rfl
 | .i n,.t ks,v,p,q=>by simp only [NKv] at p q;obtain ⟨t,rfl⟩:=p;obtain ⟨_,_,e,_⟩:=q;cases e
 | .t ks,.i m,v,p,q=>by simp only [NKv] at p q;obtain ⟨t,rfl⟩:=q;obtain ⟨_,_,e,_⟩:=p;cases e
 | .t ks,.t js,v,p,q=>by simp only [NKv] at p q;obtain ⟨a,its,rfl,p1,p2⟩:=p;obtain ⟨b,its',e,q1,q2⟩:=q;cases e;cases yd p1 q1;rw [NKvs.inj p2 q2]
theorem NKvs.inj:∀{ks js:List NK} {vs:List Value},NKvs h ks vs->NKvs h js vs->ks=js
 | [],[],_,_,_=>rfl
 | [],j::js,_,p,q=>by simp only [NKvs] at p q;subst p;obtain ⟨_,_,e,_⟩:=q;cases e
 | k::ks,[],_,p,q=>by simp only [NKvs] at p q;subst q;obtain ⟨_,_,e,_⟩:=p;cases e
 | k::ks,j::js,_,p,q=>by simp only [NKvs] at p q;obtain ⟨v,r,rfl,p1,p2⟩:=p;obtain ⟨_,_,e,q1,q2⟩:=q;cases e;rw [NKv.inj p1 q1,NKvs.inj p2 q2]
end
def dnE (x:NK×Addr×Value):DictEntry:={ hash:=x.1.hs,key:=.ref x.2.1,val:=x.2.2 }
def dnP (a:Addr) (ks:List (NK×Addr)) (xs:List V) (o:Obj) (h:Heap):Prop:=
 h.get? a=some o/\∃(vs:List Value) (es:Array DictEntry) (ep:Nat),Vals xs vs/\ks.length=vs.length/\o.ExactDict/\o.data=.dict es ep/\es.toList=((ks.zip vs).map fun q=>(q.1.1,q.1.2,q.2)).map dnE
mutual
def NKr (H:Hp):NK->V->Prop
 | .i n,v=>v=.int n
 | .t ks,v=>∃a ys,v=.ref a/\H a=some (.tup ys)/\NKrs H ks ys
def NKrs (H:Hp):List NK->List V->Prop
 | [],vs=>vs=[]
 | k::ks,vs=>∃v r,vs=v::r/\NKr H k v/\NKrs H ks r
end
mutual
theorem NKr.mono (st:∀a ys,H a=some (.tup ys)->H' a=some (.tup ys)):∀{k:NK} {v:V},NKr H k v->NKr H' k v
 | .i n,v,p=>by simp only [NKr] at p ⊢;exact p
 | .t ks,v,p=>by simp only [NKr] at p ⊢;obtain ⟨a,ys,e,p1,p2⟩:=p;exact ⟨a,ys,e,st _ _ p1,NKrs.mono st p2⟩
theorem NKrs.mono (st:∀a ys,H a=some (.tup ys)->H' a=some (.tup ys)):∀{ks:List NK} {vs:List V},NKrs H ks vs->NKrs H' ks vs
 | [],_,p=>by simp only [NKrs] at p ⊢;exact p
 | k::ks,_,p=>by simp only [NKrs] at p ⊢;obtain ⟨v,r,e,p1,p2⟩:=p;exact ⟨v,r,e,NKr.mono st p1,NKrs.mono st p2⟩
end
def KL (K:Frag) (a:Addr) (xs:List V):Prop:=∃(o:Obj) (its:Array Value) (n:Nat),K.lookup a=some o/\o.cls=.type "list"/\o.dict=none/\o.data=.seq its n/\its.size<=sizeLine/\Vals xs its.toList
def XO (K:Frag) (c:String) (a:Addr) (od:Option Addr) (o:HO):Prop:=∃C:Addr,nsIn K mainGlobals (c:Str)=some (some (.ref C))/\o=.ext fun h=>∃ob,h.get? a=some ob/\ob.cls=.ref C/\(∃vs,ob.data=.fields vs)/\ob.dict=od
noncomputable def B5 (c:String):List Str:=if c="Fallen" then ["corner"] else if c="Crossed" then ["one","other"] else if c="NotFull" then ["line"] else []
inductive D where
 | non | bl (b:Bool) | int (i:Int) | str (x:Str) | tup (ds:List D) | lst (ds:List D)
 | dk (ks:List Key) (ds:List D) | dt (ks:List (List Key)) (ds:List D) | dn (ks:List NK) (ds:List D) | scr (ns:List Int) | exc (c:String) (fs:List D)
def DN (H:Hp) (a:Addr) (qs:List (NK×Addr)):Prop:=(qs.map (·.1)).Nodup/\(∀q∈qs,NKr H q.1 (.ref q.2)/\q.1.dep<=8)/\(a==sysModules)=false/\qs.length<=sizeLine
theorem DN.tk (h:DN H a qs) (st:∀a ys,H a=some (.tup ys)->H' a=some (.tup ys)):DN H' a qs:=
 ⟨h.1,fun q hq=>⟨NKr.mono st (h.2.1 q hq).1,(h.2.1 q hq).2⟩,h.2.2⟩
mutual
noncomputable def D.noL:D->Bool
 | .lst _=>false
 | .dk _ _=>false
 | .dt _ _=>false
 | .dn _ _=>false
 | .tup ds=>g9 ds
 | _=>true
noncomputable def g9:List D->Bool
 | []=>true
 | d::ds=>d.noL&&g9 ds
end
mutual
noncomputable def D.pl:D->Bool
 | .dk _ _=>false
 | .dt _ _=>false
 | .dn _ _=>false
 | .scr _=>false
 | .exc _ _=>false
 | .tup ds=>pls ds
 | .lst ds=>pls ds
 | _=>true
noncomputable def pls:List D->Bool
 | []=>true
 | d::ds=>d.pl&&pls ds
end
mutual
def RD (K:Frag) (H:Hp):D->V->Prop
 | .non,v=>v=.non
 | .bl b,v=>v=.bl b
 | .int i,v=>v=.int i
 | .str x,v=>v=.str x
 | .tup ds,v=>∃a xs,v=.ref a/\H a=some (.tup xs)/\RDs K H ds xs
 | .lst ds,v=>∃a xs,v=.ref a/\H a=some (.lst xs)/\RDs K H ds xs
 | .dk ks ds,v=>∃a xs,v=.ref a/\H a=some (.dK (ks.zip xs))/\ks.length=xs.length/\RDs K H ds xs
 | .dt ks ds,v=>∃a xs,v=.ref a/\H a=some (.dT (ks.zip xs))/\ks.length=xs.length/\RDs K H ds xs
 | .dn ks ds,v=>∃a qs xs o,v=.ref a/\H a=some (.ext (dnP a qs xs o))/\qs.map (·.1)=ks/\DN H a qs/\RDs K H ds xs
 | .scr ns,v=>∃a,v=.ref a/\((∃o,H a=some (.frz o (.lst (ns.map V.int))))\/KL K a (ns.map V.int))
 | .exc c fs,v=>∃a od o,v=.ref a/\XO K c a od o/\H a=some o/\(fs=[]\/∃(dx:Addr) (vs:List V) (ob:Obj),od=some dx/\H dx=some (.frz ob (.xd ((B5 c).zip vs)))/\(g9 fs=true/\pls fs=true)/\RDs K H fs vs)
def RDs (K:Frag) (H:Hp):List D->List V->Prop
 | [],xs=>xs=[]
 | d::ds,xs=>∃x r,xs=x::r/\RD K H d x/\RDs K H ds r
end
def D.shal:D->Bool
 | .lst ds=>g9 ds
 | .dk _ ds=>g9 ds
 | .dt _ ds=>g9 ds
 | .dn _ ds=>g9 ds
 | d=>d.noL
def Imm:HO->Prop
 | .tup _=>True
 | .frz _ _=>True
 | .ext φ=>∀a qs xs o,φ≠dnP a qs xs o
 | _=>False
theorem XO.imm {K:Frag} {c:String} {a:Addr} {od:Option Addr} {o:HO} (h:XO K c a od o):Imm o:=by
 obtain ⟨C,_,rfl⟩:=h;intro b qs xs o0 e;obtain ⟨ob,hob⟩:∃ob:Obj,ob={ cls:=.ref C,dict:=od,data:=.fields #[] }:=⟨_,rfl⟩;have hg:∀(i:Nat) (o:Obj),({ objs:=Array.replicate (a+1) ob }:Heap).get? i=some o->o=ob:=fun i o q=>by
  by_cases hi:i<a+1
  . have z:({ objs:=Array.replicate (a+1) ob }:Heap).get? i=some ob:=by
     unfold Heap.get?
     rw [Array.getElem?_replicate,ξ hi,hob]
    rw [z] at q;cases q;rfl
  . unfold Heap.get? at q;rw [Array.getElem?_replicate,ψ hi] at q;cases q
 have h1:(fun h:Heap=>∃ob,h.get? a=some ob/\ob.cls=.ref C/\(∃vs,ob.data=.fields vs)/\ob.dict=od) { objs:=Array.replicate (a+1) ob }:=by refine ⟨ob,?_,by rw [hob],⟨#[],by rw [hob]⟩,by rw [hob]⟩;unfold Heap.get?;rw [Array.getElem?_replicate,ξ (Nat.lt_succ_self a),hob]
 rw [e] at h1;obtain ⟨g,vs,es,ep,_,_,_,d,_⟩:=h1;rw [hg _ _ g,hob] at d;cases d
def TK (H H':Hp):Prop:=∀a o,Imm o->H a=some o->H' a=some o
section
variable {K:Frag} {H H':Hp}
mutual
theorem RD.tk (hs:TK H H'):∀{d:D} {v:V},d.noL=true->RD K H d v->RD K H' d v
 | .non,_,_,h=>by simp only [RD] at h ⊢;exact h
 | .bl _,_,_,h=>by simp only [RD] at h ⊢;exact h
 | .int _,_,_,h=>by simp only [RD] at h ⊢;exact h
 | .str _,_,_,h=>by simp only [RD] at h ⊢;exact h
 | .tup ds,_,n,h=>by simp only [RD] at h ⊢;obtain ⟨a,xs,e,h1,h2⟩:=h;exact ⟨a,xs,e,hs _ _ trivial h1,RDs.tk hs (by simpa only [D.noL] using n) h2⟩
 | .lst ds,_,n,h=>by simp [D.noL] at n
 | .dk _ ds,_,n,h=>by simp [D.noL] at n
 | .dt _ ds,_,n,h=>by simp [D.noL] at n
 | .dn _ ds,_,n,h=>by simp [D.noL] at n
 | .exc c fs,_,n,h=>by
  simp only [RD] at h ⊢;obtain ⟨a,od,o,e,h1,h2,h3⟩:=h;refine ⟨a,od,o,e,h1,hs _ _ h1.imm h2,?_⟩;rcases h3 with h3 | ⟨dx,xs,ob,q1,q2,q3,q4⟩
  . exact .inl h3
  . exact .inr ⟨dx,xs,ob,q1,hs _ _ trivial q2,q3,RDs.tk hs q3.1 q4⟩
 | .scr ns,_,n,h=>by
  simp only [RD] at h ⊢;obtain ⟨a,e,h1⟩:=h;refine ⟨a,e,?_⟩;rcases h1 with ⟨o,h1⟩ | h1
  . exact .inl ⟨o,hs _ _ trivial h1⟩
  . exact .inr h1
theorem RDs.tk (hs:TK H H'):∀{ds:List D} {xs:List V},g9 ds=true->RDs K H ds xs->RDs K H' ds xs
 | [],_,_,h=>by simp only [RDs] at h ⊢;exact h
 | d::ds,_,n,h=>by simp only [RDs] at h ⊢;simp only [g9,Bool.and_eq_true] at n;obtain ⟨x,r,e,h1,h2⟩:=h;exact ⟨x,r,e,RD.tk hs n.1 h1,RDs.tk hs n.2 h2⟩
end
mutual
theorem RD.mono (hs:Same H H'):∀{d:D} {v:V},RD K H d v->RD K H' d v
 | .non,_,h=>by simp only [RD] at h ⊢;exact h
 | .bl _,_,h=>by simp only [RD] at h ⊢;exact h
 | .int _,_,h=>by simp only [RD] at h ⊢;exact h
 | .str _,_,h=>by simp only [RD] at h ⊢;exact h
 | .tup ds,_,h=>by simp only [RD] at h ⊢;obtain ⟨a,xs,e,h1,h2⟩:=h;exact ⟨a,xs,e,hs _ _ h1,RDs.mono hs h2⟩
 | .lst ds,_,h=>by simp only [RD] at h ⊢;obtain ⟨a,xs,e,h1,h2⟩:=h;exact ⟨a,xs,e,hs _ _ h1,RDs.mono hs h2⟩
 | .dk _ ds,_,h=>by simp only [RD] at h ⊢;obtain ⟨a,xs,e,h1,hl,h2⟩:=h;exact ⟨a,xs,e,hs _ _ h1,hl,RDs.mono hs h2⟩
 | .dn _ ds,_,h=>by simp only [RD] at h ⊢;obtain ⟨a,qs,xs,o,e,h1,hk,hd,h2⟩:=h;exact ⟨a,qs,xs,o,e,hs _ _ h1,hk,hd.tk fun b ys q=>hs _ _ q,RDs.mono hs h2⟩
 | .dt _ ds,_,h=>by simp only [RD] at h ⊢;obtain ⟨a,xs,e,h1,hl,h2⟩:=h;exact ⟨a,xs,e,hs _ _ h1,hl,RDs.mono hs h2⟩
 | .exc c fs,_,h=>by
  simp only [RD] at h ⊢;obtain ⟨a,od,o,e,h1,h2,h3⟩:=h;refine ⟨a,od,o,e,h1,hs _ _ h2,?_⟩;rcases h3 with h3 | ⟨dx,xs,ob,q1,q2,q3,q4⟩
  . exact .inl h3
  . exact .inr ⟨dx,xs,ob,q1,hs _ _ q2,q3,RDs.mono hs q4⟩
 | .scr ns,_,h=>by
  simp only [RD] at h ⊢;obtain ⟨a,e,h1⟩:=h;refine ⟨a,e,?_⟩;rcases h1 with ⟨o,h1⟩ | h1
  . exact .inl ⟨o,hs _ _ h1⟩
  . exact .inr h1
theorem RDs.mono (hs:Same H H'):∀{ds:List D} {xs:List V},RDs K H ds xs->RDs K H' ds xs
 | [],_,h=>by simp only [RDs] at h ⊢;exact h
 | d::ds,_,h=>by simp only [RDs] at h ⊢;obtain ⟨x,r,e,h1,h2⟩:=h;exact ⟨x,r,e,RD.mono hs h1,RDs.mono hs h2⟩
end
theorem RDs.length:∀{ds:List D} {xs:List V},RDs K H ds xs->ds.length=xs.length
 | [],_,h=>by simp only [RDs] at h;subst h;rfl
 | d::ds,_,h=>by simp only [RDs] at h;obtain ⟨x,r,rfl,_,h2⟩:=h;simp [RDs.length h2]
theorem RDs.get:∀{ds:List D} {xs:List V} {i:Nat} {x:V},RDs K H ds xs->xs[i]?=some x->∃d,ds[i]?=some d/\RD K H d x
 | [],_,i,x,h,e=>by simp only [RDs] at h;subst h;simp at e
 | d::ds,_,i,x,h,e=>by
  simp only [RDs] at h;obtain ⟨y,r,rfl,h1,h2⟩:=h;cases i with
  | zero=>simp at e;subst e;exact ⟨d,rfl,h1⟩
  | succ i=>simp at e;obtain ⟨d',e1,e2⟩:=RDs.get h2 e;exact ⟨d',by simpa using e1,e2⟩
theorem RDs.get':∀{ds:List D} {xs:List V} {i:Nat} {d:D},RDs K H ds xs->ds[i]?=some d->∃x,xs[i]?=some x/\RD K H d x
 | [],_,i,d,h,e=>by simp at e
 | d'::ds,_,i,d,h,e=>by
  simp only [RDs] at h;obtain ⟨y,r,rfl,h1,h2⟩:=h;cases i with
  | zero=>simp at e;subst e;exact ⟨y,rfl,h1⟩
  | succ i=>simp at e;obtain ⟨x',e1,e2⟩:=RDs.get' h2 e;exact ⟨x',by simpa using e1,e2⟩
theorem RDs.append:∀{ds es:List D} {xs ys:List V},RDs K H ds xs->RDs K H es ys->RDs K H (ds++es) (xs++ys)
 | [],_,_,_,h,h'=>by simp only [RDs] at h;subst h;exact h'
 | d::ds,es,_,ys,h,h'=>by simp only [RDs] at h;obtain ⟨x,r,rfl,h1,h2⟩:=h;simp only [List.cons_append,RDs];exact ⟨x,r++ys,rfl,h1,RDs.append h2 h'⟩
theorem RDs.nil:RDs K H [] []:=by simp only [RDs]
theorem RDs.cons (h:RD K H d x) (h':RDs K H ds xs):RDs K H (d::ds) (x::xs):=by simp only [RDs];exact ⟨x,xs,rfl,h,h'⟩
theorem RDs.one (h:RD K H d x):RDs K H [d] [x]:=.cons h .nil
theorem RDs.take:∀{ds:List D} {xs:List V} (n:Nat),RDs K H ds xs->RDs K H (ds.take n) (xs.take n)
 | _,_,0,_=>by simp [RDs]
 | [],_,n+1,h=>by simp only [RDs] at h;subst h;simp [RDs]
 | d::ds,_,n+1,h=>by simp only [RDs] at h;obtain ⟨x,r,rfl,h1,h2⟩:=h;simp only [List.take_succ_cons];exact .cons h1 (RDs.take n h2)
theorem RDs.drop:∀{ds:List D} {xs:List V} (n:Nat),RDs K H ds xs->RDs K H (ds.drop n) (xs.drop n)
 | _,_,0,h=>h
 | [],_,n+1,h=>by simp only [RDs] at h;subst h;simp [RDs]
 | d::ds,_,n+1,h=>by simp only [RDs] at h;obtain ⟨x,r,rfl,h1,h2⟩:=h;exact RDs.drop n h2
theorem RDs.set:∀{ds:List D} {xs:List V} (n:Nat) {d:D} {x:V},RDs K H ds xs->RD K H d x->RDs K H (ds.set n d) (xs.set n x)
 | [],_,n,_,_,h,_=>by simp only [RDs] at h;subst h;simp [RDs]
 | d::ds,_,0,_,_,h,h'=>by simp only [RDs] at h;obtain ⟨x,r,rfl,h1,h2⟩:=h;exact .cons h' h2
 | d::ds,_,n+1,_,_,h,h'=>by simp only [RDs] at h;obtain ⟨x,r,rfl,h1,h2⟩:=h;exact .cons h1 (RDs.set n h2 h')
theorem RDs.ofInts:∀(ns:List Int),RDs K H (ns.map D.int) (ns.map V.int)
 | []=>by simp only [List.map,RDs]
 | n::ns=>by simp only [List.map];exact RDs.cons (by simp only [RD]) (RDs.ofInts ns)
end
mutual
noncomputable def eqD:D->D->Bool
 | .non,.non=>true
 | .bl a,.bl b=>a==b
 | .bl a,.int j=>(if a then 1 else 0)==j
 | .int i,.bl b=>i==(if b then 1 else 0)
 | .int i,.int j=>i==j
 | .str a,.str b=>a==b
 | .tup ds,.tup es=>m9 ds es
 | .lst ds,.lst es=>m9 ds es
 | _,_=>false
noncomputable def m9:List D->List D->Bool
 | [],[]=>true
 | d::ds,e::es=>eqD d e&&m9 ds es
 | _,_=>false
end
mutual
noncomputable def D.dep:D->Nat
 | .tup ds=>i9 ds+1
 | .lst ds=>i9 ds+1
 | _=>0
noncomputable def i9:List D->Nat
 | []=>0
 | d::ds=>max d.dep (i9 ds)
end
mutual
theorem Eb:∀d:D,d.pl=true->eqD d d=true
 | .non,_=>rfl
 | .bl b,_=>by simp [eqD]
 | .int b,_=>by simp [eqD]
 | .str b,_=>by simp [eqD]
 | .tup ds,h=>by simp only [eqD];exact Lj ds (by simpa only [D.pl] using h)
 | .lst ds,h=>by simp only [eqD];exact Lj ds (by simpa only [D.pl] using h)
 | .dk _ _,h=>by simp [D.pl] at h
 | .dt _ _,h=>by simp [D.pl] at h
 | .dn _ _,h=>by simp [D.pl] at h
 | .scr _,h=>by simp [D.pl] at h
 | .exc _ _,h=>by simp [D.pl] at h
theorem Lj:∀ds:List D,pls ds=true->m9 ds ds=true
 | [],_=>rfl
 | d::ds,h=>by simp only [pls,Bool.and_eq_true] at h;simp only [m9,Eb d h.1,Lj ds h.2,Bool.and_self]
end
mutual
theorem RD.inj {K:Frag} {H:Hp}:∀{d e:D} {v:V},d.pl=true->e.pl=true->RD K H d v->RD K H e v->d=e
 | .non,e,v,_,p,h,h'=>by simp only [RD] at h;subst h;cases e<;>simp only [RD] at h'<;>first | (exfalso;simp [D.pl] at p;done) | rfl | (cases h';done) | (obtain ⟨a,xs,z,_⟩:=h';cases z)
 | .bl b,e,v,_,p,h,h'=>by simp only [RD] at h;subst h;cases e<;>simp only [RD] at h'<;>first | (exfalso;simp [D.pl] at p;done) | (cases h';rfl) | (cases h';done) | (obtain ⟨a,xs,z,_⟩:=h';cases z)
 | .int b,e,v,_,p,h,h'=>by simp only [RD] at h;subst h;cases e<;>simp only [RD] at h'<;>first | (exfalso;simp [D.pl] at p;done) | (cases h';rfl) | (cases h';done) | (obtain ⟨a,xs,z,_⟩:=h';cases z)
 | .str b,e,v,_,p,h,h'=>by simp only [RD] at h;subst h;cases e<;>simp only [RD] at h'<;>first | (exfalso;simp [D.pl] at p;done) | (cases h';rfl) | (cases h';done) | (obtain ⟨a,xs,z,_⟩:=h';cases z)
 | .dk _ _,e,v,p,_,h,h'=>by simp [D.pl] at p
 | .dt _ _,e,v,p,_,h,h'=>by simp [D.pl] at p
 | .dn _ _,e,v,p,_,h,h'=>by simp [D.pl] at p
 | .scr _,e,v,p,_,h,h'=>by simp [D.pl] at p
 | .exc _ _,e,v,p,_,h,h'=>by simp [D.pl] at p
 | .tup ds,e,v,p,p',h,h'=>by
  simp only [RD] at h;obtain ⟨a,xs,rfl,h1,h2⟩:=h;cases e<;>simp only [RD] at h'
  case tup es=>
   obtain ⟨b,ys,z,h3,h4⟩:=h'
   cases z
   rw [h1] at h3;cases h3
   rw [RDs.inj (by simpa only [D.pl] using p) (by simpa only [D.pl] using p') h2 h4]
  case lst es=>
   obtain ⟨b,ys,z,h3,h4⟩:=h'
   cases z
   rw [h1] at h3;cases h3
  all_goals first | (exfalso;simp [D.pl] at p';done) | cases h'
 | .lst ds,e,v,p,p',h,h'=>by
  simp only [RD] at h;obtain ⟨a,xs,rfl,h1,h2⟩:=h;cases e<;>simp only [RD] at h'
  case tup es=>
   obtain ⟨b,ys,z,h3,h4⟩:=h'
   cases z
   rw [h1] at h3;cases h3
  case lst es=>
   obtain ⟨b,ys,z,h3,h4⟩:=h'
   cases z
   rw [h1] at h3;cases h3
   rw [RDs.inj (by simpa only [D.pl] using p) (by simpa only [D.pl] using p') h2 h4]
  all_goals first | (exfalso;simp [D.pl] at p';done) | cases h'
theorem RDs.inj {K:Frag} {H:Hp}:∀{ds es:List D} {xs:List V},pls ds=true->pls es=true->RDs K H ds xs->RDs K H es xs->ds=es
 | [],es,xs,_,_,h,h'=>by
  simp only [RDs] at h;subst h;cases es<;>simp only [RDs] at h'
  . rfl
  . obtain ⟨x,r,z,_⟩:=h';cases z
 | d::ds,es,xs,p,p',h,h'=>by
  simp only [RDs] at h;obtain ⟨x,r,rfl,h1,h2⟩:=h;simp only [pls,Bool.and_eq_true] at p;cases es with
  | nil=>simp only [RDs] at h';cases h'
  | cons e es=>
   simp only [RDs] at h'
   obtain ⟨y,r',z,h3,h4⟩:=h'
   cases z
   simp only [pls,Bool.and_eq_true] at p'
   rw [RD.inj p.1 p'.1 h1 h3,RDs.inj p.2 p'.2 h2 h4]
end
theorem Ka:∀{ds:List D} {d:D},pls ds=true->d∈ds->d.pl=true
 | e::ds,d,h,m=>by
  simp only [pls,Bool.and_eq_true] at h;rcases List.mem_cons.mp m with rfl | m
  . exact h.1
  . exact Ka h.2 m
theorem Ks:∀{ds:List D} {d:D},d∈ds->d.dep<=i9 ds
 | d'::ds,d,h=>by
  simp only [i9];rcases List.mem_cons.mp h with rfl | h
  . lia
  . have:=Ks h;lia
theorem Kr:∀{ds es:List D},ds.length=es.length->m9 ds es=(List.range ds.length).all fun j=>eqD (ds.getD j .non) (es.getD j .non)
 | [],[],_=>rfl
 | [],_::_,h=>by simp at h
 | _::_,[],h=>by simp at h
 | d::ds,e::es,h=>by simp only [m9,List.length_cons];rw [Kr (by simpa using h),List.range_succ_eq_map,List.all_cons,List.all_map];rfl
theorem Kq:∀{ds es:List D},ds.length≠es.length->m9 ds es=false
 | [],[],h=>absurd rfl h
 | [],_::_,_=>rfl
 | _::_,[],_=>rfl
 | d::ds,e::es,h=>by simp only [m9];rw [Kq (by intro z;exact h (by simp [z])),Bool.and_false]
section
variable {X:Cx} {pins:List (Addr×Obj)} {U:St} {H:Hp} {s:Shared}
theorem Inv.tupA (I:Inv X pins U H s) (h:H a=some (.tup xs)):∃its:List Value,Vals xs its/\s.heap.IsTuple a its.toArray:=by obtain ⟨its,r,t,_⟩:=I.tuple (.of h);exact ⟨its,r,t⟩
theorem Inv.lstA (I:Inv X pins U H s) (h:H a=some (.lst xs)):∃its:List Value,Vals xs its/\s.heap.IsList a its.toArray:=by obtain ⟨its,r,t,_⟩:=I.list (.of h);exact ⟨its,r,t.isList⟩
inductive Shp (X:Cx) (H:Hp) (s:Shared):D->V->Value->Prop
 | non:Shp X H s .non .non .none
 | bl (b:Bool):Shp X H s (.bl b) (.bl b) (.bool b)
 | int (i:Int) (t:Tok):Shp X H s (.int i) (.int i) (.int i t)
 | str (c:Str) (t:Tok):Shp X H s (.str c) (.str c) (.str c t)
 | tup {ds:List D} {a:Addr} {xs:List V} {its:List Value} (p:pls ds=true) (h:H a=some (.tup xs)) (q:RDs X.K H ds xs) (r:Vals xs its) (t:s.heap.IsTuple a its.toArray):Shp X H s (.tup ds) (.ref a) (.ref a)
 | lst {ds:List D} {a:Addr} {xs:List V} {its:List Value} (p:pls ds=true) (h:H a=some (.lst xs)) (q:RDs X.K H ds xs) (r:Vals xs its) (t:s.heap.IsList a its.toArray):Shp X H s (.lst ds) (.ref a) (.ref a)
theorem shp (I:Inv X pins U H s) (p:d.pl=true) (h:RD X.K H d x) (r:RelV x u):Shp X H s d x u:=by
 cases d<;>simp only [RD] at h<;>first | (exfalso;simp [D.pl] at p;done) | skip
 . subst h;cases r;exact .non
 . subst h;cases r;exact .bl _
 . subst h;obtain ⟨t,rfl⟩:=r;exact .int _ _
 . subst h;obtain ⟨t,rfl⟩:=r;exact .str _ _
 . obtain ⟨a,xs,rfl,h1,h2⟩:=h;cases r;obtain ⟨its,v,t⟩:=I.tupA h1;exact .tup (by simpa only [D.pl] using p) h1 h2 v t
 . obtain ⟨a,xs,rfl,h1,h2⟩:=h;cases r;obtain ⟨its,v,t⟩:=I.lstA h1;exact .lst (by simpa only [D.pl] using p) h1 h2 v t
def Fj (X:Cx) (H:Hp) (s:Shared) (A:Around) (n:Nat):Prop:=∀{d e:D} {x y:V} {u v:Value},d.pl=true->e.pl=true->d.dep<=n->RD X.K H d x->RD X.K H e y->RelV x u->RelV y v->SeqAt.EqAt A s u v (eqD d e)
theorem So (ih:Fj X H s A n) (pd:pls ds=true) (pe:pls es=true) (hdn:i9 ds<=n) (hxs:RDs X.K H ds xs) (hys:RDs X.K H es ys) (r:Vals xs its) (r2:Vals ys its2) (j:Nat)
  (h1:j<its.toArray.size) (h2:j<its2.toArray.size):SeqAt.EqAt A s its.toArray[j] its2.toArray[j] (eqD (ds.getD j .non) (es.getD j .non)):=by
 have h1':j<its.length:=by simpa using h1
 have h2':j<its2.length:=by simpa using h2
 have l1:=r.length
 have l2:=r2.length
 obtain ⟨u1,e1,q1⟩:=r.get (i:=j) (x:=xs[j]'(by lia)) (by simp)
 obtain ⟨u2,e2,q2⟩:=r2.get (i:=j) (x:=ys[j]'(by lia)) (by simp)
 obtain ⟨d1,g1,w1⟩:=hxs.get (i:=j) (x:=xs[j]'(by lia)) (by simp)
 obtain ⟨d2,g2,w2⟩:=hys.get (i:=j) (x:=ys[j]'(by lia)) (by simp)
 have ea:its.toArray[j]=u1:=by rw [List.getElem?_eq_getElem h1'] at e1;simpa using e1
 have eb:its2.toArray[j]=u2:=by rw [List.getElem?_eq_getElem h2'] at e2;simpa using e2
 have ga:ds.getD j .non=d1:=by rw [List.getD_eq_getElem?_getD,g1];rfl
 have gb:es.getD j .non=d2:=by rw [List.getD_eq_getElem?_getD,g2];rfl
 rw [ea,eb,ga,gb]
 exact ih (Ka pd (List.mem_of_getElem? g1)) (Ka pe (List.mem_of_getElem? g2)) (Nat.le_trans (Ks (List.mem_of_getElem? g1)) hdn) w1 w2 q1 q2
theorem vB (hxs:RDs X.K H ds xs) (hys:RDs X.K H es ys) (r:Vals xs its) (r2:Vals ys its2) :
  ((List.range (min its.toArray.size its2.toArray.size)).all (fun j=>eqD (ds.getD j .non) (es.getD j .non))&&its.toArray.size==its2.toArray.size)=m9 ds es:=by
 have lx:=hxs.length;have ly:=hys.length;have l1:=r.length;have l2:=r2.length
 simp only [List.size_toArray]
 by_cases hl:ds.length=es.length
 . rw [Kr hl];have:its.length=its2.length:=by lia
   rw [this,Nat.min_self,show its2.length=ds.length by lia];simp
 . rw [Kq hl];have:(its.length==its2.length)=false:=by simp;lia
   rw [this,Bool.and_false]
theorem vA (hxs:RDs X.K H ds xs) (hys:RDs X.K H es ys) (r:Vals xs its) (r2:Vals ys its2) (hl:ds.length=es.length) :
  ((List.range its.toArray.size).all fun j=>eqD (ds.getD j .non) (es.getD j .non))=m9 ds es:=by
 have lx:=hxs.length;have ly:=hys.length;have l1:=r.length;have l2:=r2.length
 rw [Kr hl,List.size_toArray,show its.length=ds.length by lia]
theorem Yd (hu:A.units<cLine) (ih:Fj X H s A.in1 n) (hn:d.dep<=n+1) (sx:Shp X H s d x u) (sy:Shp X H s e y v):SeqAt.RcAt A s u v (eqD d e)/\SeqAt.RcNeAt A s u v (!eqD d e):=by
 cases sx with
 | non=>cases sy with
  | non=>exact ⟨.none_none,.none_none⟩
  | bl _=>exact ⟨.none_bool _,.none_bool _⟩
  | int _ _=>exact ⟨.none_int _ _,.none_int _ _⟩
  | str _ _=>exact ⟨.none_str _ _,.none_str _ _⟩
  | tup p2 h2 q2 r2 t2=>exact ⟨.none_tuple t2 hu,.none_tuple t2 hu⟩
  | lst p2 h2 q2 r2 t2=>exact ⟨.none_list t2 hu,.none_list t2 hu⟩
 | bl _=>cases sy with
  | non=>exact ⟨.bool_none _,.bool_none _⟩
  | bl _=>exact ⟨.bool_bool _ _,.bool_bool _ _⟩
  | int _ _=>exact ⟨.bool_int _ _ _,.bool_int _ _ _⟩
  | str _ _=>exact ⟨.bool_str _ _ _,.bool_str _ _ _⟩
  | tup p2 h2 q2 r2 t2=>exact ⟨.bool_tuple _ t2 hu,.bool_tuple _ t2 hu⟩
  | lst p2 h2 q2 r2 t2=>exact ⟨.bool_list _ t2 hu,.bool_list _ t2 hu⟩
 | int _ _=>cases sy with
  | non=>exact ⟨.int_none _ _,.int_none _ _⟩
  | bl _=>exact ⟨.int_bool _ _ _,.int_bool _ _ _⟩
  | int _ _=>exact ⟨.int_int _ _ _ _,.int_int _ _ _ _⟩
  | str _ _=>exact ⟨.int_str _ _ _ _,.int_str _ _ _ _⟩
  | tup p2 h2 q2 r2 t2=>exact ⟨.int_tuple _ _ t2 hu,.int_tuple _ _ t2 hu⟩
  | lst p2 h2 q2 r2 t2=>exact ⟨.int_list _ _ t2 hu,.int_list _ _ t2 hu⟩
 | str _ _=>cases sy with
  | non=>exact ⟨.str_none _ _,.str_none _ _⟩
  | bl _=>exact ⟨.str_bool _ _ _,.str_bool _ _ _⟩
  | int _ _=>exact ⟨.str_int _ _ _ _,.str_int _ _ _ _⟩
  | str _ _=>exact ⟨.str_str _ _ _ _,.str_str _ _ _ _⟩
  | tup p2 h2 q2 r2 t2=>exact ⟨.str_tuple _ _ t2 hu,.str_tuple _ _ t2 hu⟩
  | lst p2 h2 q2 r2 t2=>exact ⟨.str_list _ _ t2 hu,.str_list _ _ t2 hu⟩
 | tup p h q r t=>cases sy with
  | non=>exact ⟨.tuple_none t hu,.tuple_none t hu⟩
  | bl _=>exact ⟨.tuple_bool _ t hu,.tuple_bool _ t hu⟩
  | int _ _=>exact ⟨.tuple_int _ _ t hu,.tuple_int _ _ t hu⟩
  | str _ _=>exact ⟨.tuple_str _ _ t hu,.tuple_str _ _ t hu⟩
  | tup p2 h2 q2 r2 t2 => 
   simp only [D.dep] at hn
   have z:=So ih p p2 (Nat.le_of_succ_le_succ hn) q q2 r r2
   simp only [eqD]
   rw [<-vB q q2 r r2]
   exact ⟨.tuples t t2 hu z,.tuples t t2 hu z⟩
  | lst p2 h2 q2 r2 t2=>exact ⟨.tuple_list t t2 hu,.tuple_list t t2 hu⟩
 | lst p h q r t=>cases sy with
  | non=>exact ⟨.list_none t hu,.list_none t hu⟩
  | bl _=>exact ⟨.list_bool _ t hu,.list_bool _ t hu⟩
  | int _ _=>exact ⟨.list_int _ _ t hu,.list_int _ _ t hu⟩
  | str _ _=>exact ⟨.list_str _ _ t hu,.list_str _ _ t hu⟩
  | tup p2 h2 q2 r2 t2=>exact ⟨.list_tuple t t2 hu,.list_tuple t t2 hu⟩
  | lst p2 h2 q2 r2 t2 => 
   rename_i ds _ xs its es _ ys its2
   simp only [D.dep] at hn
   have z:=So ih p p2 (Nat.le_of_succ_le_succ hn) q q2 r r2
   have lx:=q.length;have ly:=q2.length;have l1:=r.length;have l2:=r2.length
   simp only [eqD]
   by_cases hl:ds.length=es.length
   . have hsz:its.toArray.size=its2.toArray.size:=by simp;lia
     rw [<-vA q q2 r r2 hl];exact ⟨.lists t t2 hsz hu z,.lists t t2 hsz hu z⟩
   . have hsz:(its.toArray.size != its2.toArray.size)=true:=by simp;lia
     rw [Kq hl];exact ⟨.lists_lengths t t2 hsz hu,.lists_lengths t t2 hsz hu⟩
theorem Ac (I:Inv X pins U H s):∀(n:Nat) {A:Around} {d e:D} {x y:V} {u v:Value},d.pl=true->e.pl=true->d.dep<=n->A.units+n<cLine->RD X.K H d x->RD X.K H e y->RelV x u->RelV y v->SeqAt.EqAt A s u v (eqD d e):=by
 have key:∀(n:Nat) {A:Around} {d e:D} {x y:V} {u v:Value},A.units<cLine->(∀m,m+1=n->Fj X H s A.in1 m)->d.pl=true->e.pl=true->d.dep<=n->RD X.K H d x->RD X.K H e y->RelV x u->RelV y v->SeqAt.EqAt A s u v (eqD d e):=by
  intro n A d e x y u v hu ih hpd hpe hn hx hy ru rv;have sx:=shp I hpd hx ru;have sy:=shp I hpe hy rv;have back:∀{a b:Addr},u=.ref a->v=.ref b->x=.ref a->y=.ref b->1<=d.dep->SeqAt.EqAt A s u v (eqD d e):=fun {a b} eu ev ex ey h1=>by
   subst eu ev ex ey;by_cases hab:a=b
   . subst hab;rw [RD.inj hpd hpe hx hy,Eb _ hpe];exact .same _
   . exact .of_refs hab (Yd (n:=n - 1) hu (ih (n - 1) (by lia)) (by lia) sx sy).1
  cases sx with
  | non=>cases sy with
   | non=>exact .same _
   | bl _=>exact .none_bool _
   | int _ _=>exact .none_int _ _
   | str _ _=>exact .none_str _ _
   | tup p2 h2 q2 r2 t2=>exact .none_tuple t2 hu
   | lst p2 h2 q2 r2 t2=>exact .none_list t2 hu
  | bl _=>cases sy with
   | non=>exact .bool_none _
   | bl _=>exact .bool_bool _ _
   | int _ _=>exact .bool_int _ _ _
   | str _ _=>exact .bool_str _ _ _
   | tup p2 h2 q2 r2 t2=>exact .bool_tuple _ t2 hu
   | lst p2 h2 q2 r2 t2=>exact .bool_list _ t2 hu
  | int _ _=>cases sy with
   | non=>exact .int_none _ _
   | bl _=>exact .int_bool _ _ _
   | int _ _=>exact .int_int _ _ _ _
   | str _ _=>exact .int_str _ _ _ _
   | tup p2 h2 q2 r2 t2=>exact .int_tuple _ _ t2 hu
   | lst p2 h2 q2 r2 t2=>exact .int_list _ _ t2 hu
  | str _ _=>cases sy with
   | non=>exact .str_none _ _
   | bl _=>exact .str_bool _ _ _
   | int _ _=>exact .str_int _ _ _ _
   | str _ _=>exact .str_str _ _ _ _
   | tup p2 h2 q2 r2 t2=>exact .str_tuple _ _ t2 hu
   | lst p2 h2 q2 r2 t2=>exact .str_list _ _ t2 hu
  | tup p h q r t=>cases sy with
   | non=>exact .tuple_none t hu
   | bl _=>exact .tuple_bool _ t hu
   | int _ _=>exact .tuple_int _ _ t hu
   | str _ _=>exact .tuple_str _ _ t hu
   | tup p2 h2 q2 r2 t2=>exact back rfl rfl rfl rfl (by simp only [D.dep];exact Nat.succ_pos _)
   | lst p2 h2 q2 r2 t2=>exact .tuple_list t t2 hu
  | lst p h q r t=>cases sy with
   | non=>exact .list_none t hu
   | bl _=>exact .list_bool _ t hu
   | int _ _=>exact .list_int _ _ t hu
   | str _ _=>exact .list_str _ _ t hu
   | tup p2 h2 q2 r2 t2=>exact .list_tuple t t2 hu
   | lst p2 h2 q2 r2 t2=>exact back rfl rfl rfl rfl (by simp only [D.dep];exact Nat.succ_pos _)
 intro n;induction n with
 | zero=>exact fun p q hn hu=>key 0 (by lia) (fun m z=>nomatch z) p q hn
 | succ n ih=>exact fun {A d e x y u v} p q hn hu=>key (n+1) (by lia) (fun m z=>by cases z;exact fun p q hn=>ih p q hn (by show A.units+1+n<cLine;lia)) p q hn
theorem Qo (I:Inv X pins U H s) (hpd:d.pl=true) (hpe:e.pl=true) (hn:d.dep<=n) (hu:A.units+1+n<cLine) (hx:RD X.K H d x) (hy:RD X.K H e y) (ru:RelV x u) (rv:RelV y v):SeqAt.RcAt A s u v (eqD d e)/\SeqAt.RcNeAt A s u v (!eqD d e):=
 Yd (n:=n) (by lia) (fun p q h=>Ac I n p q h (by show A.units+1+n<cLine;lia)) (by lia) (shp I hpd hx ru) (shp I hpe hy rv)
end
section
variable {X:Cx}
open Classical in
def hitD (K:Frag) (H:Hp) (d:D) (u:Value):Bool:=match Yv u with
 | some v=>decide (∃e,e.pl=true/\RD K H e v/\eqD e d=true)
 | none=>false
open Classical in
theorem Sn {K:Frag} {H:Hp} {d e:D} {y:V} {u:Value} (pe:e.pl=true) (r:RelV y u) (h:RD K H e y):hitD K H d u=eqD e d:=by unfold hitD;rw [r.abs];dsimp only;rw [Bool.eq_iff_iff];rw [decide_eq_true_iff];exact ⟨fun ⟨e',p',h',q⟩=>by rw [RD.inj pe p' h h'];exact q,fun q=>⟨e,pe,h,q⟩⟩
theorem Ko {K:Frag} {H:Hp} {d:D}:∀{es:List D} {xs:List V} {us:List Value},pls es=true->RDs K H es xs->Vals xs us->us.any (hitD K H d)=es.any fun e=>eqD e d
 | [],_,_,_,h,r=>by simp only [RDs] at h;subst h;cases r;rfl
 | e::es,_,_,p,h,r=>by
  simp only [RDs] at h;simp only [pls,Bool.and_eq_true] at p;obtain ⟨x,xs,rfl,h1,h2⟩:=h;cases r with
  | cons r1 r2=>rw [List.any_cons,List.any_cons,Sn p.1 r1 h1,Ko p.2 h2 r2]
theorem Jz {A:Around} {pins:List (Addr×Obj)} {U:St} {H:Hp} {s:Shared} (I:Inv X pins U H s) (hu:A.units+1+20<cLine) {d:D} {x:V} {v:Value} (pd:d.pl=true) (hx:RD X.K H d x) (rx:RelV x v):∀{es:List D} {xs:List V} {us:List Value},
  pls es=true->RDs X.K H es xs->Vals xs us->i9 es<=20->∀u∈us,SeqAt.EqAt A.in1 s u v (hitD X.K H d u)
 | [],_,_,_,h,r,_=>by simp only [RDs] at h;subst h;cases r;intro u hu;cases hu
 | e::es,_,_,p,h,r,hd=>by
  simp only [RDs] at h;simp only [pls,Bool.and_eq_true] at p;obtain ⟨y,xs,rfl,h1,h2⟩:=h;simp only [i9] at hd;cases r with
  | cons r1 r2=>
   intro u hm
   rcases List.mem_cons.mp hm with z | hm
   . subst z;rw [Sn p.1 r1 h1];exact Ac I 20 p.1 pd (by lia) (by show A.units+1+20<cLine;lia) h1 hx r1 rx
   . exact Jz I hu pd hx rx p.2 h2 r2 (by lia) u hm
end
structure Ex where
 cls:String
 fs:List D
inductive R (α:Type) where
 | ok (a:α) | er (x:Ex) | st
noncomputable def R.bind {α β:Type} (r:R α) (f:α->R β):R β:=match r with
 | .ok a=>f a
 | .er x=>.er x
 | .st=>.st
def Rk {α:Type} (EX:Ex->Prop) (r:R α) (k:α->Prop):Prop:=match r with
 | .ok a=>k a
 | .er x=>EX x
 | .st=>False
section
variable {α β:Type} {EX:Ex->Prop}
noncomputable def R.of (o:Option α):R α:=match o with
 | some a=>.ok a
 | none=>.st
theorem R.of_some (a:α):R.of (some a)=R.ok a:=rfl
theorem Rk.of (h:Rk EX (R.of o) k):∃a,o=some a/\k a:=by
 cases o with
 | none=>exact h.elim
 | some a=>exact ⟨a,rfl,h⟩
theorem R.bind_ok (a:α) (f:α->R β):(R.ok a).bind f=f a:=rfl
theorem Rk.bind:Rk EX (r.bind f) k=Rk EX r fun a=>Rk EX (f a) k:=by cases r<;>rfl
theorem Rk.mono (h:Rk EX r k) (hk:∀a,k a->k' a):Rk EX r k':=by
 cases r with
 | ok a=>exact hk a h
 | er x=>exact h
 | st=>exact h
end
def NoT (o:Option HO):Prop:=o=none\/∃xs,o=some (.tup xs)
def Ext (H0 H H0' H':Hp):Prop:=Same H0 H0'/\Same H0' H'/\∀a,H a≠none->H0 a=none->NoT (H0' a)
theorem Ext.refl (h:Same H0 H):Ext H0 H H0 H:=⟨Same.refl _,h,fun _ _ e=>.inl e⟩
theorem Ext.nt (e:Ext H0 H H0' H') (h:H a≠none) (n:NoT (H0 a)):NoT (H0' a):=by
 rcases n with n | ⟨xs,n⟩
 . exact e.2.2 a h n
 . exact .inr ⟨xs,e.1 _ _ n⟩
theorem Ext.no (e:Ext H0 H H0' H') (s:Same H H') (h:H a=some o) (ni:¬Imm o) (h0:H0 a=none):H0' a=none:=by
 rcases e.2.2 a (by rw [h];exact fun z=>nomatch z) h0 with z | ⟨xs,z⟩
 . exact z
 . have:=e.2.1 _ _ z;rw [s _ _ h] at this;cases this;exact absurd trivial ni
theorem vz (h:o=some x):o≠none:=by rw [h];exact fun z=>nomatch z
theorem Same.ne (h:Same H H') (n:H a≠none):H' a≠none:=by
 cases e:H a with
 | none=>exact absurd e n
 | some o=>exact vz (h a o e)
theorem Ext.trans (s:Same H H') (a:Ext H0 H H0' H') (b:Ext H0' H' H0'' H''):Ext H0 H H0'' H'':=
 ⟨a.1.trans b.1,b.2.1,fun c h1 h2=>b.nt (s.ne h1) (a.2.2 c h1 h2)⟩
theorem Ext.grow (a:Ext H0 H H0' H') (s:Same H' H''):Ext H0 H H0' H'':=⟨a.1,a.2.1.trans s,a.2.2⟩
theorem Ext.new (h:Same H0 H) (hp:H p=none):Ext H0 H (upd H0 p o) (upd H p o):=by
 have h0:H0 p=none:=by
  cases e:H0 p with
  | none=>rfl
  | some u=>rw [h p u e] at hp;cases hp
 refine ⟨Same.upd_new h0,fun b u e=>?_,fun a h1 h2=>?_⟩
 . by_cases hb:b=p
   . subst hb;rw [i8] at e ⊢;exact e
   . rw [b8 hb] at e ⊢;exact h b u e
 . have ha:a≠p:=fun z=>h1 (by rw [z];exact hp)
   rw [b8 ha];exact .inl h2
def OB (K:Frag) (H0 H:Hp) (a:Addr):D->Prop
 | .lst ds=>∃xs,H a=some (.lst xs)/\RDs K H0 ds xs
 | .dk ks ds=>∃xs,H a=some (.dK (ks.zip xs))/\ks.length=xs.length/\RDs K H0 ds xs
 | .dt ks ds=>∃xs,H a=some (.dT (ks.zip xs))/\ks.length=xs.length/\RDs K H0 ds xs
 | .dn ks ds=>∃qs xs o,H a=some (.ext (dnP a qs xs o))/\qs.map (·.1)=ks/\DN H0 a qs/\RDs K H0 ds xs
 | _=>False
section
variable {K:Frag} {H0 H H0' H':Hp} {a:Addr} {d:D}
theorem OB.some (h:OB K H0 H a d):∃o,H a=some o/\¬Imm o:=by
 cases d<;>simp only [OB] at h
 . obtain ⟨xs,h,_⟩:=h;exact ⟨_,h,fun z=>z⟩
 . obtain ⟨xs,h,_⟩:=h;exact ⟨_,h,fun z=>z⟩
 . obtain ⟨xs,h,_⟩:=h;exact ⟨_,h,fun z=>z⟩
 . obtain ⟨qs,xs,o,h,_⟩:=h;exact ⟨_,h,fun z=>z _ _ _ _ rfl⟩
theorem OB.mono (h:OB K H0 H a d) (s0:Same H0 H0') (s:Same H H'):OB K H0' H' a d:=by
 cases d<;>simp only [OB] at h ⊢
 . obtain ⟨xs,h,r⟩:=h;exact ⟨_,s _ _ h,r.mono s0⟩
 . obtain ⟨xs,h,l,r⟩:=h;exact ⟨_,s _ _ h,l,r.mono s0⟩
 . obtain ⟨xs,h,l,r⟩:=h;exact ⟨_,s _ _ h,l,r.mono s0⟩
 . obtain ⟨qs,xs,o,h,k,n,r⟩:=h;exact ⟨qs,xs,o,s _ _ h,k,n.tk fun b ys q=>s0 _ _ q,r.mono s0⟩
theorem OB.at (h:OB K H0 H a d) (e:H' a=H a):OB K H0 H' a d:=by
 cases d<;>simp only [OB] at h ⊢
 . obtain ⟨xs,h,r⟩:=h;exact ⟨_,e.trans h,r⟩
 . obtain ⟨xs,h,l,r⟩:=h;exact ⟨_,e.trans h,l,r⟩
 . obtain ⟨xs,h,l,r⟩:=h;exact ⟨_,e.trans h,l,r⟩
 . obtain ⟨qs,xs,o,h,k,n,r⟩:=h;exact ⟨qs,xs,o,e.trans h,k,n,r⟩
theorem OB.tk (h:OB K H0 H a d) (n:d.shal=true) (t:TK H0 H0'):OB K H0' H a d:=by
 cases d<;>simp only [OB,D.shal] at h n ⊢
 . obtain ⟨xs,h,r⟩:=h;exact ⟨_,h,r.tk t n⟩
 . obtain ⟨xs,h,l,r⟩:=h;exact ⟨_,h,l,r.tk t n⟩
 . obtain ⟨xs,h,l,r⟩:=h;exact ⟨_,h,l,r.tk t n⟩
 . obtain ⟨qs,xs,o,h,k,m,r⟩:=h;exact ⟨qs,xs,o,h,k,m.tk fun b ys q=>t _ _ trivial q,r.tk t n⟩
theorem OB.rd (h:OB K H0 H a d) (s0:Same H0 H0') (e:H0' a=H a):RD K H0' d (.ref a):=by
 cases d<;>simp only [OB,RD] at h ⊢
 . obtain ⟨xs,h,r⟩:=h;exact ⟨_,_,rfl,e.trans h,r.mono s0⟩
 . obtain ⟨xs,h,l,r⟩:=h;exact ⟨_,_,rfl,e.trans h,l,r.mono s0⟩
 . obtain ⟨xs,h,l,r⟩:=h;exact ⟨_,_,rfl,e.trans h,l,r.mono s0⟩
 . obtain ⟨qs,xs,o,h,k,n,r⟩:=h;exact ⟨_,qs,xs,o,rfl,e.trans h,k,n.tk fun b ys q=>s0 _ _ q,r.mono s0⟩
end
def Out (K:Frag) (fr:Bool) (H0 H:Hp) (d:D) (v:V) (H':Hp):Prop:=
 Same H H'/\∃H0',Ext H0 H H0' H'/\(if fr=true then ∃p,v=.ref p/\H p=none/\H0' p=none/\OB K H0' H' p d else RD K H0' d v)
section
variable {K:Frag} {fr:Bool} {H0 H H0' H':Hp} {d:D} {v:V}
theorem Out.val (s:Same H H') (e:Ext H0 H H0' H') (r:RD K H0' d v):Out K false H0 H d v H':=⟨s,H0',e,by rw [ψ η];exact r⟩
theorem Out.pure (s:Same H0 H) (r:RD K H0 d v):Out K false H0 H d v H:=.val (Same.refl _) (.refl s) r
theorem Out.fresh (s:Same H H') (e:Ext H0 H H0' H') (hp:H p=none) (hp0:H0' p=none) (o:OB K H0' H' p d):Out K true H0 H d (.ref p) H':=⟨s,H0',e,by rw [ξ rfl];exact ⟨p,rfl,hp,hp0,o⟩⟩
theorem Out.rd (o:Out K false H0 H d v H'):Same H H'/\∃H0',Ext H0 H H0' H'/\RD K H0' d v:=by obtain ⟨s,H0',e,r⟩:=o;rw [ψ η] at r;exact ⟨s,H0',e,r⟩
theorem Out.weak (o:Out K fr H0 H d v H'):Out K false H0 H d v H':=by
 cases fr with
 | false=>exact o
 | true=>
  obtain ⟨s,H0',e,r⟩:=o
  rw [ξ rfl] at r
  obtain ⟨p,rfl,hp,hp0,ob⟩:=r
  obtain ⟨u,hu,_⟩:=ob.some
  have e2:Ext H0 H (upd H0' p u) H':=by
   refine ⟨e.1.trans (Same.upd_new hp0),fun b w q=>?_,fun a h1 h2=>?_⟩
   . by_cases hb:b=p
     . subst hb;rw [i8] at q;cases q;exact hu
     . rw [b8 hb] at q;exact e.2.1 b w q
   . rw [b8 (fun z=>h1 (by rw [z];exact hp))];exact e.2.2 a h1 h2
  exact .val s e2 (ob.rd (Same.upd_new hp0) (by rw [i8,hu]))
theorem Out.after (s:Same H H1) (e:Ext H0 H H1' H1) (o:Out K fr H1' H1 d v H'):Out K fr H0 H d v H':=by
 obtain ⟨s',H0',e',r⟩:=o;refine ⟨s.trans s',H0',e.trans s e',?_⟩;cases fr with
 | false=>exact r
 | true=>
  rw [ξ rfl] at r ⊢
  obtain ⟨p,rfl,hp,r⟩:=r
  refine ⟨p,rfl,?_,r⟩
  cases q:H p with
  | none=>rfl
  | some u=>rw [s p u q] at hp;cases hp
end
abbrev DE:=List (Option D)
def RE (K:Frag) (H:Hp) (ρ:DE) (U:St):Prop:=ρ.length=U.length/\∀(i:Nat) d,ρ[i]?=some (some d)->∃v,U[i]?=some (some v)/\RD K H d v
theorem RE.mono {K:Frag} {H H':Hp} {ρ:DE} {U:St} (h:RE K H ρ U) (s:Same H H'):RE K H' ρ U:=⟨h.1,fun i d e=>by obtain ⟨v,h1,h2⟩:=h.2 i d e;exact ⟨v,h1,h2.mono s⟩⟩
structure XW where
 hb:Hp
 p:Ex->Hp->Prop
abbrev F0:XW:=⟨fun _=>none,fun _ _=>False⟩
theorem F0.same (H:Hp):Same F0.hb H:=fun _ _ z=>nomatch z
def XW.at (W:XW) (x:Ex):Prop:=∀H',Same W.hb H'->W.p x H'
noncomputable def TEd (K:Frag) (EX:XW) (fr:Bool) (f:DE->R D):TE:=fun U H Q=>Same EX.hb H/\∃ρ H0,Same H0 H/\RE K H0 ρ U/\Rk EX.at (f ρ) fun d=>∀v H',Out K fr H0 H d v H'->Q v H'
noncomputable def TAd (K:Frag) (EX:XW) (f:DE->R (List D)):TA:=fun U H Q=>Same EX.hb H/\∃ρ H0,Same H0 H/\RE K H0 ρ U/\Rk EX.at (f ρ) fun ds=>∀vs H' H0',Same H H'->Ext H0 H H0' H'->RDs K H0' ds vs->Q vs H'
noncomputable def TTd (K:Frag) (EX:XW) (f:DE->R Bool):TT:=fun U H Q=>Same EX.hb H/\∃ρ H0,Same H0 H/\RE K H0 ρ U/\Rk EX.at (f ρ) fun b=>∀H',Same H H'->Q b H'
noncomputable def a5 (i:Nat):DE->R D:=fun ρ=>match ρ[i]? with | some (some d)=>.ok d | _=>.st
noncomputable def eC (d:D):DE->R D:=fun _=>.ok d
def eOp (o:D->D->Option D) (fa fb:DE->R D):DE->R D:=fun ρ=>(fa ρ).bind fun x=>(fb ρ).bind fun y=>R.of (o x y)
def eUn (o:D->Option D) (fa:DE->R D):DE->R D:=fun ρ=>(fa ρ).bind fun x=>R.of (o x)
noncomputable def a8:DE->R (List D):=fun _=>.ok []
def a6 (f:DE->R D) (fs:DE->R (List D)):DE->R (List D):=fun ρ=>(f ρ).bind fun d=>(fs ρ).bind fun ds=>.ok (d::ds)
def e8 (m:List D->R D) (fs:DE->R (List D)):DE->R D:=fun ρ=>(fs ρ).bind m
def eCB (m:List D->Option D) (fs:DE->R (List D)):DE->R D:=fun ρ=>(fs ρ).bind fun ds=>R.of (m ds)
def e9 (fs:DE->R (List D)):DE->R D:=fun ρ=>(fs ρ).bind fun ds=>if ds.length<=1000 then .ok (.tup ds) else .st
def k7 (fs:DE->R (List D)):DE->R D:=fun ρ=>(fs ρ).bind fun ds=>if ds.length<=1000 then .ok (.lst ds) else .st
def eIf (t:DE->R Bool) (fa fb:DE->R D):DE->R D:=fun ρ=>(t ρ).bind fun b=>if b=true then fa ρ else fb ρ
def z5 (t u:DE->R Bool):DE->R Bool:=fun ρ=>(t ρ).bind fun b=>if b=true then u ρ else .ok false
def bOr (t u:DE->R Bool):DE->R Bool:=fun ρ=>(t ρ).bind fun b=>if b=true then .ok true else u ρ
def v0 (t:DE->R Bool):DE->R Bool:=fun ρ=>(t ρ).bind fun b=>.ok (!b)
noncomputable def asB:D->Option Bool
 | .bl b=>some b
 | _=>none
def c6 (tr:D->Option Bool) (f:DE->R D):DE->R Bool:=fun ρ=>(f ρ).bind fun d=>R.of (tr d)
def o4 (fa fb:DE->R D):DE->R D:=fun ρ=>(fa ρ).bind fun x=>(R.of (asB x)).bind fun b=>if b=true then fb ρ else .ok (.bl false)
def eOr (fa fb:DE->R D):DE->R D:=fun ρ=>(fa ρ).bind fun x=>(R.of (asB x)).bind fun b=>if b=true then .ok (.bl true) else fb ρ
def OpD (K:Frag) (fr:Bool) (o:D->D->Option D) (r:R2):Prop:=∀(H0 H:Hp) (x y:V) (d e z:D) (Q:VK),Same H0 H->RD K H0 d x->RD K H0 e y->o d e=some z->(∀v H',Out K fr H0 H z v H'->Q v H')->r x y H Q
def UnD (K:Frag) (fr:Bool) (o:D->Option D) (r:V->Hp->VK->Prop):Prop:=∀(H0 H:Hp) (x:V) (d z:D) (Q:VK),Same H0 H->RD K H0 d x->o d=some z->(∀v H',Out K fr H0 H z v H'->Q v H')->r x H Q
def x3 (K:Frag) (fr:Bool) (m:List D->Option D) (r:List V->Hp->VK->Prop):Prop:=∀(H0 H:Hp) (xs:List V) (ds:List D) (z:D) (Q:VK),Same H0 H->RDs K H0 ds xs->m ds=some z->(∀v H',Out K fr H0 H z v H'->Q v H')->r xs H Q
def Fi (K:Frag) (tr:D->Option Bool) (r:V->Hp->(Bool->Hp->Prop)->Prop):Prop:=∀(H0 H:Hp) (x:V) (d:D) (b:Bool) (Q:Bool->Hp->Prop),Same H0 H->RD K H0 d x->tr d=some b->Q b H->r x H Q
section
variable {K:Frag} {EX:XW} {fr:Bool} {U:St} {H:Hp} {Q:VK}
theorem TEd.go (sx:Same EX.hb H) (s:Same H0 H) (e:RE K H0 ρ U) (h:Rk EX.at (f ρ) k) (hk:∀d,k d->∀v H' H0',Same H H'->Ext H0 H H0' H'->RD K H0' d v->Q v H'):TEd K EX false f U H Q:=
 ⟨sx,ρ,H0,s,e,h.mono fun d z v H' o=>by obtain ⟨s',H0',e',r⟩:=o.rd;exact hk d z v H' H0' s' e' r⟩
theorem TAd.go {f:DE->R (List D)} {ρ:DE} {H0:Hp} {k:List D->Prop} {Q:List V->Hp->Prop} (sx:Same EX.hb H) (s:Same H0 H) (e:RE K H0 ρ U) (h:Rk EX.at (f ρ) k) (hk:∀d,k d->∀v H' H0',Same H H'->Ext H0 H H0' H'->RDs K H0' d v->Q v H'):TAd K EX f U H Q:=
 ⟨sx,ρ,H0,s,e,h.mono fun d z v H' H0' s' e' r=>hk d z v H' H0' s' e' r⟩
theorem TTd.go {f:DE->R Bool} {ρ:DE} {H0:Hp} {k:Bool->Prop} {Q:Bool->Hp->Prop} (sx:Same EX.hb H) (s:Same H0 H) (e:RE K H0 ρ U) (h:Rk EX.at (f ρ) k) (hk:∀b,k b->∀H',Same H H'->Q b H'):TTd K EX f U H Q:=
 ⟨sx,ρ,H0,s,e,h.mono fun b z H' s'=>hk b z H' s'⟩
theorem TEd.weak (h:TEd K EX false f U H Q):TEd K EX fr f U H Q:=by obtain ⟨sx,ρ,H0,s,e,h⟩:=h;exact ⟨sx,ρ,H0,s,e,h.mono fun d z v H' o=>z v H' o.weak⟩
theorem Zr (h:TEd K EX false (a5 i) U H Q):∃v,U[i]?=some (some v)/\Q v H:=by
 obtain ⟨sx,ρ,H0,s,e,h⟩:=h;unfold a5 at h;split at h
 . rename_i d q;obtain ⟨v,h1,h2⟩:=e.2 i d q;exact ⟨v,h1,h v H (.pure s h2)⟩
 . exact h.elim
theorem Dt (hd:∀H0,RD K H0 d v) (h:TEd K EX false (eC d) U H Q):tC v U H Q:=by obtain ⟨sx,ρ,H0,s,e,h⟩:=h;exact h v H (.pure s (hd _))
theorem Ca (ho:OpD K fr o r) (h:TEd K EX fr (eOp o fa fb) U H Q):tOp r (TEd K EX false fa) (TEd K EX false fb) U H Q:=by
 obtain ⟨sx,ρ,H0,s,e,h⟩:=h;unfold eOp at h;rw [Rk.bind] at h;refine TEd.go sx s e h fun d h v H1 H1' s1 e1 r1=>?_
 rw [Rk.bind] at h;refine TEd.go (sx.trans s1) e1.2.1 (e.mono e1.1) h fun d2 h v2 H2 H2' s2 e2 r2=>?_
 obtain ⟨z,hz,h⟩:=h.of;exact ho H2' H2 v v2 d d2 z Q e2.2.1 (r1.mono e2.1) r2 hz fun w H3 o=>h w H3 (o.after (s1.trans s2) (e1.trans s1 e2))
theorem y2z (ho:UnD K fr o r) (h:TEd K EX fr (eUn o fa) U H Q):tUn r (TEd K EX false fa) U H Q:=by
 obtain ⟨sx,ρ,H0,s,e,h⟩:=h;unfold eUn at h;rw [Rk.bind] at h;refine TEd.go sx s e h fun d h v H1 H1' s1 e1 r1=>?_
 obtain ⟨z,hz,h⟩:=h.of;exact ho H1' H1 v d z Q e1.2.1 r1 hz fun w H3 o=>h w H3 (o.after s1 e1)
theorem Ol {Q:List V->Hp->Prop} (h:TAd K EX a8 U H Q):X7 U H Q:=by obtain ⟨sx,ρ,H0,s,e,h⟩:=h;exact h [] H H0 (Same.refl _) (.refl s) .nil
theorem Hz {Q:List V->Hp->Prop} {f:DE->R D} {fs:DE->R (List D)} (h:TAd K EX (a6 f fs) U H Q):G1 (TEd K EX false f) (TAd K EX fs) U H Q:=by
 obtain ⟨sx,ρ,H0,s,e,h⟩:=h;unfold a6 at h;rw [Rk.bind] at h;refine TEd.go sx s e h fun d h v H1 H1' s1 e1 r1=>?_
 rw [Rk.bind] at h;refine TAd.go (sx.trans s1) e1.2.1 (e.mono e1.1) h fun ds h vs H2 H2' s2 e2 r2=>?_
 exact h (v::vs) H2 H2' (s1.trans s2) (e1.trans s1 e2) (.cons (r1.mono e2.1) r2)
theorem Fh (hm:x3 K fr m r) (h:TEd K EX fr (eCB m fs) U H Q):tCB r (TAd K EX fs) U H Q:=by
 obtain ⟨sx,ρ,H0,s,e,h⟩:=h;unfold eCB at h;rw [Rk.bind] at h;refine TAd.go sx s e h fun ds h vs H1 H1' s1 e1 r1=>?_
 obtain ⟨z,hz,h⟩:=h.of;exact hm H1' H1 vs ds z Q e1.2.1 r1 hz fun w H3 o=>h w H3 (o.after s1 e1)
theorem Jy (h:n<=1000):n<=sizeLine:=Nat.le_trans h (by decide)
theorem Zq (h:TEd K EX false (e9 fs) U H Q):Yr (TAd K EX fs) U H Q:=by
 obtain ⟨sx,ρ,H0,s,e,h⟩:=h;unfold e9 at h;rw [Rk.bind] at h;refine TAd.go sx s e h fun ds h vs H1 H1' s1 e1 r1=>?_
 split at h
 . rename_i hl;refine ⟨Jy (by rw [<-r1.length];exact hl),fun p hp=>h _ _ (.val (s1.trans (Same.upd_new hp)) (e1.trans s1 (.new e1.2.1 hp)) ?_)⟩;have h1p:H1' p=none:=by
    cases q:H1' p with
    | none=>rfl
    | some u=>rw [e1.2.1 p u q] at hp;cases hp
   simp only [RD];exact ⟨p,vs,rfl,i8,r1.mono (Same.upd_new h1p)⟩
 . exact h.elim
theorem Same.none (s:Same H H') (h:H' p=none):H p=none:=by
 cases q:H p with
 | none=>rfl
 | some u=>rw [s p u q] at h;cases h
theorem Out.new (s:Same H0 H) (hp:H p=none) (hob:∀H',H' p=some o->OB K H0 H' p d):Out K true H0 H d (.ref p) (upd H p o):=
 .fresh (Same.upd_new hp) ((Ext.refl s).grow (Same.upd_new hp)) hp (s.none hp) (hob _ i8)
theorem Zp (h:TEd K EX true (k7 fs) U H Q):Yq (TAd K EX fs) U H Q:=by
 obtain ⟨sx,ρ,H0,s,e,h⟩:=h;unfold k7 at h;rw [Rk.bind] at h;refine TAd.go sx s e h fun ds h vs H1 H1' s1 e1 r1=>?_
 split at h
 . rename_i hl;refine ⟨Jy (by rw [<-r1.length];exact hl),fun p hp=>h _ _ (Out.after s1 e1 (.new e1.2.1 hp fun H' hH=>?_))⟩;simp only [OB];exact ⟨vs,hH,r1⟩
 . exact h.elim
theorem y30 (h:TEd K EX fr (eIf t fa fb) U H Q):tIf (TTd K EX t) (TEd K EX fr fa) (TEd K EX fr fb) U H Q:=by
 obtain ⟨sx,ρ,H0,s,e,h⟩:=h;unfold eIf at h;rw [Rk.bind] at h;refine TTd.go sx s e h fun b h H1 s1=>?_
 have fin:∀{f:DE->R D},Rk EX.at (f ρ) (fun d=>∀v H',Out K fr H0 H d v H'->Q v H')->TEd K EX fr f U H1 Q:=fun {f} h=>
  ⟨sx.trans s1,ρ,H0,s.trans s1,e,h.mono fun d z v H' o=>z v H' (o.after s1 ((Ext.refl s).grow s1))⟩
 cases b with
 | true=>exact fin h
 | false=>exact fin h
theorem kC {t u:DE->R Bool} {Q:Bool->Hp->Prop} (h:TTd K EX (z5 t u) U H Q):Yx (TTd K EX t) (TTd K EX u) U H Q:=by
 obtain ⟨sx,ρ,H0,s,e,h⟩:=h;unfold z5 at h;rw [Rk.bind] at h;refine TTd.go sx s e h fun b h H1 s1=>?_
 cases b with
 | true=>exact TTd.go (sx.trans s1) (s.trans s1) e h fun b h H' s'=>h H' (s1.trans s')
 | false=>exact h H1 s1
theorem Zo {t u:DE->R Bool} {Q:Bool->Hp->Prop} (h:TTd K EX (bOr t u) U H Q):tOr (TTd K EX t) (TTd K EX u) U H Q:=by
 obtain ⟨sx,ρ,H0,s,e,h⟩:=h;unfold bOr at h;rw [Rk.bind] at h;refine TTd.go sx s e h fun b h H1 s1=>?_
 cases b with
 | true=>exact h H1 s1
 | false=>exact TTd.go (sx.trans s1) (s.trans s1) e h fun b h H' s'=>h H' (s1.trans s')
theorem kB {t:DE->R Bool} {Q:Bool->Hp->Prop} (h:TTd K EX (v0 t) U H Q):Yw (TTd K EX t) U H Q:=by obtain ⟨sx,ρ,H0,s,e,h⟩:=h;unfold v0 at h;rw [Rk.bind] at h;exact TTd.go sx s e h fun b h H1 s1=>h H1 s1
end
noncomputable def y31 (r:V->Hp->(Bool->Hp->Prop)->Prop) (t:TE):TT:=fun U H Q=>t U H fun x H'=>r x H' Q
noncomputable def X4 (K:Frag) (EX:XW) (g:D->DE->R D):V->TE:=fun x U H Q=>Same EX.hb H/\∃d ρ H0,Same H0 H/\RE K H0 ρ U/\RD K H0 d x/\Rk EX.at (g d ρ) fun z=>∀v H',Out K false H0 H z v H'->Q v H'
def M6 (o:D->D->Option D) (fb:DE->R D):D->DE->R D:=fun d ρ=>(fb ρ).bind fun y=>R.of (o d y)
def E8 (o:D->D->Option D) (fb:DE->R D) (g:D->DE->R D):D->DE->R D:=fun d ρ=>(fb ρ).bind fun y=>(R.of (o d y)).bind fun z=>(R.of (asB z)).bind fun b=>if b=true then g y ρ else .ok (.bl false)
def zu9 (o:D->D->Option D) (fb:DE->R D):D->DE->R Bool:=fun d ρ=>(fb ρ).bind fun y=>(R.of (o d y)).bind fun z=>R.of (asB z)
def zua (o:D->D->Option D) (fb:DE->R D) (g:D->DE->R Bool):D->DE->R Bool:=fun d ρ=>(fb ρ).bind fun y=>(R.of (o d y)).bind fun z=>(R.of (asB z)).bind fun b=>if b=true then g y ρ else .ok false
def M1 (fa:DE->R D) (g:D->DE->R D):DE->R D:=fun ρ=>(fa ρ).bind fun x=>g x ρ
def y32 (fa:DE->R D) (g:D->DE->R Bool):DE->R Bool:=fun ρ=>(fa ρ).bind fun x=>g x ρ
theorem Ea (h:asB d=some b):d=.bl b:=by cases d<;>simp [asB] at h;subst h;rfl
theorem RD.bl {K:Frag} {H:Hp} {b:Bool} {v:V} (h:RD K H (.bl b) v):v=.bl b:=by simpa only [RD] using h
section
variable {K:Frag} {EX:XW} {U:St} {H:Hp} {Q:VK} {QB:Bool->Hp->Prop}
theorem Zn (h:TEd K EX false (o4 fa fb) U H Q):Oq (TEd K EX false fa) (TEd K EX false fb) U H Q:=by
 obtain ⟨sx,ρ,H0,s,e,h⟩:=h;unfold o4 at h;rw [Rk.bind] at h;refine TEd.go sx s e h fun d h v H1 H1' s1 e1 r1=>?_
 rw [Rk.bind] at h;obtain ⟨b,hb,h⟩:=h.of;cases Ea hb;cases r1.bl;cases b with
 | true=>exact TEd.go (sx.trans s1) e1.2.1 (e.mono e1.1) h fun d h v H2 H2' s2 e2 r2=>h v H2 (.val (s1.trans s2) (e1.trans s1 e2) r2)
 | false=>exact h _ H1 (.val s1 e1 (by simp only [RD]))
theorem y33 (h:TEd K EX false (eOr fa fb) U H Q):Yj (TEd K EX false fa) (TEd K EX false fb) U H Q:=by
 obtain ⟨sx,ρ,H0,s,e,h⟩:=h;unfold eOr at h;rw [Rk.bind] at h;refine TEd.go sx s e h fun d h v H1 H1' s1 e1 r1=>?_
 rw [Rk.bind] at h;obtain ⟨b,hb,h⟩:=h.of;cases Ea hb;cases r1.bl;cases b with
 | true=>exact h _ H1 (.val s1 e1 (by simp only [RD]))
 | false=>exact TEd.go (sx.trans s1) e1.2.1 (e.mono e1.1) h fun d h v H2 H2' s2 e2 r2=>h v H2 (.val (s1.trans s2) (e1.trans s1 e2) r2)
theorem Zm (ht:Fi K tr r) (h:TTd K EX (c6 tr fa) U H QB):y31 r (TEd K EX false fa) U H QB:=by
 obtain ⟨sx,ρ,H0,s,e,h⟩:=h;unfold c6 at h;rw [Rk.bind] at h;refine TEd.go sx s e h fun d h v H1 H1' s1 e1 r1=>?_
 obtain ⟨b,hb,h⟩:=h.of;exact ht H1' H1 v d b QB e1.2.1 r1 hb (h H1 s1)
theorem kA (ht:Fi K tr r) (h:TEd K EX false (eUn (fun d=>(tr d).map fun b=>.bl (!b)) fa) U H Q) :
  (fun U H Q=>(TEd K EX false fa) U H fun x H1=>r x H1 fun k H2=>Q (.bl (!k)) H2) U H Q:=by
 obtain ⟨sx,ρ,H0,s,e,h⟩:=h
 unfold eUn at h
 rw [Rk.bind] at h
 refine TEd.go sx s e h fun d h v H1 H1' s1 e1 r1=>?_
 obtain ⟨z,hz,h⟩:=h.of
 have hz:(tr d).map (fun b=>D.bl (!b))=some z:=hz
 cases hb:tr d with
 | none=>rw [hb] at hz;cases hz
 | some b=>
  rw [hb] at hz;cases hz
  exact ht H1' H1 v d b _ e1.2.1 r1 hb (h _ H1 (.val s1 e1 (by simp only [RD])))
theorem Zl (ho:OpD K false o r) (h:TTd K EX (c6 asB (eOp o fa fb)) U H QB):Gv (tOp r (TEd K EX false fa) (TEd K EX false fb)) U H QB:=by obtain ⟨sx,ρ,H0,s,e,h⟩:=h;unfold c6 at h;rw [Rk.bind] at h;unfold Gv;refine Ca (EX:=EX) ho ⟨sx,ρ,H0,s,e,h.mono fun d h v H' o=>?_⟩;obtain ⟨b,hb,h⟩:=h.of;obtain ⟨s',H0',e',r'⟩:=o.rd;cases Ea hb;cases r'.bl;exact h H' s'
theorem kz (ho:OpD K false o r) (h:X4 K EX (M6 o fb) x U H Q):Ot r (TEd K EX false fb) x U H Q:=by
 obtain ⟨sx,d,ρ,H0,s,e,rx,h⟩:=h;unfold M6 at h;rw [Rk.bind] at h;refine TEd.go sx s e h fun d2 h v2 H2 H2' s2 e2 r2=>?_
 obtain ⟨z,hz,h⟩:=h.of;exact ho H2' H2 x v2 d d2 z Q e2.2.1 (rx.mono e2.1) r2 hz fun w H3 o=>h w H3 (o.after s2 e2)
theorem ku (ho:OpD K false o r) (h:X4 K EX (E8 o fb g) x U H Q):Os r (TEd K EX false fb) (X4 K EX g) x U H Q:=by
 obtain ⟨sx,d,ρ,H0,s,e,rx,h⟩:=h;unfold E8 at h;rw [Rk.bind] at h;refine TEd.go sx s e h fun d2 h v2 H2 H2' s2 e2 r2=>?_
 rw [Rk.bind] at h;obtain ⟨z,hz,h⟩:=h.of;rw [Rk.bind] at h;obtain ⟨b,hb,h9⟩:=h.of;cases Ea hb;refine ho H2' H2 x v2 d d2 _ _ e2.2.1 (rx.mono e2.1) r2 hz fun w H3 o=>?_
 obtain ⟨s3,H3',e3,r3⟩:=o.rd;cases r3.bl;clear h;have h:=h9;cases b with
 | true=>exact ⟨(sx.trans s2).trans s3,d2,ρ,H3',e3.2.1,e.mono (e2.1.trans e3.1),r2.mono e3.1,h.mono fun z h v H' o=>h v H' (o.after (s2.trans s3) (e2.trans s2 e3))⟩
 | false=>exact h _ H3 (.val (s2.trans s3) (e2.trans s2 e3) (by simp only [RD]))
theorem Zk (h:TEd K EX false (M1 fa g) U H Q):Yk (TEd K EX false fa) (X4 K EX g) U H Q:=by obtain ⟨sx,ρ,H0,s,e,h⟩:=h;unfold M1 at h;rw [Rk.bind] at h;exact TEd.go sx s e h fun d h v H1 H1' s1 e1 r1=>⟨sx.trans s1,d,ρ,H1',e1.2.1,e.mono e1.1,r1,h.mono fun z h v H' o=>h v H' (o.after s1 e1)⟩
end
inductive Sl where
 | em | im (d:D) | ow (d:D)
abbrev DS:=List Sl
noncomputable def Sl.see (b:Bool):Sl->Option D
 | .em=>none
 | .im d=>some d
 | .ow d=>if b=true then some d else none
noncomputable def Sl.frz (b:Bool):Sl->Sl
 | .ow d=>if b=true then .im d else .ow d
 | s=>s
def vis:List Bool->DS->DE
 | _,[]=>[]
 | [],s::r=>s.see false::vis [] r
 | b::m,s::r=>s.see b::vis m r
noncomputable def frz:List Bool->DS->DS
 | _,[]=>[]
 | [],s::r=>s::r
 | b::m,s::r=>s.frz b::frz m r
theorem Jx:∀(m:List Bool) (ρ:DS) (i:Nat),(vis m ρ)[i]?=(ρ[i]?).map (Sl.see (m.getD i false))
 | [],[],i=>by simp [vis]
 | _::_,[],i=>by simp [vis]
 | [],s::r,0=>by simp [vis]
 | b::m,s::r,0=>by simp [vis]
 | [],s::r,i+1=>by simpa [vis] using Jx [] r i
 | b::m,s::r,i+1=>by simpa [vis] using Jx m r i
theorem Lv:∀(m:List Bool) (ρ:DS),(vis m ρ).length=ρ.length
 | [],[]=>rfl
 | _::_,[]=>rfl
 | [],s::r=>by simp [vis,Lv [] r]
 | b::m,s::r=>by simp [vis,Lv m r]
theorem Sl.frz_false (s:Sl):s.frz false=s:=by cases s<;>simp [Sl.frz]
theorem Jw:∀(m:List Bool) (ρ:DS) (i:Nat),(L2.frz m ρ)[i]?=(ρ[i]?).map (Sl.frz (m.getD i false))
 | [],[],i=>by simp [frz]
 | _::_,[],i=>by simp [frz]
 | [],s::r,i=>by
  simp only [frz,List.getD_nil];cases h:(s::r)[i]? with
  | none=>rfl
  | some x=>simp [Sl.frz_false]
 | b::m,s::r,0=>by simp [frz]
 | b::m,s::r,i+1=>by simpa [frz] using Jw m r i
theorem Vv:∀(m:List Bool) (ρ:DS),(L2.frz m ρ).length=ρ.length
 | [],[]=>rfl
 | _::_,[]=>rfl
 | [],s::r=>rfl
 | b::m,s::r=>by simp [frz,Vv m r]
structure RS (K:Frag) (Hc Hb H0:Hp) (ρ:DS) (U:St) (H:Hp):Prop where
 sb:Same Hb H
 ext:Ext Hc Hb H0 H
 len:ρ.length=U.length
 im:∀(i:Nat) d,ρ[i]?=some (.im d)->∃v,U[i]?=some (some v)/\RD K H0 d v
 ow:∀(i:Nat) d,ρ[i]?=some (.ow d)->∃a,U[i]?=some (some (.ref a))/\H0 a=none/\Hb a=none/\OB K H0 H a d
 ap:∀(i j:Nat) d e a,ρ[i]?=some (.ow d)->ρ[j]?=some (.ow e)->U[i]?=some (some (.ref a))->U[j]?=some (some (.ref a))->i=j
theorem RS.grow {K:Frag} {Hc Hb H0 H H':Hp} {ρ:DS} {U:St} (R:RS K Hc Hb H0 ρ U H) (s:Same H H'):RS K Hc Hb H0 ρ U H':=
 ⟨R.sb.trans s,R.ext.grow s,R.len,R.im,fun i d e=>by obtain ⟨a,h1,h2,h3,h4⟩:=R.ow i d e;exact ⟨a,h1,h2,h3,h4.mono (Same.refl _) s⟩,R.ap⟩
def Msk (m:List Bool) (ρ:DS) (U:St) (a:Addr):Prop:=∃i d,m.getD i false=true/\ρ[i]?=some (.ow d)/\U[i]?=some (some (.ref a))
open Classical in
noncomputable def HeOf (m:List Bool) (ρ:DS) (U:St) (H0 H:Hp):Hp:=fun a=>if Msk m ρ U a then H a else H0 a
open Classical in
noncomputable def HdOf (m:List Bool) (ρ:DS) (U:St) (H0:Hp):Hp:=fun a=>if Msk m ρ U a then none else H0 a
section
variable {K:Frag} {Hc Hb H0 H H':Hp} {ρ:DS} {U:St} {m:List Bool}
theorem RS.msk (R:RS K Hc Hb H0 ρ U H) (h:Msk m ρ U a):H0 a=none/\Hb a=none/\∃o,H a=some o/\¬Imm o:=by obtain ⟨i,d,_,h1,h2⟩:=h;obtain ⟨a',q1,q2,q3,q4⟩:=R.ow i d h1;rw [h2] at q1;cases q1;exact ⟨q2,q3,q4.some⟩
theorem Dr (h:Msk m ρ U a):HeOf m ρ U H0 H a=H a:=by unfold HeOf;exact ξ h
theorem V2 (h:¬Msk m ρ U a):HeOf m ρ U H0 H a=H0 a:=by unfold HeOf;exact ψ h
theorem Dq (h:Msk m ρ U a):HdOf m ρ U H0 a=none:=by unfold HdOf;exact ξ h
theorem V1 (h:¬Msk m ρ U a):HdOf m ρ U H0 a=H0 a:=by unfold HdOf;exact ψ h
theorem RS.he0 (R:RS K Hc Hb H0 ρ U H) (m:List Bool):Same H0 (HeOf m ρ U H0 H):=fun b o e=>by
 by_cases h:Msk m ρ U b
 . rw [(R.msk h).1] at e;cases e
 . rw [V2 h];exact e
theorem RS.heH (R:RS K Hc Hb H0 ρ U H) (m:List Bool):Same (HeOf m ρ U H0 H) H:=fun b o e=>by
 by_cases h:Msk m ρ U b
 . rw [Dr h] at e;exact e
 . rw [V2 h] at e;exact R.ext.2.1 b o e
theorem RS.re (R:RS K Hc Hb H0 ρ U H) (m:List Bool):RE K (HeOf m ρ U H0 H) (vis m ρ) U:=by
 refine ⟨by rw [Lv];exact R.len,fun i d e=>?_⟩;rw [Jx] at e;cases q:ρ[i]? with
 | none=>rw [q] at e;cases e
 | some s=>
  rw [q] at e
  simp only [Option.map_some,Option.some.injEq] at e
  cases s with
  | em=>cases e
  | im d'=>
   cases e
   obtain ⟨v,h1,h2⟩:=R.im i d q
   exact ⟨v,h1,h2.mono (R.he0 m)⟩
  | ow d'=>
   simp only [Sl.see] at e
   split at e
   . rename_i hm;cases e;obtain ⟨a,h1,h2,h3,h4⟩:=R.ow i d q;exact ⟨_,h1,h4.rd (R.he0 m) (Dr ⟨i,d,hm,q,h1⟩)⟩
   . cases e
def l7 (keep:Bool) (m:List Bool) (ρ:DS):DS:=if keep=true then ρ else frz m ρ
def keeps (fr:Bool) (d:D):Bool:=if fr=true then d.shal else d.noL
def Apt (K:Frag) (fr:Bool) (Hb H0:Hp) (ρ:DS) (U:St) (H:Hp) (d:D) (v:V):Prop:=
 if fr=true then ∃p,v=.ref p/\H0 p=none/\Hb p=none/\OB K H0 H p d/\∀(i:Nat) e,ρ[i]?=some (.ow e)->U[i]?≠some (some (.ref p)) else RD K H0 d v
theorem Dp (h:(l7 keep m ρ)[i]?=some (.ow d)):ρ[i]?=some (.ow d)/\(keep=false->m.getD i false=false):=by
 unfold l7 at h;cases keep with
 | true=>exact ⟨h,fun z=>nomatch z⟩
 | false=>
  rw [ψ η,Jw] at h
  cases q:ρ[i]? with
  | none=>rw [q] at h;cases h
  | some s=>
   rw [q] at h
   simp only [Option.map_some,Option.some.injEq] at h
   cases s with
   | em=>cases h
   | im d'=>cases h
   | ow d'=>
    simp only [Sl.frz] at h
    split at h
    . cases h
    . rename_i hm;cases h;exact ⟨rfl,fun _=>by simpa using hm⟩
theorem RS.frame (R:RS K Hc Hb H0 ρ U H) (s:Same H H') (e:Ext (HeOf m ρ U H0 H) H H0' H') (keep:Bool) :
  ∃H0n,RS K Hc Hb H0n (l7 keep m ρ) U H'/\TK H0' H0n/\(keep=false->H0n=H0')/\(∀p,H0' p=none->H0n p=none)/\Same H0 H0n:=by
 have hunm:∀(i:Nat) d' a,ρ[i]?=some (.ow d')->U[i]?=some (some (.ref a))->¬Msk m ρ U a->H0' a=none:=fun i d' a h1 h2 h3=>by obtain ⟨a',q1,q2,q3,q4⟩:=R.ow i d' h1;rw [h2] at q1;cases q1;obtain ⟨u,hu,ni⟩:=q4.some;exact e.no s hu ni (by rw [V2 h3];exact q2)
 have nmsk:∀{i:Nat} {d':D} {a:Addr},ρ[i]?=some (.ow d')->U[i]?=some (some (.ref a))->m.getD i false=false->¬Msk m ρ U a:=fun {i d' a} h1 h2 h3 ⟨j,e',q1,q2,q3⟩=>by have:=R.ap i j d' e' a h1 q2 h2 q3;subst this;rw [h3] at q1;cases q1
 cases keep with
 | true=>
  have hth:l7 true m ρ=ρ:=rfl
  have s0:Same H0 (HdOf m ρ U H0'):=fun b u q=>by
   have hb:¬Msk m ρ U b:=fun z=>by rw [(R.msk z).1] at q;cases q
   rw [V1 hb];exact e.1 b u (R.he0 m b u q)
  have tk:TK H0' (HdOf m ρ U H0'):=fun b u hi q=>by
   have hb:¬Msk m ρ U b:=fun z=>by obtain ⟨_,_,w,hw,hn⟩:=R.msk z;have:=e.1 b w (by rw [Dr z];exact hw);rw [q] at this;cases this;exact hn hi
   rw [V1 hb];exact q
  refine ⟨HdOf m ρ U H0',⟨R.sb.trans s,⟨R.ext.1.trans s0,fun b u q=>?_,fun a h1 h2=>?_⟩,R.len,fun i d' q=>?_,fun i d' q=>?_,R.ap⟩,tk,(fun z=>nomatch z),fun p hp=>?_,s0⟩
  . by_cases hb:Msk m ρ U b
    . rw [Dq hb] at q;cases q
    . rw [V1 hb] at q;exact e.2.1 b u q
  . by_cases hb:Msk m ρ U a
    . exact .inl (Dq hb)
    . rw [V1 hb];exact e.nt (R.sb.ne h1) (by rw [V2 hb];exact R.ext.2.2 a h1 h2)
  . obtain ⟨w,h1,h2⟩:=R.im i d' q;exact ⟨w,h1,h2.mono s0⟩
  . obtain ⟨a,h1,h2,h3,h4⟩:=R.ow i d' q;refine ⟨a,h1,?_,h3,h4.mono s0 s⟩;by_cases hb:Msk m ρ U a
    . exact Dq hb
    . rw [V1 hb];exact hunm i d' a q h1 hb
  . by_cases hb:Msk m ρ U p
    . exact Dq hb
    . rw [V1 hb];exact hp
 | false=>
  refine ⟨H0',⟨R.sb.trans s,?_,?_,fun i d' q=>?_,fun i d' q=>?_,fun i j d1 d2 a q1 q2=>?_⟩,fun _ _ _ z=>z,fun _=>rfl,fun _ z=>z,(R.he0 m).trans e.1⟩
  . refine ⟨R.ext.1.trans ((R.he0 m).trans e.1),e.2.1,fun a h1 h2=>e.nt (R.sb.ne h1) ?_⟩;have hb:¬Msk m ρ U a:=fun z=>h1 (R.msk z).2.1
    rw [V2 hb];exact R.ext.2.2 a h1 h2
  . show (L2.frz m ρ).length=_;rw [Vv];exact R.len
  . have q':(L2.frz m ρ)[i]?=some (.im d'):=q;rw [Jw] at q';cases hs:ρ[i]? with
    | none=>rw [hs] at q';cases q'
    | some sl=>
     rw [hs] at q'
     simp only [Option.map_some,Option.some.injEq] at q'
     cases sl with
     | em=>cases q'
     | im d2=>
      cases q'
      obtain ⟨w,h1,h2⟩:=R.im i d' hs
      exact ⟨w,h1,h2.mono ((R.he0 m).trans e.1)⟩
     | ow d2=>
      simp only [Sl.frz] at q'
      split at q'
      . rename_i hm;cases q';obtain ⟨a,h1,h2,h3,h4⟩:=R.ow i d' hs;obtain ⟨u,hu,_⟩:=h4.some;refine ⟨_,h1,h4.rd ((R.he0 m).trans e.1) ?_⟩;rw [hu];exact e.1 a u (by rw [Dr ⟨i,d',hm,hs,h1⟩];exact hu)
      . cases q'
  . obtain ⟨q1,q2⟩:=Dp q;obtain ⟨a,h1,h2,h3,h4⟩:=R.ow i d' q1;exact ⟨a,h1,hunm i d' a q1 h1 (nmsk q1 h1 (q2 rfl)),h3,h4.mono ((R.he0 m).trans e.1) s⟩
  . exact R.ap i j d1 d2 a (Dp q1).1 (Dp q2).1
theorem RS.out (R:RS K Hc Hb H0 ρ U H) (o:Out K fr (HeOf m ρ U H0 H) H d v H') :
  ∃H0n,RS K Hc Hb H0n (l7 (keeps fr d) m ρ) U H'/\Apt K fr Hb H0n (l7 (keeps fr d) m ρ) U H' d v:=by
 obtain ⟨s,H0',e,r⟩:=o
 obtain ⟨H0n,R',tk,eq,hn,_⟩:=R.frame s e (keeps fr d)
 refine ⟨H0n,R',?_⟩
 unfold Apt
 cases fr with
 | false=>
  rw [ψ η] at r ⊢
  cases hk:keeps false d with
  | true=>exact r.tk tk (by simpa [keeps] using hk)
  | false=>rw [eq hk];exact r
 | true=>
  rw [ξ rfl] at r ⊢
  obtain ⟨p,rfl,hp,hp0,ob⟩:=r
  refine ⟨p,rfl,hn p hp0,R.sb.none hp,?_,fun i e' q z=>?_⟩
  . cases hk:keeps true d with
    | true=>exact ob.tk (by simpa [keeps] using hk) tk
    | false=>rw [eq hk];exact ob
  . obtain ⟨a,h1,_,_,h4⟩:=R.ow i e' (Dp q).1;rw [z] at h1;cases h1;obtain ⟨u,hu,_⟩:=h4.some;rw [hp] at hu;cases hu
theorem RS.outs (R:RS K Hc Hb H0 ρ U H) (s:Same H H') (e:Ext (HeOf m ρ U H0 H) H H0' H') (r:RDs K H0' ds vs) :
  ∃H0n,RS K Hc Hb H0n (l7 (g9 ds) m ρ) U H'/\RDs K H0n ds vs:=by
 obtain ⟨H0n,R',tk,eq,hn,_⟩:=R.frame s e (g9 ds)
 refine ⟨H0n,R',?_⟩
 cases hk:g9 ds with
 | true=>exact r.tk tk hk
 | false=>rw [eq hk];exact r
noncomputable def J0 (fr:Bool) (i:Nat) (d:D) (ρ:DS):DS:=ρ.set i (if fr=true then .ow d else .im d)
theorem RS.put (R:RS K Hc Hb H0 ρ U H) (a:Apt K fr Hb H0 ρ U H d v) (i:Nat):RS K Hc Hb H0 (J0 fr i d ρ) (U.set i (some v)) H:=by
 unfold J0;have other:∀{j:Nat} {s:Sl},j≠i->(ρ.set i s)[j]?=ρ[j]?:=fun {j s} h=>by rw [List.getElem?_set_ne (Ne.symm h)]
 have otherσ:∀{j:Nat},j≠i->(U.set i (some v))[j]?=U[j]?:=fun {j} h=>by rw [List.getElem?_set_ne (Ne.symm h)]
 have here:∀{s s':Sl},(ρ.set i s)[i]?=some s'->s'=s/\(U.set i (some v))[i]?=some (some v):=fun {s s'} h=>by
  have hi:i<ρ.length:=by have:=(List.getElem?_eq_some_iff.mp h).1;simpa using this
  rw [List.getElem?_set_self hi] at h;cases h;exact ⟨rfl,by rw [List.getElem?_set_self (by rw [<-R.len];exact hi)]⟩
 refine ⟨R.sb,R.ext,by rw [List.length_set,List.length_set];exact R.len,fun j d' q=>?_,fun j d' q=>?_,fun j k d1 d2 b q1 q2 z1 z2=>?_⟩
 . by_cases hj:j=i
   . subst hj;obtain ⟨h1,h2⟩:=here q;refine ⟨v,h2,?_⟩;cases fr with
     | false=>
      rw [ψ η] at h1;cases h1
      unfold Apt at a
      rw [ψ η] at a;exact a
     | true=>rw [ξ rfl] at h1;cases h1
   . rw [other hj] at q;rw [otherσ hj];exact R.im j d' q
 . by_cases hj:j=i
   . subst hj;obtain ⟨h1,h2⟩:=here q;cases fr with
     | false=>rw [ψ η] at h1;cases h1
     | true=>
      rw [ξ rfl] at h1;cases h1
      unfold Apt at a
      rw [ξ rfl] at a
      obtain ⟨p,rfl,a1,a2,a3,_⟩:=a
      exact ⟨p,h2,a1,a2,a3⟩
   . rw [other hj] at q;rw [otherσ hj];exact R.ow j d' q
 . by_cases hj:j=i
   . by_cases hk:k=i
     . rw [hj,hk]
     . subst hj;obtain ⟨h1,h2⟩:=here q1;rw [other hk] at q2;rw [otherσ hk] at z2;rw [h2] at z1;cases fr with
       | false=>rw [ψ η] at h1;cases h1
       | true=>
        unfold Apt at a
        rw [ξ rfl] at a
        obtain ⟨p,rfl,_,_,_,a4⟩:=a
        cases z1
        exact absurd z2 (a4 k d2 q2)
   . by_cases hk:k=i
     . subst hk;obtain ⟨h1,h2⟩:=here q2;rw [other hj] at q1;rw [otherσ hj] at z1;rw [h2] at z2;cases fr with
       | false=>rw [ψ η] at h1;cases h1
       | true=>
        unfold Apt at a
        rw [ξ rfl] at a
        obtain ⟨p,rfl,_,_,_,a4⟩:=a
        cases z2
        exact absurd z1 (a4 j d1 q1)
     . rw [other hj] at q1;rw [other hk] at q2;rw [otherσ hj] at z1;rw [otherσ hk] at z2;exact R.ap j k d1 d2 b q1 q2 z1 z2
end
inductive SR where
 | nx (ρ:DS) | bk (ρ:DS) | ct (ρ:DS) | rt (d:D) | er (x:Ex) | st
def SK (K:Frag) (EX:XW) (fr:Bool) (Hc Hb:Hp) (De:Ends):SR->Prop
 | .nx ρ=>∀U H H0,RS K Hc Hb H0 ρ U H->De.nx U H
 | .bk ρ=>∀U H H0,RS K Hc Hb H0 ρ U H->De.bk U H
 | .ct ρ=>∀U H H0,RS K Hc Hb H0 ρ U H->De.ct U H
 | .rt d=>∀v H,Out K fr Hc Hb d v H->De.rt v H
 | .er x=>EX.at x
 | .st=>False
noncomputable def TSd (K:Frag) (EX:XW) (fr:Bool) (g:DS->SR):TS:=fun De U H=>∃Hc Hb H0 ρ,Same EX.hb Hb/\RS K Hc Hb H0 ρ U H/\SK K EX fr Hc Hb De (g ρ)
noncomputable def R.toS {α:Type} (r:R α) (k:α->SR):SR:=match r with
 | .ok a=>k a
 | .er x=>.er x
 | .st=>.st
noncomputable def sNx:DS->SR:=fun ρ=>.nx ρ
noncomputable def b7 (g1 g2:DS->SR):DS->SR:=fun ρ=>match g1 ρ with
 | .nx ρ'=>g2 ρ'
 | r=>r
noncomputable def see (ρ:DS):DE:=ρ.map (Sl.see true)
def sIf (t:DE->R Bool) (g1 g2:DS->SR):DS->SR:=fun ρ=>(t (see ρ)).toS fun b=>if b=true then g1 ρ else g2 ρ
def b9 (fr:Bool) (i:Nat) (m:List Bool) (f:DE->R D):DS->SR:=fun ρ=>(f (vis m ρ)).toS fun d=>.nx (J0 fr i d (l7 (keeps fr d) m ρ))
def e7 (m:List Bool) (f:DE->R D):DS->SR:=fun ρ=>(f (vis m ρ)).toS fun d=>.rt d
noncomputable def zzb:DS->SR:=fun _=>.rt .non
noncomputable def O9 (i:Nat):DS->SR:=fun ρ=>match ρ[i]? with
 | some (.ow d)=>.rt d
 | _=>.st
def J8 (f:DE->R D):DS->SR:=fun ρ=>(f (see ρ)).toS fun _=>.nx ρ
section
variable {K:Frag} {EX:XW} {fr:Bool} {Hc Hb H0 H H':Hp} {ρ:DS} {U:St} {De:Ends} {m:List Bool}
theorem SK.toS:SK K EX fr Hc Hb De (r.toS k)=Rk EX.at r fun a=>SK K EX fr Hc Hb De (k a):=by cases r<;>rfl
theorem U8:∀(ρ:DS),vis (List.replicate ρ.length true) ρ=see ρ
 | []=>rfl
 | s::r=>by show s.see true::vis (List.replicate r.length true) r=_;rw [U8 r];rfl
theorem RS.extE (R:RS K Hc Hb H0 ρ U H) (m:List Bool):Ext Hc Hb (HeOf m ρ U H0 H) H:=
 ⟨R.ext.1.trans (R.he0 m),R.heH m,fun a h1 h2=>by
  have hb:¬Msk m ρ U a:=fun z=>h1 (R.msk z).2.1
  rw [V2 hb];exact R.ext.2.2 a h1 h2⟩
theorem RS.te (I:RS K Hc Hb H0 ρ U H) (sb:Same EX.hb Hb) (h:Rk EX.at (f (vis m ρ)) k)
  (hk:∀d,k d->∀v H' H0n,RS K Hc Hb H0n (l7 (keeps fr' d) m ρ) U H'->Apt K fr' Hb H0n (l7 (keeps fr' d) m ρ) U H' d v->Q v H'):TEd K EX fr' f U H Q:=
 ⟨sb.trans I.sb,vis m ρ,HeOf m ρ U H0 H,I.heH m,I.re m,h.mono fun d z v H' o=>by obtain ⟨H0n,R',a⟩:=I.out o;exact hk d z v H' H0n R' a⟩
theorem RS.tt (I:RS K Hc Hb H0 ρ U H) (sb:Same EX.hb Hb) (h:Rk EX.at (f (see ρ)) k) (hk:∀b,k b->∀H',RS K Hc Hb H0 ρ U H'->Q b H'):TTd K EX f U H Q:=by refine ⟨sb.trans I.sb,see ρ,HeOf (List.replicate ρ.length true) ρ U H0 H,I.heH _,?_,h.mono fun b z H' s=>hk b z H' (I.grow s)⟩;rw [<-U8];exact I.re _
theorem Yc (h:TSd K EX fr sNx De U H):Pb De U H:=by obtain ⟨Hc,Hb,H0,ρ,sb,R,h⟩:=h;exact h U H H0 R
theorem Oj (h:TSd K EX fr (b7 g1 g2) De U H):Fu (TSd K EX fr g1) (TSd K EX fr g2) De U H:=by
 obtain ⟨Hc,Hb,H0,ρ,sb,R,h⟩:=h;refine ⟨Hc,Hb,H0,ρ,sb,R,?_⟩;unfold b7 at h;cases q:g1 ρ with
 | nx ρ'=>rw [q] at h;exact fun σ' H' H0' R'=>⟨Hc,Hb,H0',ρ',sb,R',h⟩
 | bk ρ'=>rw [q] at h;exact h
 | ct ρ'=>rw [q] at h;exact h
 | rt d=>rw [q] at h;exact h
 | er x=>rw [q] at h;exact h
 | st=>rw [q] at h;exact h
theorem Oi (h:TSd K EX fr (sIf t g1 g2) De U H):Yu (TTd K EX t) (TSd K EX fr g1) (TSd K EX fr g2) De U H:=by
 obtain ⟨Hc,Hb,H0,ρ,sb,R,h⟩:=h;unfold sIf at h;rw [SK.toS] at h;refine R.tt sb h fun b h H' R'=>?_
 cases b with
 | true=>exact ⟨Hc,Hb,H0,ρ,sb,R',h⟩
 | false=>exact ⟨Hc,Hb,H0,ρ,sb,R',h⟩
theorem Y9 (h:TSd K EX fr (b9 fr' i m f) De U H):E5 (TEd K EX fr' f) (x5 i) De U H:=by obtain ⟨Hc,Hb,H0,ρ,sb,R,h⟩:=h;unfold b9 at h;rw [SK.toS] at h;exact R.te sb h fun d h v H' H0n R' a=>h _ H' H0n (R'.put a i)
theorem Zj (h:TSd K EX fr (e7 m f) De U H):Ft (TEd K EX fr f) De U H:=by obtain ⟨Hc,Hb,H0,ρ,sb,R,h⟩:=h;unfold e7 at h;rw [SK.toS] at h;exact ⟨sb.trans R.sb,vis m ρ,HeOf m ρ U H0 H,R.heH m,R.re m,h.mono fun d z v H' o=>z v H' (o.after R.sb (R.extE m))⟩
theorem kr (h:TSd K EX true (O9 i) De U H):Ft (u8 i) De U H:=by
 obtain ⟨Hc,Hb,H0,ρ,sb,R,h⟩:=h;unfold O9 at h;split at h
 . rename_i d q;obtain ⟨a,h1,h2,h3,h4⟩:=R.ow i d q;show u8 i U H De.rt;unfold u8;rw [h1];exact h _ H (.fresh R.sb R.ext h3 h2 h4)
 . exact h.elim
theorem kq (h:TSd K EX fr (J8 f) De U H):E7 (TEd K EX false f) De U H:=by obtain ⟨Hc,Hb,H0,ρ,sb,R,h⟩:=h;unfold J8 at h;rw [SK.toS] at h;refine ⟨sb.trans R.sb,see ρ,HeOf (List.replicate ρ.length true) ρ U H0 H,R.heH _,by rw [<-U8];exact R.re _,h.mono fun d z v H' o=>?_⟩;exact z U H' H0 (R.grow o.1)
theorem RS.mutate (R:RS K Hc Hb H0 ρ U H) (h:ρ[i]?=some (.ow d)) (ha:U[i]?=some (some (.ref a))) (ob:OB K H0 (upd H a o) a d'):RS K Hc Hb H0 (ρ.set i (.ow d')) U (upd H a o):=by
 obtain ⟨a',q1,q2,q3,q4⟩:=R.ow i d h;rw [ha] at q1;cases q1;have hi:i<ρ.length:=(List.getElem?_eq_some_iff.mp h).1;have other:∀{j:Nat} {s:Sl},j≠i->(ρ.set i s)[j]?=ρ[j]?:=fun {j s} h=>by rw [List.getElem?_set_ne (Ne.symm h)]
 have here:(ρ.set i (.ow d'))[i]?=some (.ow d'):=by rw [List.getElem?_set_self hi]
 have sm:∀{H1:Hp},Same H1 H->H1 a=none->Same H1 (upd H a o):=fun s n=>s.upd_at n
 refine ⟨sm R.sb q3,⟨R.ext.1,sm R.ext.2.1 q2,R.ext.2.2⟩,by rw [List.length_set];exact R.len,fun j d2 q=>?_,fun j d2 q=>?_,fun j k d1 d2 b z1 z2=>?_⟩
 . have hj:j≠i:=fun z=>by subst z;rw [here] at q;cases q
   rw [other hj] at q;exact R.im j d2 q
 . by_cases hj:j=i
   . subst hj;rw [here] at q;cases q;exact ⟨a,ha,q2,q3,ob⟩
   . rw [other hj] at q;obtain ⟨b,h1,h2,h3,h4⟩:=R.ow j d2 q;have hb:b≠a:=fun z=>hj (R.ap j i d2 d b q h h1 (by rw [z];exact ha))
     exact ⟨b,h1,h2,h3,h4.at (b8 hb)⟩
 . have back:∀{j:Nat} {d1:D},(ρ.set i (.ow d'))[j]?=some (.ow d1)->∃d0,ρ[j]?=some (.ow d0):=fun {j d1} z=>by
    by_cases hj:j=i
    . subst hj;exact ⟨d,h⟩
    . rw [other hj] at z;exact ⟨_,z⟩
   obtain ⟨e1,z1⟩:=back z1
   obtain ⟨e2,z2⟩:=back z2
   exact R.ap j k e1 e2 b z1 z2
def I0 (K:Frag) (mt:D->List D->Option D) (r:V->List V->Hp->VK->Prop):Prop:=∀(H0 H:Hp) (a:Addr) (d d':D) (ds:List D) (vs:List V) (Q:VK),Same H0 H->H0 a=none->OB K H0 H a d->RDs K H0 ds vs->mt d ds=some d' ->
 (∀v o,OB K H0 (upd H a o) a d'->Q v (upd H a o))->r (.ref a) vs H Q
noncomputable def isT (T:String):D->Bool
 | .lst _=>T=="list"
 | .dk _ _=>T=="dict"
 | .dt _ _=>T=="dict"
 | _=>false
def TyD (K:Frag) (T:String):Prop:=∀(H0 H:Hp) (a:Addr) (d:D),OB K H0 H a d->isT T d=true->tyV K T (.ref a) H
def u9 (T:String) (mt:D->List D->Option D) (i:Nat) (m:List Bool) (fs:DE->R (List D)):DS->SR:=fun ρ=>match ρ[i]? with
 | some (.ow d0)=>if isT T d0=true then (fs (vis m ρ)).toS fun ds=>match (l7 (g9 ds) m ρ)[i]? with
  | some (.ow d)=>(R.of (mt d ds)).toS fun d'=>.nx ((l7 (g9 ds) m ρ).set i (.ow d'))
  | _=>.st
  else .st
 | _=>.st
theorem Oh {T:String} {mt:D->List D->Option D} {r:V->List V->Hp->VK->Prop} {i:Nat} {fs:DE->R (List D)} (hm:I0 K mt r) (hT:TyD K T) (h:TSd K EX fr (u9 T mt i m fs) De U H) :
  E7 (tBM K T r (u8 i) (TAd K EX fs)) De U H:=by
 obtain ⟨Hc,Hb,H0,ρ,sb,R,h⟩:=h
 unfold u9 at h
 split at h
 . rename_i d0 q0;split at h
   . rename_i hty;rw [SK.toS] at h;obtain ⟨a,h1,h2,h3,h4⟩:=R.ow i d0 q0;unfold E7 tBM u8;rw [h1];refine ⟨hT H0 H a d0 h4 hty,sb.trans R.sb,vis m ρ,HeOf m ρ U H0 H,R.heH m,R.re m,h.mono fun ds h vs H' H0' s e rds=>?_⟩;obtain ⟨H0n,R',rd'⟩:=R.outs s e rds;split at h
     . rename_i d q;rw [SK.toS] at h;obtain ⟨d',hd',h⟩:=h.of;obtain ⟨a',z1,z2,z3,z4⟩:=R'.ow i d q;rw [h1] at z1;cases z1;exact hm H0n H' a d d' ds vs _ R'.ext.2.1 z2 z4 rd' hd' fun v o ob=>h U _ H0n (R'.mutate q h1 ob)
     . exact h.elim
   . exact h.elim
 . exact h.elim
def Z3 (T:String) (mt:D->List D->Option D) (i:Nat):DS->SR:=fun ρ=>match ρ[i]? with
 | some (.ow d)=>if isT T d=true then (R.of (mt d [])).toS fun d'=>.nx (ρ.set i (.ow d')) else .st
 | _=>.st
theorem ko {T:String} {mt:D->List D->Option D} {r:V->List V->Hp->VK->Prop} {i:Nat} (hm:I0 K mt r) (hT:TyD K T) (h:TSd K EX fr (Z3 T mt i) De U H) :
  E7 (Fn K T r (u8 i)) De U H:=by
 obtain ⟨Hc,Hb,H0,ρ,sb,R,h⟩:=h
 unfold Z3 at h
 split at h
 . rename_i d q;split at h
   . rename_i hty;rw [SK.toS] at h;obtain ⟨d',hd',h⟩:=h.of;obtain ⟨a,h1,h2,h3,h4⟩:=R.ow i d q;unfold E7 Fn u8;rw [h1];exact ⟨hT H0 H a d h4 hty,hm H0 H a d d' [] [] _ R.ext.2.1 h2 h4 .nil hd' fun v o ob=>h U _ H0 (R.mutate q h1 ob)⟩
   . exact h.elim
 . exact h.elim
def y34 (st:D->D->D->Option D) (i:Nat) (m:List Bool) (fk fv:DE->R D):DS->SR:=fun ρ=>(fv (vis m ρ)).toS fun dv=>match (l7 (keeps false dv) m ρ)[i]? with
 | some (.ow _)=>(fk (vis m (l7 (keeps false dv) m ρ))).toS fun dk=>(match (l7 (keeps false dk) m (l7 (keeps false dv) m ρ))[i]? with
  | some (.ow d)=>(R.of (st d dk dv)).toS fun d'=>.nx ((l7 (keeps false dk) m (l7 (keeps false dv) m ρ)).set i (.ow d'))
  | _=>.st)
 | _=>.st
theorem Apt.rd (a:Apt K false Hb H0 ρ U H d v):RD K H0 d v:=by unfold Apt at a;rw [ψ η] at a;exact a
end
section
variable {K:Frag} {EX:XW} {fr:Bool} {Hc Hb H0 H H':Hp} {ρ:DS} {U:St} {De:Ends} {m:List Bool}
inductive Tg where
 | n (i:Nat) | t (is:List Nat)
def Dg:List Nat->List D->DS->DS
 | i::is,d::ds,ρ=>Dg is ds (J0 false i d ρ)
 | _,_,ρ=>ρ
noncomputable def items:D->Option (List D)
 | .tup ds=>some ds
 | .lst ds=>some ds
 | _=>none
def J2:Tg->D->DS->Option DS
 | .n i,d,ρ=>some (J0 false i d ρ)
 | .t is,d,ρ=>(items d).bind fun ds=>if ds.length=is.length then some (Dg is ds ρ) else none
def TGd (K:Frag) (tg:Tg):TG:=fun v U H Q=>∃Hc Hb H0 ρ d ρ',RS K Hc Hb H0 ρ U H/\RD K H0 d v/\J2 tg d ρ=some ρ'/\∀σ',RS K Hc Hb H0 ρ' σ' H->Q σ' H
theorem RS.putI (I:RS K Hc Hb H0 ρ U H) (r:RD K H0 d v) (i:Nat):RS K Hc Hb H0 (J0 false i d ρ) (U.set i (some v)) H:=
 I.put (fr:=false) (by unfold Apt;rw [ψ η];exact r) i
theorem Yb (h:TGd K (.n i) v U H Q):x5 i v U H Q:=by obtain ⟨Hc,Hb,H0,ρ,d,ρ',I,r,e,q⟩:=h;simp only [J2,Option.some.injEq] at e;subst e;exact q _ (I.putI r i)
def Dc:List Nat->TGs
 | []=>Oo
 | i::is=>Qq (x5 i) (Dc is)
theorem Li:∀(is:List Nat) {ds:List D} {xs:List V} {ρ:DS} {U:St} {Q:St->Hp->Prop},RS K Hc Hb H0 ρ U H->RDs K H0 ds xs->ds.length=is.length->(∀σ',RS K Hc Hb H0 (Dg is ds ρ) σ' H->Q σ' H)->Dc is xs U H Q
 | [],[],_,ρ,U,Q,I,r,_,q=>by simp only [RDs] at r;subst r;exact q U I
 | [],_::_,_,_,_,_,_,_,hl,_=>by simp at hl
 | _::_,[],_,_,_,_,_,_,hl,_=>by simp at hl
 | i::is,d::ds,_,ρ,U,Q,I,r,hl,q=>by simp only [RDs] at r;obtain ⟨x,xs,rfl,r1,r2⟩:=r;exact Li is (I.putI r1 i) r2 (by simpa using hl) q
theorem y35 (h:TGd K (.t is) v U H Q):Z0 is.length (Dc is) v U H Q:=by
 obtain ⟨Hc,Hb,H0,ρ,d,ρ',I,r,e,q⟩:=h;simp only [J2] at e;cases d<;>simp only [items,Option.bind_none,Option.bind_some] at e<;>first | cases e | skip
 . rename_i ds;split at e
   . rename_i hl;cases e;simp only [RD] at r;obtain ⟨a,xs,rfl,ha,rs⟩:=r;unfold Z0;simp only [I.ext.2.1 a _ ha];exact ⟨by rw [<-rs.length];exact hl,Li is I rs hl q⟩
   . cases e
 . rename_i ds;split at e
   . rename_i hl;cases e;simp only [RD] at r;obtain ⟨a,xs,rfl,ha,rs⟩:=r;unfold Z0;simp only [I.ext.2.1 a _ ha];exact ⟨by rw [<-rs.length];exact hl,Li is I rs hl q⟩
   . cases e
def Cf (tg:Tg) (m:List Bool) (f:DE->R D):DS->SR:=fun ρ=>(f (vis m ρ)).toS fun d=>match J2 tg d (l7 (keeps false d) m ρ) with
 | some ρ'=>.nx ρ'
 | none=>.st
theorem Zi (h:TSd K EX fr (Cf tg m f) De U H):E5 (TEd K EX false f) (TGd K tg) De U H:=by
 obtain ⟨Hc,Hb,H0,ρ,sb,I,h⟩:=h;unfold Cf at h;rw [SK.toS] at h;refine I.te sb h fun d h v H' H0n I' a=>?_
 split at h
 . rename_i ρ' q;exact ⟨Hc,Hb,H0n,_,d,ρ',I',a.rd,q,fun σ' I2=>h σ' H' H0n I2⟩
 . exact h.elim
noncomputable def Hno:Hp:=fun _=>none
def O3 (K:Frag) (J:It) (H0:Hp) (ds:List D):Prop:=
 (∀(i:Nat) d,ds[i]?=some d->∀H H1,Same H0 H1->Same H1 H->J.go i H/\∀x H',J.yld i H x H'->Same H H'/\∃H1',Ext H1 H H1' H'/\RD K H1' d x)/\∀H,Same H0 H->J.stop ds.length H
def TId (K:Frag) (EX:XW) (kp:Bool) (f:DE->R (List D)):TI:=fun U H Q=>Same EX.hb H/\∃ρ H0,Same H0 H/\RE K H0 ρ U/\Rk EX.at (f ρ) fun ds=>∀J H' H0',Same H H'->Ext H0 H H0' H'->O3 K J (if kp=true then Hno else H0') ds->Q J H'
def j8 (tg:Tg) (g:DS->SR):List D->DS->SR
 | [],ρ=>.nx ρ
 | d::ds,ρ=>match J2 tg d ρ with
  | none=>.st
  | some ρ1=>match g ρ1 with
   | .nx ρ2=>j8 tg g ds ρ2
   | .ct ρ2=>j8 tg g ds ρ2
   | .bk ρ2=>.nx ρ2
   | .rt d=>.rt d
   | .er x=>.er x
   | .st=>.st
def B7 (kp:Bool) (m:List Bool) (f:DE->R (List D)) (tg:Tg) (g:DS->SR):DS->SR:=fun ρ=>(f (vis m ρ)).toS fun ds=>j8 tg g ds (l7 kp m ρ)
theorem Ext.base (a:Ext Hc Hb Hc' H) (b:Ext Hc' Hb H0 H'):Ext Hc Hb H0 H':=⟨a.1.trans b.1,b.2.1,fun c h1 h2=>b.nt h1 (a.2.2 c h1 h2)⟩
theorem RS.base (a:Ext Hc Hb Hc' H1) (I:RS K Hc' Hb H0 ρ U H):RS K Hc Hb H0 ρ U H:=⟨I.sb,a.base I.ext,I.len,I.im,I.ow,I.ap⟩
theorem RS.self (I:RS K Hc Hb H0 ρ U H):RS K H0 Hb H0 ρ U H:=⟨I.sb,⟨Same.refl _,I.ext.2.1,fun _ _ z=>.inl z⟩,I.len,I.im,I.ow,I.ap⟩
theorem Out.base (a:Ext Hc Hb Hc' H) (o:Out K fr Hc' Hb d v H'):Out K fr Hc Hb d v H':=by obtain ⟨s,H0',e,r⟩:=o;exact ⟨s,H0',a.base e,r⟩
theorem RS.sees (I:RS K Hc Hb H0 ρ U H) (s:Same H H') (e:Ext H0 H H1' H'):RS K Hc Hb H1' ρ U H':=
 ⟨I.sb.trans s,⟨I.ext.1.trans e.1,e.2.1,fun a h1 h2=>e.nt (I.sb.ne h1) (I.ext.2.2 a h1 h2)⟩,I.len,fun i d q=>by
  obtain ⟨v,h1,h2⟩:=I.im i d q;exact ⟨v,h1,h2.mono e.1⟩,fun i d q=>by
  obtain ⟨a,h1,h2,h3,h4⟩:=I.ow i d q;obtain ⟨u,hu,ni⟩:=h4.some;exact ⟨a,h1,e.no s hu ni h2,h3,h4.mono e.1 s⟩,I.ap⟩
theorem y36 (sb:Same EX.hb Hb) (I1:RS K Hc Hb Hn ρ U H1) (it':O3 K J Hn ds) (h:SK K EX fr Hc Hb De (j8 tg g ds ρ)):Yi J (TGd K tg) (TSd K EX fr g) De U H1:=by
 have ex1:Ext Hc Hb Hn H1:=I1.ext;refine ⟨fun i mm U H=>mm=ds.length - i/\i<=ds.length/\∃ρ H0,RS K Hn Hb H0 ρ U H/\SK K EX fr Hc Hb De (j8 tg g (ds.drop i) ρ),⟨ds.length,by simp,Nat.zero_le _,_,Hn,I1.self,h⟩,?_⟩;rintro i mm U H ⟨rfl,hi,ρ,H0,I2,h⟩;have sn:Same Hn H0:=I2.ext.1;by_cases hlt:i<ds.length
 . have hd:ds[i]?=some ds[i]:=by simp [hlt]
   obtain ⟨hgo,hy⟩:=it'.1 i _ hd H H0 sn I2.ext.2.1;have hdr:ds.drop i=ds[i]::ds.drop (i+1):=List.drop_eq_getElem_cons hlt;rw [hdr] at h;refine .inr ⟨hgo,fun σ' H'=>∃ρ' H0',RS K Hn Hb H0' ρ' σ' H'/\SK K EX fr Hc Hb De (j8 tg g (ds.drop (i+1)) ρ'),fun σ' H' ⟨ρ',H0',q⟩=>⟨ds.length - (i+1),by omega,rfl,hlt,ρ',H0',q⟩,fun x H' y=>?_⟩;obtain ⟨s3,H3,e3,r3⟩:=hy x H' y;have I3:=I2.sees s3 e3;unfold j8 at h;split at h
   . exact h.elim
   . rename_i ρ1 q1;refine ⟨Hn,Hb,H3,ρ,ds[i],ρ1,I3,r3,q1,fun σ' I4=>⟨Hn,Hb,H3,ρ1,sb,I4,?_⟩⟩;cases qg:g ρ1 with
     | nx ρ2=>rw [qg] at h;exact fun σ5 H5 H05 I5=>⟨ρ2,H05,I5,h⟩
     | ct ρ2=>rw [qg] at h;exact fun σ5 H5 H05 I5=>⟨ρ2,H05,I5,h⟩
     | bk ρ2=>rw [qg] at h;exact fun σ5 H5 H05 I5=>h σ5 H5 H05 (I5.base ex1)
     | rt d=>rw [qg] at h;exact fun v H5 o=>h v H5 (o.base ex1)
     | er x=>rw [qg] at h;exact h
     | st=>rw [qg] at h;exact h
 . have e:i=ds.length:=by omega
   subst e;rw [List.drop_length] at h;refine .inl ⟨it'.2 H (sn.trans I2.ext.2.1),?_⟩;exact h U H H0 (I2.base ex1)
theorem Og (h:TSd K EX fr (B7 kp m f tg g) De U H):Op (TId K EX kp f) (TGd K tg) (TSd K EX fr g) De U H:=by
 obtain ⟨Hc,Hb,H0,ρ,sb,I,h⟩:=h;unfold B7 at h;rw [SK.toS] at h;refine ⟨sb.trans I.sb,vis m ρ,HeOf m ρ U H0 H,I.heH m,I.re m,h.mono fun ds h J H1 H1' s1 e1 it=>?_⟩;obtain ⟨Hn,I1,tk,eq,hn,sub⟩:=I.frame s1 e1 kp;have it':O3 K J Hn ds:=by
  cases kp with
  | true=>
   rw [ξ rfl] at it
   exact ⟨fun i d q H H1 a b=>it.1 i d q H H1 (fun _ _ z=>nomatch z) b,fun H a=>it.2 H fun _ _ z=>nomatch z⟩
  | false=>rw [ψ η,<-eq rfl] at it;exact it
 exact y36 sb I1 it' h
def G2 (t:DE->R Bool) (g:DS->SR):Nat->DS->SR
 | 0,_=>.st
 | n+1,ρ=>(t (see ρ)).toS fun b=>if b=true then (match g ρ with
  | .nx ρ2=>G2 t g n ρ2
  | .ct ρ2=>G2 t g n ρ2
  | .bk ρ2=>.nx ρ2
  | .rt d=>.rt d
  | .er x=>.er x
  | .st=>.st) else .nx ρ
def Db (n:Nat) (t:DE->R Bool) (g:DS->SR):DS->SR:=G2 t g n
theorem vy (h:TSd K EX fr (Db n t g) De U H):Qu (TTd K EX t) (TSd K EX fr g) De U H:=by
 obtain ⟨Hc,Hb,H0,ρ,sb,I,h⟩:=h;refine ⟨fun mm U H=>∃ρ H0,RS K Hc Hb H0 ρ U H/\SK K EX fr Hc Hb De (G2 t g mm ρ),⟨n,ρ,H0,I,h⟩,?_⟩;rintro mm U H ⟨ρ,H0,I,h⟩;cases mm with
 | zero=>exact h.elim
 | succ mm=>
  unfold G2 at h
  rw [SK.toS] at h
  refine I.tt sb h fun b h H' I'=>?_
  cases b with
  | false=>exact h U H' H0 I'
  | true=>
   rw [ξ rfl] at h ⊢
   refine ⟨fun σ' H'=>∃ρ' H0',RS K Hc Hb H0' ρ' σ' H'/\SK K EX fr Hc Hb De (G2 t g mm ρ'),fun σ' H' q=>⟨mm,Nat.lt_succ_self _,q⟩,Hc,Hb,H0,ρ,sb,I',?_⟩
   cases qg:g ρ with
   | nx ρ2=>rw [qg] at h;exact fun σ5 H5 H05 I5=>⟨ρ2,H05,I5,h⟩
   | ct ρ2=>rw [qg] at h;exact fun σ5 H5 H05 I5=>⟨ρ2,H05,I5,h⟩
   | bk ρ2=>rw [qg] at h;exact fun σ5 H5 H05 I5=>h σ5 H5 H05 I5
   | rt d=>rw [qg] at h;exact fun v H5 o=>h v H5 o
   | er x=>rw [qg] at h;exact h
   | st=>rw [qg] at h;exact h
noncomputable def R.noE {α:Type} (r:R α):R α:=match r with
 | .er _=>.st
 | r=>r
theorem Rk.noE {α:Type} {EX EX':Ex->Prop} {r:R α} {k:α->Prop} (h:Rk EX r.noE k):Rk EX' r k:=by
 cases r with
 | ok a=>exact h
 | er x=>exact h.elim
 | st=>exact h
def BD (K:Frag) (bn:D->Option (List D)) (B:V->Hp->(List V->Hp->Prop)->Prop):Prop:=∀(H0 H:Hp) (x:V) (d:D) (ds:List D) (Q:List V->Hp->Prop),Same H0 H->RD K H0 d x->bn d=some ds->(∀vs,RDs K H0 ds vs->Q vs H)->B x H Q
noncomputable def b1:D->Option (List D):=fun d=>some [d]
noncomputable def bT (n:Nat):D->Option (List D)
 | .tup ds=>if ds.length=n then some ds else none
 | _=>none
theorem Fg:BD K b1 cB1:=fun H0 H x d ds Q s r e q=>by simp only [b1,Option.some.injEq] at e;subst e;exact q [x] (.one r)
theorem y37:BD K (bT n) (cBT n):=fun H0 H x d ds Q s r e q=>by
 cases d<;>simp only [bT] at e<;>first | cases e | skip
 rename_i es;split at e
 . rename_i hl;cases e;simp only [RD] at r;obtain ⟨a,xs,rfl,ha,rs⟩:=r;unfold cBT;simp only [s a _ ha];exact ⟨by rw [<-rs.length];exact hl,q xs rs⟩
 . cases e
noncomputable def sel (ix:List Nat) (ρ:DE):DE:=ix.map fun j=>(ρ[j]?).getD none
def C0 (bn:D->Option (List D)) (t:DE->R Bool) (f:DE->R D) (cs:DE):List D->R (List D)
 | []=>.ok []
 | d::ds=>(R.of (bn d)).bind fun bs=>(t (bs.map some++cs)).noE.bind fun b=>if b=true then (f (bs.map some++cs)).noE.bind fun y=>(C0 bn t f cs ds).bind fun ys=>.ok (y::ys) else C0 bn t f cs ds
def z8 (fi:DE->R (List D)) (bn:D->Option (List D)) (ix:List Nat) (t:DE->R Bool) (f:DE->R D):DE->R D:=fun ρ=>(fi ρ).bind fun ds=>if ds.length<=100000 then (C0 bn t f (sel ix ρ) ds).bind fun ys=>.ok (.lst ys) else .st
theorem RE.sel {ρ:DE} {vs:List V} {ds:List D} (h:RE K H0 ρ U) (r:RDs K H0 ds vs) (ix:List Nat):RE K H0 (ds.map some++sel ix ρ) (vs.map some++C4 ix U):=by
 have hl:=r.length;refine ⟨by simp [L2.sel,C4,hl],fun i d e=>?_⟩;by_cases hi:i<ds.length
 . rw [List.getElem?_append_left (by simpa using hi),List.getElem?_map] at e;rw [List.getElem?_append_left (by simpa [<-hl] using hi),List.getElem?_map];cases q:ds[i]? with
   | none=>rw [q] at e;cases e
   | some d'=>
    rw [q] at e;cases e
    obtain ⟨x,h1,h2⟩:=r.get' q
    exact ⟨x,by rw [h1];rfl,h2⟩
 . rw [List.getElem?_append_right (by simpa using hi)] at e;rw [List.getElem?_append_right (by simpa [<-hl] using hi)];simp only [List.length_map] at e ⊢;rw [<-hl];unfold L2.sel at e;unfold C4;rw [List.getElem?_map] at e ⊢;cases q:ix[i - ds.length]? with
   | none=>rw [q] at e;cases e
   | some j=>
    rw [q] at e
    simp only [Option.map_some,Option.some.injEq] at e ⊢
    cases qj:ρ[j]? with
    | none=>rw [qj] at e;cases e
    | some o=>
     rw [qj] at e
     simp only [Option.getD_some] at e
     subst e
     obtain ⟨v,h1,h2⟩:=h.2 j d qj
     exact ⟨v,by rw [h1];rfl,h2⟩
theorem Eg (h:n<100000):n<sizeLine:=Nat.lt_of_lt_of_le h (by decide)
theorem vx (hW:Same W.hb EX.hb) (hB:BD K bn B) (htt:∀U H Q,TTd K F0 t U H Q->tt U H Q)
  (h:TEd K EX true (z8 fi bn ix t f) U H Q):J7 (TId K EX kp fi) B ix tt (TEd K W false f) U H Q:=by
 obtain ⟨sx,ρ,H0,s,e,h⟩:=h
 unfold z8 at h
 rw [Rk.bind] at h
 refine ⟨sx,ρ,H0,s,e,h.mono fun ds h J H1 H1' s1 e1 it D hD=>?_⟩
 split at h
 . rename_i hsz;rw [Rk.bind] at h;have it':O3 K J H1' ds:=by
    cases kp with
    | true=>rw [ξ rfl] at it;exact ⟨fun i d q H H1 a b=>it.1 i d q H H1 (fun _ _ z=>nomatch z) b,fun H a=>it.2 H fun _ _ z=>nomatch z⟩
    | false=>rw [ψ η] at it;exact it
   have e':=e.mono e1.1;have hDn:H1' D=none:=e1.2.1.none hD;refine ⟨fun i mm ys H2=>mm=ds.length - i/\i<=ds.length/\ys.length<=i/\∃acc H2',Same H1 H2/\H2 D=some (.lst ys)/\Ext H1' H1 H2' H2/\H2' D=none/\RDs K H2' acc ys /\
    Rk EX.at (C0 bn t f (L2.sel ix ρ) (ds.drop i)) fun rest=>∀v H',Out K true H0 H (.lst (acc++rest)) v H'->Q v H',⟨ds.length,by simp,Nat.zero_le _,ζ _,[],H1',Same.upd_new hD,i8,(Ext.refl e1.2.1).grow (Same.upd_new hD),hDn,.nil,h⟩,?_⟩
   rintro i mm ys H2 ⟨rfl,hi,hys,acc,H2',s2,hd2,e2,hdn2,r2,h⟩;refine ⟨hd2,?_⟩;by_cases hlt:i<ds.length
   . have hd:ds[i]?=some ds[i]:=by simp [hlt]
     obtain ⟨hgo,hy⟩:=it'.1 i _ hd H2 H2' e2.1 e2.2.1;have hdr:ds.drop i=ds[i]::ds.drop (i+1):=List.drop_eq_getElem_cons hlt;rw [hdr] at h;unfold C0 at h;rw [Rk.bind] at h;obtain ⟨bs,hbs,h⟩:=h.of;rw [Rk.bind] at h;refine .inr ⟨hgo,fun x H3 y=>?_⟩;obtain ⟨s3,H3',e3,r3⟩:=hy x H3 y;refine hB H3' H3 x _ bs _ e3.2.1 r3 hbs fun vs rvs=>?_
     have en:=(e'.mono (e2.1.trans e3.1)).sel rvs ix;have e23:=e2.trans s2 e3;refine htt _ _ _ ⟨F0.same _,_,H3',e3.2.1,en,(Rk.noE h).mono fun b h H4 s4=>?_⟩;have s14:=s2.trans (s3.trans s4);have hd4:H4 D=some (.lst ys):=s4 _ _ (s3 _ _ hd2);have hdn3:H3' D=none:=e3.no s3 hd2 (fun z=>z) hdn2;have e14:Ext H1' H1 H3' H4:=e23.grow s4;cases b with
     | false=>
      rw [ψ η] at h
      dsimp only
      rw [ψ η]
      exact ⟨ds.length - (i+1),by lia,rfl,hlt,by lia,acc,H3',s14,hd4,e14,hdn3,r2.mono e3.1,h⟩
     | true=>
      rw [ξ rfl] at h
      dsimp only
      rw [ξ rfl]
      rw [Rk.bind] at h
      refine ⟨hW.trans (sx.trans (s1.trans s14)),_,H3',e14.2.1,en,(Rk.noE h).mono fun y h w H5 o5=>?_⟩
      obtain ⟨s5,H5',e5,r5⟩:=o5.rd
      have hd5:H5 D=some (.lst ys):=s5 _ _ hd4
      have hdn5:H5' D=none:=e5.no s5 hd4 (fun z=>z) hdn3
      have e15:=e14.trans s14 e5
      rw [Rk.bind] at h
      refine ⟨hd5,Eg (by lia),ds.length - (i+1),by lia,rfl,hlt,by rw [θ];show ys.length+1<=i+1;lia,acc++[y],H5',(s14.trans s5).upd_at hD,i8,⟨e15.1,e15.2.1.upd_at hdn5,e15.2.2⟩,hdn5,((r2.mono (e3.1.trans e5.1))).append (.one r5),?_⟩
      exact h.mono fun rest h v H' o=>h v H' (by simpa using o)
   . have ei:i=ds.length:=by lia
     subst ei;rw [List.drop_length] at h;refine .inl ⟨it'.2 H2 (e2.1.trans e2.2.1),h _ H2 ?_⟩;rw [List.append_nil];refine Out.after s1 e1 (.fresh s2 e2 hD hdn2 ?_);simp only [OB];exact ⟨ys,hd2,r2⟩
 . exact h.elim
theorem Hy (hB:BD K bn B) (htt:∀U H Q,TTd K F0 t U H Q->tt U H Q)
 (h:TEd K EX true (z8 fi bn ix t f) U H Q):J7 (TId K EX kp fi) B ix tt (TEd K F0 false f) U H Q:=vx (F0.same _) hB htt h
noncomputable def mOf (fr:Bool) (n k:Nat) (g:DS->SR):List D->R D:=fun ds=>if ds.length=n then (match g (ds.map .im++List.replicate k .em) with
 | .rt d=>.ok d
 | .nx _=>if fr=true then .st else .ok .non
 | .er x=>.er x
 | _=>.st) else .st
def XFs (K:Frag) (x:Ex) (od:Option Addr) (H:Hp):Prop:=x.fs=[]\/∃(dx:Addr) (vs:List V) (ob:Obj),od=some dx/\H dx=some (.frz ob (.xd ((B5 x.cls).zip vs)))/\(g9 x.fs=true/\pls x.fs=true)/\RDs K H x.fs vs
def xNm (K:Frag) (mg:Str->Option Value) (E:XK) (x:Ex) (H:Hp):Prop:=∃C,mg (x.cls:Str)=some (.ref C)/\∀od,XFs K x od H->E (.ref C) od H
noncomputable def spD (K:Frag) (mg:Str->Option Value) (fr:Bool) (m:List D->R D) (n:Nat):Sp:=fun vs H Q E=>∃ds H0,Same H0 H/\RDs K H0 ds vs/\ds.length=n/\Rk (XW.at ⟨H,xNm K mg E⟩) (m ds) fun d=>∀v H',Out K fr H0 H d v H'->Q v H'
noncomputable def Ab (sp:Sp) (E:XK) (t:TA):TE:=fun U H Q=>t U H fun vs H1=>sp vs H1 Q E
theorem Qn {mg:Str->Option Value} {E:XK} {m:List D->R D} {n:Nat} {fs:DE->R (List D)} {Q:VK} (hl:∀ds,ds.length≠n->m ds=.st) (hE:∀x H,EX.p x H->xNm K mg E x H) (h:TEd K EX fr (e8 m fs) U H Q):Ab (spD K mg fr m n) E (TAd K EX fs) U H Q:=by
 obtain ⟨sx,ρ,H0,s,e,h⟩:=h;unfold e8 at h;rw [Rk.bind] at h;refine TAd.go sx s e h fun ds h vs H1 H1' s1 e1 r1=>?_
 refine ⟨ds,H1',e1.2.1,r1,?_,?_⟩
 . apply Classical.byContradiction;intro hn;rw [hl ds hn] at h;exact h
 . cases q:m ds with
   | ok d=>rw [q] at h;exact fun v H' o=>h v H' (o.after s1 e1)
   | er x=>rw [q] at h;exact fun H' s'=>hE x H' (h H' ((sx.trans s1).trans s'))
   | st=>rw [q] at h;exact h
theorem Do (ds:List D) (h:ds.length≠n):mOf fr n k g ds=.st:=by unfold mOf;rw [ψ h]
theorem xt (s:Same H0 H) (r:RDs K H0 ds vs) (k:Nat):RS K H0 H H0 (ds.map .im++List.replicate k .em) (vs.map some++List.replicate k none) H:=by
 have hl:=r.length;have noow:∀(i:Nat) d,(ds.map Sl.im++List.replicate k Sl.em)[i]?≠some (.ow d):=fun i d q=>by
  rcases List.mem_append.mp (List.mem_of_getElem? q) with z | z
  . obtain ⟨_,_,z⟩:=List.mem_map.mp z;cases z
  . have:=(List.mem_replicate.mp z).2;cases this
 refine ⟨Same.refl _,.refl s,by simp [hl],fun i d q=>?_,fun i d q=>absurd q (noow i d),fun i j d e a q=>absurd q (noow i d)⟩;by_cases hi:i<ds.length
 . rw [List.getElem?_append_left (by simpa using hi),List.getElem?_map] at q;rw [List.getElem?_append_left (by simpa [<-hl] using hi),List.getElem?_map];cases qd:ds[i]? with
   | none=>rw [qd] at q;cases q
   | some d'=>
    rw [qd] at q
    simp only [Option.map_some,Option.some.injEq,Sl.im.injEq] at q
    subst q
    obtain ⟨x,h1,h2⟩:=r.get' qd
    exact ⟨x,by rw [h1];rfl,h2⟩
 . rw [List.getElem?_append_right (by simpa using hi)] at q;have:=(List.mem_replicate.mp (List.mem_of_getElem? q)).2;cases this
theorem km (h:spD K mg fr (mOf fr n k g) n vs H Q E) :
  TSd K ⟨H,xNm K mg E⟩ fr g { nx:=fun _ H'=>Q .non H',rt:=Q } (vs.map some++List.replicate k none) H:=by
 obtain ⟨ds,H0,s,r,hn,h⟩:=h
 refine ⟨H0,H,H0,_,Same.refl _,xt s r k,?_⟩
 unfold mOf at h
 rw [ξ hn] at h
 cases q:g (ds.map .im++List.replicate k .em) with
 | nx ρ=>
  rw [q] at h
  cases fr with
  | true=>exact h.elim
  | false=>exact fun U H' H0' I=>h _ H' (.val I.sb I.ext (by simp only [RD]))
 | rt d=>rw [q] at h;exact h
 | er x=>rw [q] at h;exact h
 | bk ρ=>rw [q] at h;exact h.elim
 | ct ρ=>rw [q] at h;exact h.elim
 | st=>rw [q] at h;exact h.elim
end
structure Flt {α:Type} (t:Sem α):Prop where
 go:∀{M:Model} {Γ:PySem.Ctx} {Q Q':α->Pos->Shared->Prop} {E E':Value->Pos->Shared->Prop} {p:Pos} {s:Shared},
 t.wp M Γ Q E p s->t.wp M Γ Q' E' p s->t.wp M Γ (fun a p s=>Q a p s/\Q' a p s) (fun a p s=>E a p s/\E' a p s) p s
theorem Flt.bind (h:Flt t) (k:∀a,Flt (f a)):Flt (t >>= f):=by refine ⟨fun x y=>?_⟩;rw [Sem.wp_bind'] at x y ⊢;exact Sem.wp_mono _ _ _ (fun a _ _ z=>(k a).go z.1 z.2) (fun _ _ _ z=>z) _ _ (h.go x y)
theorem Flt.pure (a:α):Flt (Pure.pure a:Sem α):=⟨fun x y=>⟨x,y⟩⟩
theorem Flt.uns (w:String):Flt (unsupported w:Sem α):=⟨fun x _=>x.elim⟩
theorem Flt.stack:Flt PySem.stack:=⟨fun x y=>⟨x,y⟩⟩
theorem Flt.alloc (o:Obj):Flt (PySem.alloc o):=⟨fun x y=>⟨x,y⟩⟩
theorem Flt.update (a:Addr) (f:Obj->Obj):Flt (PySem.update a f):=⟨fun x y=>⟨x.1,x.2,y.2⟩⟩
theorem Flt.load (a:Addr):Flt (PySem.load a):=⟨fun ⟨o,e,x⟩ ⟨o',e',y⟩=>by rw [e] at e';cases e';exact ⟨o,e,x,y⟩⟩
theorem Flt.cells (v:Value):Flt (fieldsOf v):=by cases v<;>first | exact .uns _ | exact .bind (.load _) fun o=>by split<;>first | exact .pure _ | exact .uns _
theorem Flt.field (v:Value) (i:Nat):Flt (PySem.field v i):=.bind (.cells v) fun vs=>by split<;>first | exact .pure _ | exact .uns _
theorem Flt.put (v:Value) (i:Nat) (x:Value):Flt (setField v i x):=by cases v<;>first | exact .uns _ | exact .bind (.load _) fun o=>by split<;>first | exact .uns _ | (split<;>first | exact .update _ _ | exact .uns _)
theorem Flt.flight (e:Value) (f:Option Addr):Flt (setFlight e f):=.bind (.field e 1) fun tb=>by split<;>first | exact .put _ _ _ | exact .pure _
theorem Flt.ready:∀l:List Env,Flt (readyFrames l)
 | []=>.pure _
 | env::outer=>by
  unfold readyFrames;split<;>first | exact .uns _ | skip
  refine .bind (.load _) fun o=>?_
  split<;>first | exact .pure _ | skip
  refine .bind ?_ fun b=>.bind ?_ fun v=>.bind (.update _ _) fun _=>Flt.ready outer
  . unfold behindIsImport;split<;>first | exact .pure _ | skip
    split<;>first | exact .pure _ | exact .bind (.field _ _) fun _=>.pure _
  . unfold keptBack;split<;>first | exact .pure _ | skip
    split<;>first | exact .pure _ | exact .bind (.bind .stack fun _=>.pure _) fun _=>.pure _
theorem Flt.frame (env:Env):Flt (frameOf env):=.bind (.bind .stack fun _=>.pure _) fun es=>.bind (by
 unfold frameObject;split
 . exact .pure _
 . exact .bind (.ready _) fun _=>.pure _) fun f=>by split<;>first | exact .pure _ | exact .uns _
theorem Flt.fields (vs:List Value):Flt (newFields "traceback" vs):=by
 have h:Flt (newObjAsIs (.type "traceback") (.fields vs.toArray)):=.bind (.alloc _) fun a=>.pure _
 unfold newFields newObj;dsimp only;split
 . exact .bind (.uns _) fun _=>h
 . exact h
theorem Flt.entry (env:Env) (e head:Value) (L:Addr) (b:Bool):Flt (do let a <-frameOf env;let pl <-entryPlaceOf L b;let b <-EntryCells.newEntry head a .none (rawInt L) .none pl;setField e 1 b):=
 .bind (.frame env) fun _=>.bind (.bind .stack fun acts=>by split<;>exact .pure _) fun _=>.bind (.fields _) fun _=>.put _ _ _
theorem Flt.note (e:Value) (env:Env):Flt (noteFrame e env):=by
 unfold noteFrame;split<;>first | exact .uns _ | skip
 refine .bind (.field _ _) fun head=>?_
 split
 . refine .bind (.field _ _) fun x=>?_
   split
   . exact .pure _
   . exact .bind (.put _ _ _) fun _=>.entry _ _ _ _ _
 . exact .entry _ _ _ _ _
theorem Eh (f:Flt t) (h:wpAny M A t Q E s) (k:wpAny M A t Q' E' s):wpAny M A t (fun a s=>Q a s/\Q' a s) (fun a s=>E a s/\E' a s) s:=
 fun Γ p hΓ=>f.go (h Γ p hΓ) (k Γ p hΓ)
section
variable {M:Model} {A:Around} {E:Value->Shared->Prop} {s:Shared} {base:Heap} {env:Env} {outer:List Env} {L e:Addr} {cls a0 fl:Value} {od:Option Addr}
def n6 (e:Addr) (od:Option Addr) (h:Heap):Prop:=∀o,h.get? e=some o->o.dict=od
theorem xr (o:Obj) (f:Array Value->Array Value):(Obj.mapFields f o).dict=o.dict:=by unfold Obj.mapFields;split<;>rfl
theorem Kn (d:n6 e od h) (hb:∃o,h.get? b=some o/\∃vs,o.data=.fields vs):n6 e od (h.update b (Obj.mapFields f)):=by
 intro o ho;by_cases q:b=e
 . subst q;obtain ⟨ob,h1,vs,h2⟩:=hb;rw [Heap.get?_update_self _ h1 (Obj.isFreed_of_fields (Obj.data_mapFields h2 f))] at ho;cases ho;rw [xr];exact d _ h1
 . rw [Heap.get?_update_other _ _ q] at ho;exact d o ho
theorem Dn (T:Addr):(Value.ref T != Value.none)=true:=by simp
theorem kj (L:Addr):(Value.none==rawInt L)=false:=by simp [rawInt]
theorem Wj (ht:s.heap.TracedAtW base e cls a0 fl) (d:n6 e od s.heap):wpAny M A (setFlight (.ref e) none) (fun _ s'=>n6 e od s'.heap) E s:=by obtain ⟨oe,vs,T,oT,ts,he,-,hd,h1,-,-,hT,hdT,h3⟩:=ht;have in3:=(Array.getElem?_eq_some_iff.mp h3).1;unfold setFlight;exact δ (wpAny_field he hd h1 (by rw [ξ (Dn T)];exact wpAny_setField hT hdT in3 (Kn d ⟨_,hT,_,hdT⟩)))
theorem Vu (hfr:A.frames=some (env::outer)) (hl:s.heap.FunFrames base (env::outer)) (hf:env.frame=some L) (he:s.heap.get? e=some oe) (hd:oe.data=.fields vs) (hsz:1<vs.size) (d:n6 e od s.heap) :
  wpAny M A (do let a <-frameOf env;let pl <-entryPlaceOf L hadNext;let b <-EntryCells.newEntry head a .none (rawInt L) .none pl;setField (.ref e) 1 b) (fun _ s'=>n6 e od s'.heap) E s:=by
 have nf:e∉(env::outer).filterMap (·.frame):=fun hm=>by obtain ⟨_,o,ho,hnf⟩:=hl.mem hm;rw [he] at ho;cases ho;exact hnf vs hd
 refine δ (wpAny_frameOf_fun hfr hl hf fun h1 hs=>δ (wpAny_entryPlaceOf fun pl hpl=>?_))
 unfold EntryCells.newEntry newFields
 refine δ (wpAny_newObj_type ?_ (hpl.sizeOk5 _ _ _ _ _))
 have he1:h1.get? e=some oe:=(hs.2.1 e nf).trans he
 have he2:=τ (h:=h1) { cls:=.type "traceback",dict:=none,data:=.fields ([head,.ref L,.none,rawInt L,.none]++(if pl.isEmpty then List.replicate 6 Value.none else pl)).toArray } he1
 refine wpAny_setField he2 hd hsz (Kn (fun o ho=>?_) ⟨_,he2,_,hd⟩)
 rw [he2] at ho;cases ho
 exact d _ he
theorem yc (hfr:A.frames=some (env::outer)) (hl:s.heap.FunFrames base (env::outer)) (hf:env.frame=some L) (ht:s.heap.TracedW base e cls a0) (d:n6 e od s.heap) :
  wpAny M A (noteFrame (.ref e) env) (fun _ s'=>n6 e od s'.heap) E s:=by
 obtain ⟨oe,vs,T,oT,ts,he,-,hd,h1,-,hTe,hT,hdT,h3⟩:=ht
 have in1:=(Array.getElem?_eq_some_iff.mp h1).1
 have in3:=(Array.getElem?_eq_some_iff.mp h3).1
 have off:∀b,T≠b->(s.heap.update T (Obj.mapFields (·.setIfInBounds 3 Value.none))).get? b=s.heap.get? b:=fun b hb=>Heap.get?_update_other _ _ hb
 have fr:(s.heap.update T (Obj.mapFields (·.setIfInBounds 3 Value.none))).FunFrames base (env::outer):=hl.of_keeps fun b o hb nf=>⟨o,(off b fun z=>by rw [<-z,hT] at hb;cases hb;exact nf ts hdT).trans hb,rfl⟩
 unfold noteFrame
 simp only [hf]
 exact δ (wpAny_field he hd h1 (by rw [ξ (Dn T)];exact δ (wpAny_field hT hdT h3 (by rw [ψ (by rw [kj];exact η)];exact δ (wpAny_setField hT hdT in3 (Vu hfr fr hf ((off e hTe).trans he) hd in1 (Kn d ⟨_,hT,_,hdT⟩)))))))
end
section
variable {M:Model} {A:Around} {E:Value->Shared->Prop} {s:Shared} {base:Heap} {env:Env} {outer:List Env} {L e:Addr} {cls a0:Value} {od:Option Addr} {Q:Unit->Shared->Prop}
theorem Dm (hh:Heap.HeldW base (env::outer) e cls a0 L s.heap) (d:n6 e od s.heap) (hQ:∀h',Heap.FlyingW base (env::outer) e cls a0 h'->s.heap.UpToSlots h'->n6 e od h'->Q () { s with heap:=h' }):wpAny M A (setFlight (.ref e) none) Q E s:=
 wpAny_mono (Eh (E:=E) (E':=E) (.flight _ _) (wpAny_landsW hh (Q:=fun _ s'=>∃h',s'={ s with heap:=h' }/\Heap.FlyingW base (env::outer) e cls a0 h'/\s.heap.UpToSlots h') fun h' f u=>⟨h',rfl,f,u⟩) (Wj hh.2.2.2 d))
  (fun _ s' ⟨⟨h',e1,f,u⟩,d'⟩=>by subst e1;exact hQ h' f u d') fun _ _ z=>z.1
theorem Jv (hfr:A.frames=some (env::outer)) (hf:env.frame=some L) (hfl:Heap.FlyingW base (env::outer) e cls a0 s.heap) (d:n6 e od s.heap)
  (hQ:∀h',Heap.HeldW base (env::outer) e cls a0 L h'->s.heap.UpToSlots h'->n6 e od h'->Q () { s with heap:=h' }):wpAny M A (noteFrame (.ref e) env) Q E s:=
 wpAny_mono (Eh (E:=E) (E':=E) (.note _ _) (wpAny_looks_onW hfr hf hfl (Q:=fun _ s'=>∃h',s'={ s with heap:=h' }/\Heap.HeldW base (env::outer) e cls a0 L h'/\s.heap.UpToSlots h') fun h' f u=>⟨h',rfl,f,u⟩) (yc hfr hfl.2.2.1 hf hfl.2.2.2 d))
  (fun _ s' ⟨⟨h',e1,f,u⟩,d'⟩=>by subst e1;exact hQ h' f u d') fun _ _ z=>z.1
theorem xq (hfr:A.frames=some (env::outer)) (hf:env.frame=some L) (hfl:Heap.FlyingW base (env::outer) e cls a0 s.heap) (d:n6 e od s.heap)
  (hQ:∀h',Heap.FlyingW base outer e cls a0 h'->s.heap.UpToSlots h'->n6 e od h'->Q () { s with heap:=h' }):wpAny M A (leaving env (.ref e)) Q E s:=by
 unfold leaving
 refine δ (Jv hfr hf hfl d fun h1 hh u1 d1=>Dm (s:={ s with heap:=h1 }) hh d1 fun h2 f u2 d2=>hQ h2 ?_ (u1.trans u2) d2)
 obtain ⟨k1,k2,⟨_,_,k3⟩,k4⟩:=f
 exact ⟨k1,k2,k3,k4⟩
theorem vw (hfr:A.frames=some (env::outer)) (hl:s.heap.FunFrames base (env::outer)) (hf:env.frame=some L) (he:s.heap.get? e=some oe) (hkb:base.StaysIn s.heap) (hen:base.get? e=none) (hd:oe.data=.fields vs) (h1:vs[1]?=some .none) (h0:vs[0]?=some a0) (d:n6 e od s.heap)
  (hQ:∀h',Heap.FlyingW base outer e oe.cls a0 h'->s.heap.UpToSlots h'->n6 e od h'->Q () { s with heap:=h' }):wpAny M A (leaving env (.ref e)) Q E s:=by
 have hsz:=(Array.getElem?_eq_some_iff.mp h1).1
 unfold leaving noteFrame
 simp only [hf]
 refine δ (δ (wpAny_field he hd h1 ?_))
 rw [ψ (by decide)]
 refine wpAny_mono (Eh (E:=E) (E':=E) (.entry _ _ _ _ _) (wpAny_entryW hfr hl hf he hkb hen hd hsz h0 (Q:=fun _ s'=>∃h',s'={ s with heap:=h' }/\Heap.NotedW base (env::outer) e oe.cls a0 (rawInt L) s.heap h') fun h' n=>⟨h',rfl,n⟩) (Vu hfr hl hf he hd hsz d)) (fun _ s' z=>?_) fun _ _ z=>z.1
 obtain ⟨⟨h',e1,n1,n2,n3,n4⟩,d1⟩:=z
 subst e1
 refine Dm (s:={ s with heap:=h' }) ⟨n1,hen,n2,n3⟩ d1 fun h2 f u2 d2=>hQ h2 ?_ (Heap.UpToSlots.trans n4 u2) d2
 obtain ⟨k1,k2,⟨_,_,k3⟩,k4⟩:=f
 exact ⟨k1,k2,k3,k4⟩
end
theorem ObjOk.there (x:ObjOk P w H h a o):∃ob,h.get? a=some ob:=by
 induction o with
 | lst xs=>obtain ⟨_,_,_,_,e⟩:=x;exact ⟨_,e⟩
 | tup xs=>obtain ⟨_,_,_,ob,e,_⟩:=x;exact ⟨_,e⟩
 | dK kvs=>obtain ⟨_,_,_,_,o,_,_,e,_⟩:=x;exact ⟨_,e⟩
 | dT kvs=>obtain ⟨_,_,_,_,o,_,_,e,_⟩:=x;exact ⟨_,e⟩
 | set S n=>obtain ⟨o,_,_,_,e,_⟩:=x;exact ⟨_,e⟩
 | ins C dx fs=>obtain ⟨_,_,_,e,_⟩:=x;exact ⟨_,e⟩
 | own y=>exact x
 | xd fs=>obtain ⟨_,⟨_,_,_,e,_⟩,_⟩:=x;exact ⟨_,e⟩
 | rng lo hi=>obtain ⟨_,_,_,e⟩:=x;exact ⟨_,e⟩
 | frz ob u ih=>exact ⟨_,x.1⟩
 | tbl ps=>exact ⟨_,x⟩
 | ctb q=>obtain ⟨_,e,_⟩:=x;exact ⟨_,e⟩
 | met f y=>exact ⟨_,x⟩
 | ext φ=>exact x.2.1
theorem HOk.none (x:HOk P w H h) (e:h.get? a=Option.none):H a=Option.none:=by
 cases q:H a with
 | none=>rfl
 | some o=>
  obtain ⟨ob,z⟩:=(x a o q).there
  rw [e] at z;cases z
def Fly (h0:Heap) (H':Hp) (C a:Addr) (od:Option Addr) (h:Heap):Prop:=∃oe vs T oT ts a0,h.get? a=some oe/\oe.cls=.ref C/\vs[0]?=some a0/\oe.data=.fields vs/\vs[1]?=some (.ref T)/\T≠a/\h.get? T=some oT/\oT.data=.fields ts/\ts[3]?=some Value.none /\
 h0.get? a=none/\h0.get? T=none/\H' a=none/\H' T=none/\oe.dict=od/\∀dx,od=some dx->h0.get? dx=none
structure XOut (P:Program) (w:World) (outer:List Env) (H:Hp) (s:Shared) (C a:Addr) (od:Option Addr) (H':Hp) (s':Shared):Prop where
 os:s'.os=s.os
 bare:AllBare s'.gens
 un:Un (frs outer) [] H H' s.heap s'.heap
 hok:HOk P w H' s'.heap
 fly:Fly s.heap H' C a od s'.heap
noncomputable def CX1 (P:Program) (w:World):CXT:=fun outer H s E e s'=>∃C a od H',e=.ref a/\XOut P w outer H s C a od H' s'/\E (.ref C) od H'
theorem Lh (e:(hideAll h l).get? b=none):b∈l\/h.get? b=none:=by
 by_cases hb:b∈l
 . exact .inl hb
 . cases q:h.get? b with
   | none=>exact .inr rfl
   | some o=>rw [hideAll_get l q hb] at e;cases e
section
variable {X:Cx} {pins:List (Addr×Obj)} {U:List (Option V)} {H1 H2:Hp} {s1 s2:Shared} {h' B:Heap} {Z:List Addr} {C a:Addr} {a0:Value} {od:Option Addr}
theorem Inv.stack2 (I:Inv X pins U H1 s1) (un:Un (frs X.stack) [] H1 H2 s1.heap s2.heap):s2.heap.FunFrames X.base X.stack:=by
 have all:∀(l:List Env),(∀b∈frs l,b∈frs X.stack)->s1.heap.FunFrames X.base l->s2.heap.FunFrames X.base l:=by
  intro l;induction l with
  | nil=>intro _ _;trivial
  | cons env r ih=>
   intro hs hl
   obtain ⟨hk,⟨L,o,hf,hn,ho,hd⟩,hr⟩:=hl
   have hL:L∈frs X.stack:=hs L (by unfold frs;rw [List.filterMap_cons,hf];exact List.mem_cons_self)
   obtain ⟨sl,e⟩:=un.slot L o ho (I.stkFree L hL) hL (by simp)
   exact ⟨hk,⟨L,_,hf,hn,e,hd⟩,ih (fun b hb=>hs b (by unfold frs;rw [List.filterMap_cons,hf];exact List.mem_cons_of_mem _ hb)) hr⟩
 exact all X.stack (fun _ hb=>hb) I.stack
theorem Vt (I:Inv X pins U H1 s1) (hst:X.stack=X.env::X.outer) (hex:X.ex=[]) (hos:s2.os=s1.os) (hbare:AllBare s2.gens) (un:Un (frs X.stack) [] H1 H2 s1.heap s2.heap) (hok:HOk X.prog X.w H2 s2.heap)
  (hZ:∀b∈Z,s1.heap.get? b=none/\H2 b=none) (ha:s1.heap.get? a=none) (hHa:H2 a=none) (keep:∀b o,s2.heap.get? b=some o->b∉Z->b∉frs X.stack->h'.get? b=some o)
  (up:s2.heap.UpToSlots h') (hB:∀b,B.get? b=none->b∈frs X.stack\/(s1.heap.get? b=none/\H2 b=none)) (hfl:Heap.FlyingW B X.outer a (.ref C) a0 h') (hdc:n6 a od h') (hnd:∀dx,od=some dx->s1.heap.get? dx=none) :
  XOut X.prog X.w X.outer X.H₀ X.s₀ C a od H2 { s2 with heap:=h' }:=by
 have base:Un X.fs [] X.H₀ H1 X.s₀.heap s1.heap:=hex ▸ I.base
 have F2:=I.stack2 un
 have sub:∀b∈frs X.outer,b∈frs X.stack:=fun b hb=>by
  rw [hst];unfold frs;cases q:X.env.frame with
  | none=>rw [List.filterMap_cons,q];exact hb
  | some L=>rw [List.filterMap_cons,q];exact List.mem_cons_of_mem _ hb
 have neL:∀b o,X.s₀.heap.get? b=some o->b≠X.env.locals:=fun b o e=>Nat.ne_of_lt (Nat.lt_of_lt_of_le (π e) I.ok.above)
 have nost:∀b o,X.s₀.heap.get? b=some o->b∉frs X.outer->b∉frs X.stack:=fun b o e hb z=>(List.mem_cons.mp (I.stkSub b z)).elim (neL b o e) hb
 have fresh0:∀b,s1.heap.get? b=none->X.s₀.heap.get? b=none:=fun b e=>by
  cases q:X.s₀.heap.get? b with
  | none=>rfl
  | some o=>
   obtain ⟨o',z⟩:=base.there b o q (by simp)
   rw [e] at z;cases z
 have noZ:∀b o,X.s₀.heap.get? b=some o->b∉Z:=fun b o e hb=>by rw [fresh0 b (hZ b hb).1] at e;cases e
 have frFree:∀b∈frs X.stack,H2 b=none:=fun b hb=>by obtain ⟨_,o,ho,_⟩:=I.stack.mem hb;exact un.free b o ho (I.stkFree b hb) (by simp)
 have slotF:∀b∈frs X.stack,∀o,s2.heap.get? b=some o->∃sl,h'.get? b=some { o with slots:=sl }:=fun b hb o e=>by obtain ⟨_,o',ho',hd⟩:=F2.mem hb;rw [e] at ho';cases ho';exact up b o e hd
 refine ⟨by show s2.os=_;rw [hos,I.os],hbare,⟨fun b o e n hb _=>?_,fun b o e n hb _=>?_,fun b o e n _=>?_,fun b o e _=>?_,fun b xs e=>un.tups b xs (base.tups b xs e),fun b o u e=>un.frzs b o u (base.frzs b o u e),fun b ps e=>?_⟩,fun b o e=>?_,?_⟩
 . exact keep b o (un.keep b o (base.keep b o e n hb (by simp)) (base.free b o e n (by simp)) (nost b o e hb) (by simp)) (noZ b o e) (nost b o e hb)
 . obtain ⟨sl,e1⟩:=base.slot b o e n hb (by simp);obtain ⟨sl2,e2⟩:=un.slot b _ e1 (base.free b o e n (by simp)) (sub b hb) (by simp);obtain ⟨sl3,e3⟩:=slotF b (sub b hb) _ e2;exact ⟨sl3,e3⟩
 . obtain ⟨o1,e1⟩:=base.there b o e (by simp);exact un.free b o1 e1 (base.free b o e n (by simp)) (by simp)
 . obtain ⟨o1,e1⟩:=base.there b o e (by simp);obtain ⟨o2,e2⟩:=un.there b o1 e1 (by simp);by_cases hb:b∈frs X.stack
   . obtain ⟨sl,e3⟩:=slotF b hb _ e2;exact ⟨_,e3⟩
   . exact ⟨o2,keep b o2 e2 (noZ b o e) hb⟩
 . obtain ⟨m1,e1⟩:=base.tbls b ps e;obtain ⟨m2,e2⟩:=un.tbls b _ e1;exact ⟨m1++m2,by rw [e2,Array.append_assoc]⟩
 . refine (hok b o e).stay (fun c v hc q=>keep c v q (fun hz=>?_) fun hf=>?_) (fun _ q=>q) fun _ _ q=>q
   . have:=(hZ c hz).2;rcases hc with rfl | hc
     . rw [e] at this;cases this
     . rw [hc] at this;cases this
   . have:=frFree c hf;rcases hc with rfl | hc
     . rw [e] at this;cases this
     . rw [hc] at this;cases this
 . obtain ⟨_,_,_,oe,vs,T,oT,ts,he,⟨hc,h0⟩,hd,h1,hnT,hTe,hT,hdT,h3⟩:=hfl;have hTn:s1.heap.get? T=none/\H2 T=none:=by
    rcases hB T hnT with z | z
    . obtain ⟨_,o',ho',hd'⟩:=F2.mem z;obtain ⟨sl,e3⟩:=slotF T z o' ho';rw [hT] at e3;cases e3;exact absurd hdT (hd' ts)
    . exact z
   exact ⟨oe,vs,T,oT,ts,a0,he,hc,h0,hd,h1,hTe,hT,hdT,h3,fresh0 a ha,fresh0 T hTn.1,hHa,hTn.2,hdc _ he,fun dx e=>fresh0 dx (hnd dx e)⟩
theorem xn (I:Inv X pins U H1 s1) (hst:X.stack=X.env::X.outer) (hex:X.ex=[]) (hf:X.env.frame=some X.env.locals) (x:XOut X.prog X.w X.stack H1 s1 C a od H2 s2)
  (h:∀s',XOut X.prog X.w X.outer X.H₀ X.s₀ C a od H2 s'->Q () s'):wpAny (model X.prog X.w) X.A (leaving X.env (.ref a)) Q E s2:=by
 obtain ⟨oe,vs,T,oT,ts,a0,he,hc,h0,hd,h1,hTe,hT,hdT,h3,na,nT,ha,hHT,hod,hnd⟩:=id x.fly
 have F2:=I.stack2 x.un
 have hin:∀env∈X.stack,∀b,env.frame=some b->b∈a::T::frs X.stack:=fun env he b hb=>List.mem_cons_of_mem _ (List.mem_cons_of_mem _ (List.mem_filterMap.mpr ⟨env,he,hb⟩))
 have hfr:X.A.frames=some (X.env::X.outer):=by rw [<-hst];exact I.ok.frames
 refine xq (od:=od) (base:=hideAll s2.heap (a::T::frs X.stack)) (cls:=.ref C) (a0:=a0) hfr hf ⟨fun b o q=>of_hideAll _ q,hideAll_none _ (.head _),hst ▸ funFrames_hide F2 hin,?_⟩ (fun o ho=>by rw [he] at ho;cases ho;exact hod) fun h' hfl up hdc=>h _ (Vt (Z:=[a,T]) I hst hex x.os x.bare x.un x.hok (fun b hb=>?_) na ha (fun b o q hz hfs=>hfl.1 b o (hideAll_get _ q ?_)) up (fun b q=>?_) hfl hdc hnd)
 . exact ⟨oe,vs,T,oT,ts,he,⟨hc,h0⟩,hd,h1,hideAll_none _ (.tail _ (.head _)),hTe,hT,hdT,h3⟩
 . rcases List.mem_cons.mp hb with rfl | hb
   . exact ⟨na,ha⟩
   . have:b=T:=by simpa using hb
     subst this;exact ⟨nT,hHT⟩
 . intro z;rcases List.mem_cons.mp z with rfl | z
   . exact hz (.head _)
   . rcases List.mem_cons.mp z with rfl | z
     . exact hz (.tail _ (.head _))
     . exact hfs z
 . rcases Lh q with z | z
   . rcases List.mem_cons.mp z with rfl | z
     . exact .inr ⟨na,ha⟩
     . rcases List.mem_cons.mp z with rfl | z
       . exact .inr ⟨nT,hHT⟩
       . exact .inl z
   . refine .inr ⟨?_,x.hok.none z⟩;cases q1:s1.heap.get? b with
     | none=>rfl
     | some o=>
      obtain ⟨o',e'⟩:=x.un.there b o q1 (by simp)
      rw [z] at e';cases e'
structure MadeX (h h':Heap) (e C:Addr) (od:Option Addr):Prop where
 new:h.get? e=none
 newd:∀dx,od=some dx->h.get? dx=none
 there:∃oe vs a0,h'.get? e=some oe/\oe.cls=.ref C/\oe.dict=od/\oe.data=.fields vs/\vs[0]?=some a0/\vs[1]?=some .none
theorem MadeX.of (x:Heap.MadeExcOf h h' e (.ref C) args):MadeX h h' e C none:=by obtain ⟨t,he,_,_⟩:=x.there;exact ⟨x.new,(fun _ z=>nomatch z),_,_,_,he,rfl,rfl,rfl,rfl,rfl⟩
theorem yO (I:Inv X pins U H1 s1) (hst:X.stack=X.env::X.outer) (hex:X.ex=[]) (hf:X.env.frame=some X.env.locals) (hx:MadeX s1.heap s2.heap a C od) (hok:HOk X.prog X.w H2 s2.heap) (un:Un (frs X.stack) [] H1 H2 s1.heap s2.heap) (hHa:H2 a=none) (hos:s2.os=s1.os) (hbare:AllBare s2.gens)
  (h:∀s',XOut X.prog X.w X.outer X.H₀ X.s₀ C a od H2 s'->Q () s'):wpAny (model X.prog X.w) X.A (leaving X.env (.ref a)) Q E s2:=by
 have hin:∀env∈X.stack,∀b,env.frame=some b->b∈a::frs X.stack:=fun env he b hb=>List.mem_cons_of_mem _ (List.mem_filterMap.mpr ⟨env,he,hb⟩)
 have hfr:X.A.frames=some (X.env::X.outer):=by rw [<-hst];exact I.ok.frames
 have F2:=I.stack2 un
 obtain ⟨oe,vs,a0,he,hc,hod,hd,h0,h1⟩:=hx.there
 refine vw (od:=od) (base:=hideAll s2.heap (a::frs X.stack)) hfr (hst ▸ funFrames_hide F2 hin) hf he (fun b o q=>of_hideAll _ q) (hideAll_none _ (.head _)) hd h1 h0 (fun o ho=>by rw [he] at ho;cases ho;exact hod) fun h' hfl up hdc=>h _ ?_
 rw [hc] at hfl
 refine Vt (B:=hideAll s2.heap (a::frs X.stack)) (Z:=[a]) I hst hex hos hbare un hok (fun b hb=>?_) hx.new hHa (fun b o q hz hfs=>hfl.1 b o (hideAll_get _ q ?_)) up (fun b q=>?_) hfl hdc hx.newd
 . obtain rfl:b=a:=by simpa using hb
   exact ⟨hx.new,hHa⟩
 . intro z;rcases List.mem_cons.mp z with rfl | z
   . exact hz (.head _)
   . exact hfs z
 . rcases Lh q with z | z
   . rcases List.mem_cons.mp z with rfl | z
     . exact .inr ⟨hx.new,hHa⟩
     . exact .inl z
   . refine .inr ⟨?_,hok.none z⟩;cases q1:s1.heap.get? b with
     | none=>rfl
     | some o=>
      obtain ⟨o',e'⟩:=un.there b o q1 (by simp)
      rw [z] at e';cases e'
end
noncomputable def eOf (K:Frag) (EX:XW) (mg:Str->Option Value):XK:=fun cv od H=>∃x:Ex,EX.p x H/\mg (x.cls:Str)=some cv/\XFs K x od H
structure Lnd (X:Cx) (EX:XW):Prop where
 nm:∀x H,EX.p x H->∃C,X.mg (x.cls:Str)=some (.ref C)
 on:T9 (CX1 X.prog X.w) X (eOf X.K EX X.mg)
 md:∀(pins:List (Addr×Obj)) (U:St) (H H2:Hp) (s:Shared) (a C:Addr) (od:Option Addr) (s':Shared) (x:Ex),Inv X pins U H s->MadeX s.heap s'.heap a C od->HOk X.prog X.w H2 s'.heap->Un (frs X.stack) [] H H2 s.heap s'.heap->H2 a=none->s'.os=s.os->AllBare s'.gens->X.mg (x.cls:Str)=some (.ref C)->EX.p x H2->XFs X.K x od H2->X.xe (.ref a) s'
theorem Q9:Lnd X F0:=⟨fun _ _ z=>z.elim,fun _ _ _ _ _ _ _ ⟨_,_,_,_,_,_,_,z,_⟩=>z.elim,fun _ _ _ _ _ _ _ _ _ _ _ _ _ _ _ _ _ _ z _=>z.elim⟩
theorem i4 {P:Program} {w:World} {K:Frag} {mg:Str->Option Value} {base:Heap} {N:List Str} {qual:Str} {sc:Scope} {f:Addr} {cdv:Value} {A:Around} {outer:List Env} {s:Shared} {H:Hp} {E:XK} :
  Lnd (w8 (CX1 P w) P w K mg base N qual sc f cdv A outer s H E) ⟨H,xNm K mg E⟩:=by
 refine ⟨fun x H ⟨C,hC,_⟩=>⟨C,hC⟩,?_,?_⟩
 . rintro pins U H1 s1 e s' I ⟨C,a,od,H',rfl,xo,x,⟨C',hC',hE⟩,hmg,hx⟩;have hmg:mg (x.cls:Str)=some (.ref C):=hmg;rw [hC'] at hmg;cases hmg;exact xn I rfl rfl rfl xo fun s'' y=>⟨_,a,od,H',rfl,y,hE od hx⟩
 . rintro pins U H1 H2 s1 a C od s' x I hx hok un hHa ho hb hmg ⟨C',hC',hE⟩ hf;have hmg:mg (x.cls:Str)=some (.ref C):=hmg;rw [hC'] at hmg;cases hmg;exact yO I rfl rfl rfl hx hok un hHa ho hb fun s'' y=>⟨_,a,od,H2,rfl,y,hE od hf⟩
def i6 (P:Program) (w:World) (K:Frag) (mg:Str->Option Value) (base:Heap) (x:Str) (ps:List Str) (k:Nat) (sp:Sp):Prop:=
 ∃f fd,FnOk P w K mg base (CX1 P w) k f fd ps sp/\Binds K fd ps []/\mg x=some (.ref f)/\keepIn K (.ref f)=true
section
variable {X:Cx} {x:Str} {p pos:Pos} {e:Expr} {es:List Expr} {t:TA} {ps:List Str} {k j:Nat} {sp:Sp} {E:XK}
theorem Ju (G:i6 X.prog X.w X.K X.mg X.base x ps k sp) (hx:T9 (CX1 X.prog X.w) X E) (hr:Room j X.A) (hg:Gl X x) (ha:PA X (e::es) t) (hkj:k<=j:=by omega) (hdb:(x==("__debug__":Str))=false:=by decide)
  (he:starEach (e::es) X.env=(false,eval e X.env)::starEach es X.env:=by rfl) (hpl:(backTo pos (starEach es X.env)).any (·.1)=false:=by rfl):PE X (.Call (.Name x p) (e::es) [] pos) (Ab sp E t):=by
 obtain ⟨f,fd,F,b,m,kp⟩:=G
 refine (vS F (hr.mono hkj) hg m kp b .nil hx ha hdb he hpl).imp fun U H Q q=>?_
 unfold Oz
 unfold Ab at q
 simpa only [List.append_nil] using q
end
theorem Fun.okX {P:Program} {w:World} {K:Frag} {mg:Str->Option Value} {base:Heap} {x qual:Str} {st:Stmt} {f:Addr} {fd:FuncData} {N ps:List Str} {k:Nat} {sp:Sp} {CX:CXT} (F:Fun K x qual st f fd) (S:FnScope N ps (d8 st)) (len:∀vs H Q E,sp vs H Q E->vs.length=ps.length)
  (hbody:∀(cdv:Value) (A:Around) (outer:List Env) (s:Shared) (H:Hp) (vs:List V) (Q:VK) (E:XK),Room k (A.deeper (envOfC qual (d8 st) s.heap.objs.size f cdv))->sp vs H Q E ->
   ∃t,PSs (w8 CX P w K mg base N qual (d8 st) f cdv A outer s H E) (x8 st) t/\t { nx:=fun _ H'=>Q .non H',rt:=Q } (C7 N vs) H):FnOk P w K mg base CX (k+1) f fd ps sp:=by
 obtain ⟨oc,od,kV,doc,pm,an,cdv,ct,osl,rfl,lk,hcd⟩:=F.ex
 refine Oy lk hcd S len fun A outer s H vs Q E hr hsp=>?_
 exact hbody cdv A outer s H vs Q E hr hsp
section
variable {K:Frag} {H:Hp} {v:V}
theorem RD.int (h:RD K H (.int i) v):v=.int i:=by simpa only [RD] using h
theorem RD.str (h:RD K H (.str i) v):v=.str i:=by simpa only [RD] using h
theorem RD.non (h:RD K H .non v):v=.non:=by simpa only [RD] using h
theorem RD.tup (h:RD K H (.tup ds) v):∃a xs,v=.ref a/\H a=some (.tup xs)/\RDs K H ds xs:=by simpa only [RD] using h
theorem RD.lst (h:RD K H (.lst ds) v):∃a xs,v=.ref a/\H a=some (.lst xs)/\RDs K H ds xs:=by simpa only [RD] using h
theorem RD.dk (h:RD K H (.dk ks ds) v):∃a xs,v=.ref a/\H a=some (.dK (ks.zip xs))/\ks.length=xs.length/\RDs K H ds xs:=by simpa only [RD] using h
theorem RD.dt (h:RD K H (.dt ks ds) v):∃a xs,v=.ref a/\H a=some (.dT (ks.zip xs))/\ks.length=xs.length/\RDs K H ds xs:=by simpa only [RD] using h
theorem RD.scr (h:RD K H (.scr ns) v):∃a,v=.ref a/\SqL K H a (ns.map V.int):=by
 simp only [RD] at h;obtain ⟨a,e,h | h⟩:=h
 . exact ⟨a,e,.inl (.inr h)⟩
 . exact ⟨a,e,.inr h⟩
theorem RD.mkInt (i:Int):RD K H (.int i) (.int i):=by simp only [RD]
theorem RD.mkBl (i:Bool):RD K H (.bl i) (.bl i):=by simp only [RD]
theorem RD.mkNon:RD K H .non .non:=by simp only [RD]
theorem RD.mkStr (i:Str):RD K H (.str i) (.str i):=by simp only [RD]
theorem RD.mkTup (h:H a=some (.tup xs)) (r:RDs K H ds xs):RD K H (.tup ds) (.ref a):=by simp only [RD];exact ⟨a,xs,rfl,h,r⟩
end
noncomputable def dI (g:Int->Int->D):D->D->Option D
 | .int i,.int j=>some (g i j)
 | _,_=>none
noncomputable def dIC (C:Int->Int->Prop) [∀i j,Decidable (C i j)] (g:Int->Int->D):D->D->Option D
 | .int i,.int j=>if C i j then some (g i j) else none
 | _,_=>none
noncomputable def dOr (o p:D->D->Option D):D->D->Option D:=fun d e=>match o d e with
 | some z=>some z
 | none=>p d e
section
variable {K:Frag}
theorem OpD.weak (h:OpD K fr o r):OpD K false o r:=fun H0 H x y d e z Q s rx ry ho k=>h H0 H x y d e z Q s rx ry ho fun v H' q=>k v H' q.weak
theorem OpD.or (h1:OpD K f1 o r) (h2:OpD K f2 p q):OpD K false (dOr o p) (fun x y H Q=>r x y H Q\/q x y H Q):=by
 intro H0 H x y d e z Q s rx ry ho k;unfold dOr at ho;split at ho
 . rename_i z' hz;cases ho;exact .inl (h1.weak H0 H x y d e z Q s rx ry hz k)
 . exact .inr (h2.weak H0 H x y d e z Q s rx ry ho k)
theorem Q8 (h:∀i j H,RD K H (gd i j) (gv i j)):OpD K false (dI gd) (cI gv):=by
 intro H0 H x y d e z Q s rx ry ho k;cases d<;>simp only [dI] at ho<;>first | cases ho | skip
 cases e<;>simp only [dI] at ho<;>first | cases ho | skip
 cases rx.int;cases ry.int;exact k _ H (.pure s (h _ _ _))
theorem Cp [∀i j,Decidable (C i j)] (h:∀i j H,RD K H (gd i j) (gv i j)):OpD K false (dIC C gd) (cIC C gv):=by
 intro H0 H x y d e z Q s rx ry ho k;cases d<;>simp only [dIC] at ho<;>first | cases ho | skip
 cases e<;>simp only [dIC] at ho<;>first | cases ho | skip
 cases rx.int;cases ry.int;split at ho
 . rename_i hcc;cases ho;exact ⟨hcc,k _ H (.pure s (h _ _ _))⟩
 . cases ho
instance (i j:Int):Decidable (CMul i j):=by unfold CMul;infer_instance
instance (i j:Int):Decidable (O4 i j):=by unfold O4;infer_instance
instance (i j:Int):Decidable (R5 i j):=by unfold R5;infer_instance
def m5:D->D->Option D:=dI fun i j=>.int (i+j)
def y9:D->D->Option D:=dI fun i j=>.int (i - j)
def p5:D->D->Option D:=dIC CMul fun i j=>.int (i * j)
def L9:D->D->Option D:=dIC O4 fun i j=>.int (i / j)
def g8:D->D->Option D:=dIC (fun _ j=>0<j) fun i j=>.int (i % j)
def Q7:D->D->Option D:=dIC R5 fun i j=>.int (i ^ j.toNat)
def o3:D->D->Option D:=dI fun i j=>.bl (decide (i<j))
def dLe:D->D->Option D:=dI fun i j=>.bl (decide (i<=j))
def O5:D->D->Option D:=dI fun i j=>.bl (decide (j<i))
def dGe:D->D->Option D:=dI fun i j=>.bl (decide (j<=i))
theorem r9:OpD K false m5 (cI fun i j=>.int (i+j)):=Q8 fun _ _ _=>.mkInt _
theorem D9:OpD K false y9 (cI fun i j=>.int (i - j)):=Q8 fun _ _ _=>.mkInt _
theorem K0:OpD K false p5 (cIC CMul fun i j=>.int (i * j)):=Cp fun _ _ _=>.mkInt _
theorem Aa:OpD K false L9 (cIC O4 fun i j=>.int (i / j)):=Cp fun _ _ _=>.mkInt _
theorem l9:OpD K false g8 (cIC (fun _ j=>0<j) fun i j=>.int (i % j)):=Cp fun _ _ _=>.mkInt _
theorem Hx:OpD K false Q7 (cIC R5 fun i j=>.int (i ^ j.toNat)):=Cp fun _ _ _=>.mkInt _
theorem o9:OpD K false o3 (cI fun i j=>.bl (decide (i<j))):=Q8 fun _ _ _=>.mkBl _
theorem S9:OpD K false dLe (cI fun i j=>.bl (decide (i<=j))):=Q8 fun _ _ _=>.mkBl _
theorem Z9:OpD K false O5 (cI fun i j=>.bl (decide (j<i))):=Q8 fun _ _ _=>.mkBl _
theorem Zh:OpD K false dGe (cI fun i j=>.bl (decide (j<=i))):=Q8 fun _ _ _=>.mkBl _
noncomputable def M0:D->Option D
 | .int i=>some (.int (-i))
 | _=>none
theorem T8:UnD K false M0 (cU fun i=>.int (-i)):=by
 intro H0 H x d z Q s rx ho k;cases d<;>simp only [M0] at ho<;>first | cases ho | skip
 cases rx.int;exact k _ H (.pure s (.mkInt _))
noncomputable def E3:D->D->Option D
 | .lst ds,.lst es=>if ds.length+es.length<=100000 then some (.lst (ds++es)) else none
 | _,_=>none
theorem Bz (h:n<=100000):n<=sizeLine:=Nat.le_trans h (by decide)
theorem Hw:OpD K true E3 Yl:=by
 intro H0 H x y d e z Q s rx ry ho k;cases d<;>simp only [E3] at ho<;>first | cases ho | skip
 cases e<;>simp only [E3] at ho<;>first | cases ho | skip
 split at ho<;>cases ho;rename_i hl;obtain ⟨a,xs,rfl,ha,ra⟩:=rx.lst;obtain ⟨b,ys,rfl,hb,rb⟩:=ry.lst;refine ⟨a,b,xs,ys,rfl,rfl,s _ _ ha,s _ _ hb,by rw [<-ra.length,<-rb.length];exact Bz hl,fun p hp=>k _ _ (.new s hp fun H' hH=>?_)⟩;simp only [OB];exact ⟨_,hH,ra.append rb⟩
end
def dEq:D->D->Option D:=fun d e=>if d.pl=true/\e.pl=true/\d.dep<=20 then some (.bl (eqD d e)) else none
def dNe:D->D->Option D:=fun d e=>if d.pl=true/\e.pl=true/\d.dep<=20 then some (.bl (!eqD d e)) else none
def Xz (K:Frag):R2:=fun x y H Q=>∃d e,RD K H d x/\RD K H e y/\d.pl=true/\e.pl=true/\d.dep<=20/\Q (.bl (eqD d e)) H
def Xy (K:Frag):R2:=fun x y H Q=>∃d e,RD K H d x/\RD K H e y/\d.pl=true/\e.pl=true/\d.dep<=20/\Q (.bl (!eqD d e)) H
def By (neg:Bool):D->D->Option D:=fun d c=>match c with
 | .lst es=>if d.pl=true/\pls es=true/\i9 es<=20 then some (.bl (if neg then !(es.any fun e=>eqD e d) else es.any fun e=>eqD e d)) else none
 | .tup es=>if d.pl=true/\pls es=true/\i9 es<=20 then some (.bl (if neg then !(es.any fun e=>eqD e d) else es.any fun e=>eqD e d)) else none
 | _=>none
def Ff (K:Frag) (neg:Bool):R2:=fun x y H Q=>∃p xs d es,y=.ref p/\(H p=some (.lst xs)\/H p=some (.tup xs))/\RD K H d x/\RDs K H es xs/\d.pl=true/\pls es=true/\i9 es<=20/\Q (.bl (if neg then !(es.any fun e=>eqD e d) else es.any fun e=>eqD e d)) H
section
variable {X:Cx} {K:Frag}
theorem z7 (hu:X.A.units+64<cLine):OpR X (compareOp .Eq) (Xz X.K):=by intro pins s U H x y v u Q I rx ry h;obtain ⟨d,e,h1,h2,p1,p2,h3,q⟩:=h;exact (Qo (n:=20) I p1 p2 h3 (by lia) h1 h2 rx ry).1 X.prog X.w X.xe _ ⟨.bl _,H,I,rfl,q⟩
theorem Zg (hu:X.A.units+64<cLine):OpR X (compareOp .NotEq) (Xy X.K):=by intro pins s U H x y v u Q I rx ry h;obtain ⟨d,e,h1,h2,p1,p2,h3,q⟩:=h;exact (Qo (n:=20) I p1 p2 h3 (by lia) h1 h2 rx ry).2 X.prog X.w X.xe _ ⟨.bl _,H,I,rfl,q⟩
theorem z6:OpD K false dEq (Xz K):=by intro H0 H x y d e z Q s rx ry ho k;unfold dEq at ho;split at ho<;>cases ho;rename_i h;exact ⟨d,e,rx.mono s,ry.mono s,h.1,h.2.1,h.2.2,k _ H (.pure s (.mkBl _))⟩
theorem Zf:OpD K false dNe (Xy K):=by intro H0 H x y d e z Q s rx ry ho k;unfold dNe at ho;split at ho<;>cases ho;rename_i h;exact ⟨d,e,rx.mono s,ry.mono s,h.1,h.2.1,h.2.2,k _ H (.pure s (.mkBl _))⟩
theorem xk (hu:X.A.units+64<cLine):OpR X (compareOp .NotIn) (Ff X.K true):=by
 intro pins s U H x y v u Q I rx ry h;obtain ⟨p,xs,d,es,rfl,hp,hx,hes,pd,pe,hd,q⟩:=h;cases ry;rcases hp with hq | hq
 . obtain ⟨its,rv,pl,_⟩:=I.list (.of hq);refine SeqAt.notIn_listAt (hitD X.K H d) pl.isList (fun y hy=>Jz (A:=X.A) I (by lia) pd hx rx pe hes rv hd y (by simpa using hy)) ⟨.bl _,H,I,rfl,?_⟩;rw [show its.toArray.any (hitD X.K H d)=its.any (hitD X.K H d) by simp,Ko pe hes rv];simpa using q
 . obtain ⟨its,rv,pl,_⟩:=I.tuple (.of hq);refine SeqAt.notIn_tupleAt (hitD X.K H d) pl (fun y hy=>Jz (A:=X.A) I (by lia) pd hx rx pe hes rv hd y (by simpa using hy)) ⟨.bl _,H,I,rfl,?_⟩;rw [show its.toArray.any (hitD X.K H d)=its.any (hitD X.K H d) by simp,Ko pe hes rv];simpa using q
theorem od_inS:OpD K false (By neg) (Ff K neg):=by
 intro H0 H x y d e z Q s rx ry ho k;unfold By at ho;cases e<;>dsimp only at ho<;>first | cases ho | skip
 . split at ho<;>cases ho;rename_i es h;obtain ⟨a,xs,rfl,ha,ra⟩:=ry.tup;exact ⟨a,xs,d,es,rfl,.inr (s _ _ ha),rx.mono s,ra.mono s,h.1,h.2.1,h.2.2,k _ H (.pure s (.mkBl _))⟩
 . split at ho<;>cases ho;rename_i es h;obtain ⟨a,xs,rfl,ha,ra⟩:=ry.lst;exact ⟨a,xs,d,es,rfl,.inl (s _ _ ha),rx.mono s,ra.mono s,h.1,h.2.1,h.2.2,k _ H (.pure s (.mkBl _))⟩
end
noncomputable def X3:D->Option Key
 | .int i=>some (.inl i)
 | .str x=>some (.inr x)
 | _=>none
def S8:List D->Option (List Key)
 | []=>some []
 | d::ds=>match X3 d,S8 ds with
  | some k,some ks=>some (k::ks)
  | _,_=>none
theorem Sm {K:Frag} {H:Hp} {d:D} {k:Key} {v:V} (h:X3 d=some k) (r:RD K H d v):v=kV k:=by
 cases d<;>simp only [X3] at h<;>first | cases h | skip
 . cases r.int;rfl
 . cases r.str;rfl
theorem Ua {K:Frag} {H:Hp}:∀{ds:List D} {ks:List Key} {xs:List V},S8 ds=some ks->RDs K H ds xs->xs=ks.map kV
 | [],ks,xs,h,r=>by simp only [S8] at h;cases h;simp only [RDs] at r;subst r;rfl
 | d::ds,ks,xs,h,r=>by simp only [RDs] at r;obtain ⟨x,xs,rfl,r1,r2⟩:=r;simp only [S8] at h;split at h<;>cases h;rename_i k ks h1 h2;rw [Sm h1 r1,Ua h2 r2];rfl
def ROp (K:Frag) (H:Hp):Option D->Option V->Prop
 | some z,w=>∃v,w=some v/\RD K H z v
 | none,w=>w=none
section
variable {κ:Type} [DecidableEq κ]
noncomputable def O8 (ks:List κ) (ds:List D) (k:κ):Option D:=((ks.zip ds).find? fun kv=>decide (kv.1=k)).map (·.2)
theorem Jt {K:Frag} {H:Hp} (k:κ):∀{ks:List κ} {ds:List D} {xs:List V},ks.length=xs.length->RDs K H ds xs->ROp K H (O8 ks ds k) (B6 (ks.zip xs) k)
 | [],ds,xs,_,_=>by simp [O8,B6,ROp]
 | k'::ks,[],xs,h,r=>by simp only [RDs] at r;subst r;simp at h
 | k'::ks,d::ds,xs,h,r=>by
  simp only [RDs] at r;obtain ⟨x,xs,rfl,r1,r2⟩:=r;have ih:=Jt k (by simpa using h) r2 (ks:=ks);simp only [O8,B6,List.zip_cons_cons,List.find?_cons] at ih ⊢;by_cases e:k'=k
  . simp only [e,decide_true];exact ⟨x,rfl,r1⟩
  . simp only [e,decide_false];exact ih
end
def O7:D->D->Option (Option D)
 | .dk ks ds,k=>(X3 k).map fun k=>O8 ks ds k
 | .dt ks ds,.tup es=>(S8 es).map fun k=>O8 ks ds k
 | _,_=>none
theorem Sk {K:Frag} {H:Hp} {d k:D} {x y:V} {o:Option D} (h:O7 d k=some o) (rx:RD K H d x) (ry:RD K H k y) :
  ∃a w,x=.ref a/\DGet H a y w/\ROp K H o w:=by
 cases d<;>simp only [O7] at h<;>first | cases h | skip
 . rename_i ks ds;obtain ⟨a,xs,rfl,ha,hl,rs⟩:=rx.dk;cases hk:X3 k with
   | none=>rw [hk] at h;cases h
   | some k'=>
    rw [hk] at h
    have h:O8 ks ds k'=o:=by simpa using h
    subst h
    cases Sm hk ry
    exact ⟨a,_,rfl,DGet.k ha,Jt k' hl rs⟩
 . rename_i ks ds;cases k<;>simp only [O7] at h<;>first | cases h | skip
   rename_i es;obtain ⟨a,xs,rfl,ha,hl,rs⟩:=rx.dt;obtain ⟨b,ys,rfl,hb,rb⟩:=ry.tup;cases hk:S8 es with
   | none=>rw [hk] at h;cases h
   | some k'=>
    rw [hk] at h
    have h:O8 ks ds k'=o:=by simpa using h
    subst h
    have e:=Ua hk rb
    subst e
    exact ⟨a,_,rfl,DGet.t ha hb,Jt k' hl rs⟩
def Fe (neg:Bool):D->D->Option D:=fun k d=>(O7 d k).map fun o=>.bl (if neg then !o.isSome else o.isSome)
noncomputable def Fd (neg:Bool):R2:=fun y x H Q=>∃a w,x=.ref a/\DGet H a y w/\Q (.bl (if neg then !w.isSome else w.isSome)) H
def Fc:D->D->Option D:=fun d k=>(O7 d k).bind id
noncomputable def Fb:R2:=fun x y H Q=>∃a w,x=.ref a/\DGet H a y (some w)/\Q w H
def y8:D->D->Option D
 | .lst ds,.int i=>atI ds i
 | .tup ds,.int i=>atI ds i
 | .scr ns,.int i=>(atI ns i).map D.int
 | .str z,.int i=>if z.length<=100000 then (atI z.cps.toList i).map fun c=>D.str ⟨#[c]⟩ else none
 | _,_=>none
theorem RDs.atI {K:Frag} {H:Hp} {ds:List D} {xs:List V} {i:Int} {d:D} (r:RDs K H ds xs) (h:L2.atI ds i=some d):∃v,L2.atI xs i=some v/\RD K H d v:=by
 unfold L2.atI at h ⊢;rw [<-r.length];cases q:ixN ds.length i with
 | none=>rw [q] at h;cases h
 | some j=>
  rw [q] at h
  exact r.get' h
theorem vv (f:α->β) (xs:List α) (i:Int):atI (xs.map f) i=(atI xs i).map f:=by
 unfold atI;rw [List.length_map];cases ixN xs.length i with
 | none=>rfl
 | some j=>simp
section
variable {X:Cx} {K:Frag}
theorem xj (hu:X.A.units+64<cLine):OpR X (compareOp .NotIn) (Fd true):=by intro pins s U H x y v u Q I rx ry h;obtain ⟨a,w,rfl,g,q⟩:=h;cases ry;exact vO (by omega) I g rx fun s' I'=>⟨.bl (!w.isSome),H,I',rfl,by simpa using q⟩
theorem ki:OpD K false (Fe neg) (Fd neg):=by
 intro H0 H x y d e z Q s rx ry ho k;unfold Fe at ho;cases ho':O7 e d with
 | none=>rw [ho'] at ho;cases ho
 | some o=>
  rw [ho'] at ho;cases ho
  obtain ⟨a,w,rfl,g,m⟩:=Sk ho' (ry.mono s) (rx.mono s)
  refine ⟨a,w,rfl,g,k _ H ?_⟩
  have e:w.isSome=o.isSome:=by
   cases o with
   | none=>rw [show w=none from m];rfl
   | some z=>obtain ⟨v,e,_⟩:=m;rw [e];rfl
  rw [e]
  exact .pure s (.mkBl _)
def dIn (neg:Bool):D->D->Option D:=dOr (By neg) (Fe neg)
def Xx (K:Frag) (neg:Bool):R2:=fun x y H Q=>Ff K neg x y H Q\/Fd neg x y H Q
theorem Tz (hu:X.A.units+64<cLine):OpR X (compareOp .NotIn) (Xx X.K true):=(xk hu).or (xj hu)
theorem Of:OpD K false (dIn neg) (Xx K neg):=od_inS.or ki
theorem vt (hu:X.A.units+64<cLine):IxR X Fb:=by intro value slice pins s U H x y v u Q I rx ry h hs;obtain ⟨a,w,rfl,g,q⟩:=h;cases rx;exact tail_any (ops:=[.ref a,u]) (zl I g) PySem.F.slot_dict_getitem.lookup (yn (by lia) I g ry fun w' s3 I3 rw'=>⟨w,H,I3,rw',q⟩) hs
theorem kh:OpD K false Fc Fb:=by
 intro H0 H x y d e z Q s rx ry ho k;unfold Fc at ho;cases ho':O7 d e with
 | none=>rw [ho'] at ho;cases ho
 | some o=>
  rw [ho'] at ho
  have ho:o=some z:=ho
  subst ho
  obtain ⟨a,w,e0,g,m⟩:=Sk ho' rx ry
  obtain ⟨v,rfl,rv⟩:=m
  subst e0
  refine ⟨a,v,rfl,?_,k _ H (.pure s rv)⟩
  rcases g with ⟨kvs,kk,e1,e2,e3⟩ | ⟨kvs,kk,b,e1,e2,e3,e4⟩
  . refine .inl ⟨kvs,kk,?_,e2,e3⟩;rcases e1 with e1 | ⟨o,e1⟩
    . exact .inl (s _ _ e1)
    . exact .inr ⟨o,s _ _ e1⟩
  . refine .inr ⟨kvs,kk,b,?_,e2,s _ _ e3,e4⟩;rcases e1 with e1 | ⟨o,e1⟩
    . exact .inl (s _ _ e1)
    . exact .inr ⟨o,s _ _ e1⟩
theorem od_ixS:OpD K false y8 (rIx K):=by
 intro H0 H x y d e z Q s rx ry ho k;cases d<;>simp only [y8] at ho<;>first | cases ho | skip
 . -- a text
   cases e<;>simp only [y8] at ho<;>first | cases ho | skip
   cases rx.str;cases ry.int;split at ho
   . rename_i z' i hl;cases hc:atI z'.cps.toList i with
     | none=>rw [hc] at ho;cases ho
     | some c=>
      rw [hc] at ho;cases ho
      exact .inr (.inr ⟨z',i,c,rfl,rfl,Bz hl,hc,k _ H (.pure s (.mkStr _))⟩)
   . cases ho
 . cases e<;>simp only [y8] at ho<;>first | cases ho | skip
   obtain ⟨a,xs,rfl,ha,ra⟩:=rx.tup;cases ry.int;obtain ⟨v,hv,rv⟩:=ra.atI ho;exact .inr (.inl ⟨a,xs,_,v,rfl,rfl,.of (s _ _ ha),hv,k _ H (.pure s rv)⟩)
 . cases e<;>simp only [y8] at ho<;>first | cases ho | skip
   obtain ⟨a,xs,rfl,ha,ra⟩:=rx.lst;cases ry.int;obtain ⟨v,hv,rv⟩:=ra.atI ho;exact .inl ⟨a,xs,_,v,rfl,rfl,.of (s _ _ ha),hv,k _ H (.pure s rv)⟩
 . cases e<;>simp only [y8] at ho<;>first | cases ho | skip
   rename_i ns i;cases ry.int;obtain ⟨a,rfl,ha⟩:=(rx.mono s).scr;cases hc:atI ns i with
   | none=>rw [hc] at ho;cases ho
   | some c=>
    rw [hc] at ho;cases ho
    exact .inl ⟨a,_,i,.int c,rfl,rfl,ha,by rw [vv,hc];rfl,k _ H (.pure s (.mkInt _))⟩
def dIx:D->D->Option D:=dOr y8 Fc
def Xw (K:Frag):R2:=fun x y H Q=>rIx K x y H Q\/Fb x y H Q
theorem y38 (hu:X.A.units+64<cLine):IxR X (Xw X.K):=ix_seq.or (vt hu)
theorem Ze:OpD K false dIx (Xw K):=od_ixS.or kh
end
structure QE (X:Cx) (EX:XW) (fr:Bool) (e:Expr) (f:DE->R D):Prop where
 h:PE X e (TEd X.K EX fr f)
structure QT (X:Cx) (EX:XW) (e:Expr) (t:DE->R Bool):Prop where
 h:PT X e (TTd X.K EX t)
structure QW (X:Cx) (EX:XW) (e:Expr) (t:DE->R Bool):Prop where
 h:PW X e (TTd X.K EX t)
structure QA (X:Cx) (EX:XW) (es:List Expr) (f:DE->R (List D)):Prop where
 h:PA X es (TAd X.K EX f)
structure QI (X:Cx) (EX:XW) (kp:Bool) (tg e:Expr) (f:DE->R (List D)):Prop where
 h:PI X tg e (TId X.K EX kp f)
structure QG (X:Cx) (tg:Expr) (t:Tg):Prop where
 h:PG X tg (TGd X.K t)
structure QGs (X:Cx) (ts:List Expr) (is:List Nat):Prop where
 h:PGs X ts (Dc is)
structure QS (X:Cx) (EX:XW) (fr:Bool) (st:Stmt) (g:DS->SR):Prop where
 h:PS X st (TSd X.K EX fr g)
structure QB (X:Cx) (EX:XW) (fr:Bool) (sts:List Stmt) (g:DS->SR):Prop where
 h:PSs X sts (TSd X.K EX fr g)
structure QC (X:Cx) (EX:XW) (ops:List CmpOp) (rs:List Expr) (g:D->DE->R D):Prop where
 h:PCh X ops rs (X4 X.K EX g)
section
variable {X:Cx} {EX:XW} {fr:Bool} {a b c e:Expr} {es rest:List Expr} {fa fb:DE->R D} {fs:DE->R (List D)} {t u:DE->R Bool} {pos p:Pos} {x:Str}
theorem PA.imp {es:List Expr} {t t':TA} (h:PA X es t) (hi:∀U H Q,t' U H Q->t U H Q):PA X es t':=fun pos pins s U H Q I q=>h pos pins s U H Q I (hi U H Q q)
theorem PW.imp {e:Expr} {t t':TT} (h:PW X e t) (hi:∀U H Q,t' U H Q->t U H Q):PW X e t':=fun wh pins s U H Q I q=>h wh pins s U H Q I (hi U H Q q)
theorem PI.imp {tg e:Expr} {t t':TI} (h:PI X tg e t) (hi:∀U H Q,t' U H Q->t U H Q):PI X tg e t':=fun pins s U H Q I q=>h pins s U H Q I (hi U H Q q)
theorem PS.imp {st:Stmt} {t t':TS} (h:PS X st t) (hi:∀D U H,t' D U H->t D U H):PS X st t':=fun pins s U H D I q=>h pins s U H D I (hi D U H q)
theorem PSs.imp {st:List Stmt} {t t':TS} (h:PSs X st t) (hi:∀D U H,t' D U H->t D U H):PSs X st t':=fun pins s U H D I q=>h pins s U H D I (hi D U H q)
theorem QE.wk (h:QE X EX true e f):QE X EX false e f:=⟨h.h.imp fun _ _ _ q=>q.weak⟩
theorem qv (i:Nat) (hN:X.N[i]?=some x:=by rfl) (hv:Vis X.env.scope x:=by first | exact .inl rfl | exact .inr (.inl rfl) | exact .inr (.inr rfl)) (hd:(x==("__debug__":Str))=false:=by decide)
 (hcd:(x==("__classdict__":Str))=false:=by decide):QE X EX false (.Name x pos) (a5 i):=⟨(K4 hN hv hd hcd).imp fun U H Q q=>Zr q⟩
theorem a9:QE X EX false (.Constant (.int i) j pos) (eC (.int i)):=⟨pe_int.imp fun U H Q q=>Dt (fun _=>.mkInt i) q⟩
theorem E2:QE X EX false (.Constant (.bool i) j pos) (eC (.bl i)):=⟨pe_bl.imp fun U H Q q=>Dt (fun _=>.mkBl i) q⟩
theorem Gk:QE X EX false (.Constant .none j pos) (eC .non):=⟨pe_non.imp fun U H Q q=>Dt (fun _=>.mkNon) q⟩
theorem m8:QE X EX false (.Constant (.str i) j pos) (eC (.str i)):=⟨pe_str.imp fun U H Q q=>Dt (fun _=>.mkStr i) q⟩
theorem c7 (ho:OpR X (binaryOp op) r) (od:OpD X.K fr o r) (ha:QE X EX false a fa) (hb:QE X EX false b fb):QE X EX fr (.BinOp a op b pos) (eOp o fa fb):=⟨(jc ho ha.h hb.h).imp fun _ _ _ q=>Ca od q⟩
theorem Q6 (ho:UnR X (unaryOp op) r) (od:UnD X.K fr o r) (ha:QE X EX false a fa):QE X EX fr (.UnaryOp op a pos) (eUn o fa):=⟨(jb ho ha.h).imp fun _ _ _ q=>y2z od q⟩
theorem n5 (ho:OpR X (compareOp op) r) (od:OpD X.K false o r) (ha:QE X EX false a fa) (hb:QE X EX false b fb) (hm:behindInMarks op b=false) :
 QE X EX false (.Compare a [op] [b] pos) (eOp o fa fb):=⟨(vV ho ha.h hb.h hm).imp fun _ _ _ q=>Ca od q⟩
theorem y39 (ho:IxR X r) (od:OpD X.K false o r) (ha:QE X EX false a fa) (hb:QE X EX false b fb) (hs:Du b:=by exact fun _ _=>rfl):QE X EX false (.Subscript a b pos) (eOp o fa fb):=⟨(Ox ho ha.h hb.h hs).imp fun _ _ _ q=>Ca od q⟩
theorem b6:QA X EX [] a8:=⟨pa_nil.imp fun _ _ _ q=>Ol q⟩
theorem a7 (ha:QE X EX false e fa) (hr:QA X EX es fs) (hs:starEach (e::es) X.env=(false,eval e X.env)::starEach es X.env:=by rfl):QA X EX (e::es) (a6 fa fs):=⟨(P6 ha.h hr.h hs).imp fun _ _ _ q=>Hz q⟩
theorem i7 (h:QA X EX es fs):QE X EX false (.Tuple es x1 pos) (e9 fs):=⟨(kS h.h).imp fun _ _ _ q=>Zq q⟩
theorem v5 (h:QA X EX es fs):QE X EX true (.List es pos) (k7 fs):=⟨(kR h.h).imp fun _ _ _ q=>Zp q⟩
theorem Zd (hc:QT X EX c t) (ha:QE X EX fr a fa) (hb:QE X EX fr b fb):QE X EX fr (.IfExp c a b pos) (eIf t fa fb):=⟨(xL hc.h ha.h hb.h).imp fun _ _ _ q=>y30 q⟩
theorem r6 (ha:QE X EX false a fa) (hb:QE X EX false (.BoolOp .And (b::rest) pos) fb):QE X EX false (.BoolOp .And (a::b::rest) pos) (o4 fa fb):=⟨(vL ha.h hb.h).imp fun _ _ _ q=>Zn q⟩
theorem Fa (ha:QE X EX false a fa) (hb:QE X EX false (.BoolOp .Or (b::rest) pos) fb):QE X EX false (.BoolOp .Or (a::b::rest) pos) (eOr fa fb):=⟨(kI ha.h hb.h).imp fun _ _ _ q=>y33 q⟩
theorem B9 (h:QE X EX false a fa):QE X EX false (.BoolOp op [a] pos) fa:=⟨kX h.h⟩
noncomputable def j9:D->Option Bool
 | .bl b=>some b
 | .int i=>some (i != 0)
 | .non=>some false
 | .str z=>if z.length<=100000 then some ((z.length:Int) != 0) else none
 | .lst ds=>some (!ds.isEmpty)
 | .tup ds=>some (!ds.isEmpty)
 | .dk ks _=>some (!ks.isEmpty)
 | _=>none
theorem Me {α β:Type} {xs:List α} {ys:List β} (h:xs.length=ys.length):xs.isEmpty=ys.isEmpty:=by cases xs<;>cases ys<;>first | rfl | simp at h
theorem Qm {K:Frag}:Fi K j9 M5:=by
 intro H0 H x d b Q s rx ht q;cases d<;>simp only [j9] at ht<;>first | cases ht | skip
 . cases rx.non;exact q
 . cases rx.bl;exact q
 . cases rx.int;exact q
 . split at ht<;>cases ht;rename_i h;cases rx.str;exact ⟨Bz h,q⟩
 . obtain ⟨p,xs,rfl,hp,r⟩:=rx.tup;unfold M5;dsimp only;rw [Uz (s _ _ hp)];rw [Me r.length] at q;exact q
 . obtain ⟨p,xs,rfl,hp,r⟩:=rx.lst;unfold M5;dsimp only;rw [Va (s _ _ hp)];rw [Me r.length] at q;exact q
 . rename_i ks es;obtain ⟨p,xs,rfl,hp,hl,r⟩:=rx.dk;unfold M5;dsimp only;have e:D7 H p=none:=by unfold D7;rw [s _ _ hp]
   rw [e];dsimp only;rw [s _ _ hp];dsimp only;rw [Me (show ks.length=(List.zip ks xs).length by rw [List.length_zip,<-hl,Nat.min_self])] at q;exact q
theorem Da (ha:QE X EX false a fa):QE X EX false (.UnaryOp .Not a pos) (eUn (fun d=>(j9 d).map fun b=>.bl (!b)) fa):=⟨(vK ha.h).imp fun _ _ _ q=>kA Qm q⟩
theorem v8 (ha:QE X EX false a fa) (he:∀whole,isTrue a X.env whole=(do let v <-whole;standAt a.pos;holding [v] (truthy v)):=by intro _;rfl):QT X EX a (c6 j9 fa):=⟨(kK ha.h he).imp fun _ _ _ q=>Zm Qm q⟩
theorem v4 (ho:OpR X (compareOp op) r) (od:OpD X.K false o r) (ha:QE X EX false a fa) (hb:QE X EX false b fb) (hm:behindInMarks op b=false) :
 QT X EX (.Compare a [op] [b] pos) (c6 asB (eOp o fa fb)):=⟨(vM ho ha.h hb.h hm).imp fun _ _ _ q=>Zl od q⟩
theorem QW.pt (h:QW X EX a t):QT X EX a t:=⟨h.h.pt⟩
theorem B8 (ha:QT X EX a t):QT X EX (.UnaryOp .Not a pos) (v0 t):=⟨(kY ha.h).imp fun _ _ _ q=>kB q⟩
theorem Z8 (ha:QT X EX a t):QW X EX (.BoolOp .And [a] pos) t:=⟨vW ha.h⟩
theorem M4 (ha:QT X EX a t):QW X EX (.BoolOp .Or [a] pos) t:=⟨qa ha.h⟩
theorem S7 (ha:QT X EX a t) (hb:QW X EX (.BoolOp .And (b::rest) pos) u):QW X EX (.BoolOp .And (a::b::rest) pos) (z5 t u):=⟨(kZ ha.h hb.h).imp fun _ _ _ q=>kC q⟩
theorem D4 (ha:QT X EX a t) (hb:QW X EX (.BoolOp .Or (b::rest) pos) u):QW X EX (.BoolOp .Or (a::b::rest) pos) (bOr t u):=⟨(jd ha.h hb.h).imp fun _ _ _ q=>Zo q⟩
theorem PCh.imp {ops:List CmpOp} {rs:List Expr} {t t':V->TE} (h:PCh X ops rs t) (hi:∀x U H Q,t' x U H Q->t x U H Q):PCh X ops rs t':=fun pos pins s U H x v Q I r q=>h pos pins s U H x v Q I r (hi x U H Q q)
variable {g:D->DE->R D} {op op':CmpOp} {ops:List CmpOp} {r:R2} {o:D->D->Option D} {r':Expr} {rs:List Expr}
theorem Z7 (ho:OpR X (compareOp op) r) (od:OpD X.K false o r) (hb:QE X EX false b fb):QC X EX [op] [b] (M6 o fb):=⟨(xD ho hb.h).imp fun _ _ _ _ q=>kz od q⟩
theorem N0 (ho:OpR X (compareOp op) r) (od:OpD X.K false o r) (hb:QE X EX false b fb) (hr:QC X EX (op'::ops) (r'::rs) g):QC X EX (op::op'::ops) (b::r'::rs) (E8 o fb g):=⟨(xC ho hb.h hr.h).imp fun _ _ _ _ q=>ku od q⟩
theorem Y8 (ha:QE X EX false a fa) (hr:QC X EX (op₁::op₂::ops) (r₁::r₂::rs) g) (hm:lastMarks (op₁::op₂::ops) (r₁::r₂::rs)=false:=by with_unfolding_all rfl) :
 QE X EX false (.Compare a (op₁::op₂::ops) (r₁::r₂::rs) pos) (M1 fa g):=⟨(kJ ha.h hr.h hm).imp fun _ _ _ q=>Zk q⟩
theorem y6 {id:String} {rr:List V->Hp->VK->Prop} {m:List D->Option D} (hc:CallR X (.builtin id) rr) (od:x3 X.K fr m rr) (hg:Gl X x) (hm:X.mg x=none) (hv:bootBuiltins x=some (.builtin id)) (ha:QA X EX (e::es) fs) (hn:x≠"__name__":=by decide) (hdb:(x==("__debug__":Str))=false:=by decide)
 (he:starEach (e::es) X.env=(false,eval e X.env)::starEach es X.env:=by rfl) (hpl:(backTo pos (starEach es X.env)).any (·.1)=false:=by rfl):QE X EX fr (.Call (.Name x p) (e::es) [] pos) (eCB m fs):=⟨(Kt hc hg hm hv ha.h hn hdb he hpl).imp fun _ _ _ q=>Fh od q⟩
theorem J4 (hc:CallR X (.type T) rr) (od:x3 X.K fr m rr) (hg:Gl X x) (hm:X.mg x=none) (hv:bootBuiltins x=some (.type T)) (ha:QA X EX (e::es) fs) (hn:x≠"__name__":=by decide) (hdb:(x==("__debug__":Str))=false:=by decide)
 (he:starEach (e::es) X.env=(false,eval e X.env)::starEach es X.env:=by rfl) (hpl:(backTo pos (starEach es X.env)).any (·.1)=false:=by rfl):QE X EX fr (.Call (.Name x p) (e::es) [] pos) (eCB m fs):=⟨(yo hc hg hm hv ha.h hn hdb he hpl).imp fun _ _ _ q=>Fh od q⟩
theorem i5 (L:Lnd X EX) (G:i6 X.prog X.w X.K X.mg X.base x ps k (spD X.K X.mg fr (mOf fr n kk gg) n)) (hr:Room j X.A) (hg:Gl X x) (ha:QA X EX (e::es) fs) (hkj:k<=j:=by omega) (hdb:(x==("__debug__":Str))=false:=by decide)
 (he:starEach (e::es) X.env=(false,eval e X.env)::starEach es X.env:=by rfl) (hpl:(backTo pos (starEach es X.env)).any (·.1)=false:=by rfl):QE X EX fr (.Call (.Name x p) (e::es) [] pos) (e8 (mOf fr n kk gg) fs):=⟨(Ju G L.on hr hg ha.h hkj hdb he hpl).imp fun _ _ _ q=>Qn Do (fun x H z=>by obtain ⟨C,hC⟩:=L.nm x H z;exact ⟨C,hC,fun od xf=>⟨x,z,hC,xf⟩⟩) q⟩
end
noncomputable def C6:D->String
 | .non=>"NoneType"
 | .bl _=>"bool"
 | .int _=>"int"
 | .str _=>"str"
 | .tup _=>"tuple"
 | .lst _=>"list"
 | .dk _ _=>"dict"
 | .dt _ _=>"dict"
 | .dn _ _=>"?"
 | .scr _=>"?"
 | .exc _ _=>"?"
def k9 (c:String):D->Option D:=fun d=>if E6 c=true/\C6 d≠"?" then some (.bl (E4 (C6 d) c)) else none
theorem vq {K:Frag} {H:Hp} {d:D} {v:V} (h:C6 d≠"?") (r:RD K H d v):J5 H v=some (C6 d):=by
 cases d
 . cases r.non;rfl
 . cases r.bl;rfl
 . cases r.int;rfl
 . cases r.str;rfl
 . obtain ⟨a,xs,rfl,ha,_⟩:=r.tup;simp only [J5,ha,C6]
 . obtain ⟨a,xs,rfl,ha,_⟩:=r.lst;simp only [J5,ha,C6]
 . obtain ⟨a,xs,rfl,ha,_⟩:=r.dk;simp only [J5,ha,C6]
 . obtain ⟨a,xs,rfl,ha,_⟩:=r.dt;simp only [J5,ha,C6]
 . exact absurd rfl h
 . exact absurd rfl h
 . exact absurd rfl h
theorem Zc {K:Frag} {EX:XW} {U:St} {H:Hp} {Q:VK} {c:String} {f:DE->R D} (h:TEd K EX false (eUn (k9 c) f) U H Q):tCB Cb (G1 (TEd K EX false f) (G1 (tC (.ty c)) X7)) U H Q:=by
 obtain ⟨sx,ρ,H0,s,e,h⟩:=h;unfold eUn at h;rw [Rk.bind] at h;refine TEd.go sx s e h fun d h v H1 H1' s1 e1 r1=>?_
 obtain ⟨z,hz,h⟩:=h.of;unfold k9 at hz;split at hz<;>cases hz;rename_i hc;show Cb [v,.ty c] H1 Q;rw [kF];refine ⟨hc.1,?_⟩;rw [vq hc.2 (r1.mono e1.2.1)];exact h _ H1 (.val s1 e1 (.mkBl _))
theorem G0 (hg:Gl X x) (hm:X.mg x=none) (hv:bootBuiltins x=some (.builtin "isinstance")) (ha:QE X EX false a f) (hb:PE X b (tC (.ty c))) (hn:x≠"__name__":=by decide) (hdb:(x==("__debug__":Str))=false:=by decide)
 (he:starEach [a,b] X.env=(false,eval a X.env)::starEach [b] X.env:=by rfl) (hpl:(backTo pos (starEach [b] X.env)).any (·.1)=false:=by rfl) (hs:starEach [b] X.env=(false,eval b X.env)::starEach [] X.env:=by rfl) :
 QE X EX false (.Call (.Name x p) [a,b] [] pos) (eUn (k9 c) f):=⟨(Kt Zu hg hm hv (P6 ha.h (P6 hb pa_nil hs) he) hn hdb he hpl).imp fun _ _ _ q=>Zc q⟩
noncomputable def v9:List D->Option (List Int)
 | []=>some []
 | .int i::ds=>(v9 ds).map (i::·)
 | _::_=>none
noncomputable def F1:List D->Option (List Bool)
 | []=>some []
 | .bl i::ds=>(F1 ds).map (i::·)
 | _::_=>none
theorem Lu:∀(ns:List Int),v9 (ns.map D.int)=some ns
 | []=>rfl
 | n::ns=>by simp [v9,Lu ns]
theorem Md:∀(ns:List Bool),F1 (ns.map D.bl)=some ns
 | []=>rfl
 | n::ns=>by simp [F1,Md ns]
theorem V6 {K:Frag} {H:Hp}:∀{ds:List D} {ns:List Int} {xs:List V},v9 ds=some ns->RDs K H ds xs->xs=ns.map V.int
 | [],ns,xs,h,r=>by simp only [v9] at h;cases h;simp only [RDs] at r;subst r;rfl
 | d::ds,ns,xs,h,r=>by
  simp only [RDs] at r;obtain ⟨x,xs,rfl,r1,r2⟩:=r;cases d<;>simp only [v9] at h<;>first | cases h | skip
  cases q:v9 ds with
  | none=>rw [q] at h;cases h
  | some ms=>
   rw [q] at h;cases h
   cases r1.int
   rw [V6 q r2];rfl
theorem Ls {K:Frag} {H:Hp}:∀{ds:List D} {ns:List Bool} {xs:List V},F1 ds=some ns->RDs K H ds xs->xs=ns.map V.bl
 | [],ns,xs,h,r=>by simp only [F1] at h;cases h;simp only [RDs] at r;subst r;rfl
 | d::ds,ns,xs,h,r=>by
  simp only [RDs] at r;obtain ⟨x,xs,rfl,r1,r2⟩:=r;cases d<;>simp only [F1] at h<;>first | cases h | skip
  cases q:F1 ds with
  | none=>rw [q] at h;cases h
  | some ms=>
   rw [q] at h;cases h
   cases r1.bl
   rw [Ls q r2];rfl
noncomputable def j4:List D->Option D
 | [.lst ds]=>some (.int ds.length)
 | [.tup ds]=>some (.int ds.length)
 | [.dk ks _]=>some (.int ks.length)
 | [.scr ns]=>some (.int ns.length)
 | [.str z]=>if z.length<=100000 then some (.int z.length) else none
 | _=>none
def F8:List D->Option D
 | [.lst ds]=>(v9 ds).map fun ns=>.int ns.sum
 | [.tup ds]=>(v9 ds).map fun ns=>.int ns.sum
 | _=>none
def Q5:List D->Option D
 | [.lst ds]=>(F1 ds).map fun bs=>.bl (bs.all id)
 | _=>none
def X1:List D->Option D
 | [.lst ds]=>(F1 ds).map fun bs=>.bl (bs.any id)
 | _=>none
noncomputable def Hg:List D->Option D
 | [.int i,.int j]=>some (.int (if j > i then j else i))
 | _=>none
noncomputable def Hf:List D->Option D
 | [.int i,.int j]=>some (.int (if j<i then j else i))
 | _=>none
noncomputable def O2:List D->Option D
 | [.int i]=>some (.int i)
 | [.bl b]=>some (.int (if b then 1 else 0))
 | _=>none
noncomputable def F9:List D->Option D
 | [.lst ds]=>some (.lst ds)
 | [.tup ds]=>some (.lst ds)
 | [.scr ns]=>some (.lst (ns.map .int))
 | _=>none
noncomputable def P4:List D->Option D
 | [.lst ds]=>some (.tup ds)
 | [.tup ds]=>some (.tup ds)
 | _=>none
section
variable {X:Cx} {K:Frag}
theorem RDs.uno (h:RDs K H [d] xs):∃x,xs=[x]/\RD K H d x:=by simp only [RDs] at h;obtain ⟨x,r,rfl,h1,rfl⟩:=h;exact ⟨x,rfl,h1⟩
theorem RDs.duo (h:RDs K H [d,e] xs):∃x y,xs=[x,y]/\RD K H d x/\RD K H e y:=by simp only [RDs] at h;obtain ⟨x,r,rfl,h1,y,r',rfl,h2,rfl⟩:=h;exact ⟨x,y,rfl,h1,h2⟩
def Oe (K:Frag):List V->Hp->VK->Prop:=fun xs H Q=>(∃p ys,xs=[.ref p]/\(SqL K H p ys\/SqT K H p ys)/\Q (.int ys.length) H)\/(∃a kvs,xs=[V.ref a]/\H a=some (.dK kvs)/\Q (.int kvs.length) H)\/∃z,xs=[.str z]/\z.length<=sizeLine/\Q (.int z.length) H
theorem kg:CallR X (.builtin "len") (Oe X.K):=call_len_seq.or (call_lenD.or zC)
theorem kf:x3 K false j4 (Oe K):=by
 intro H0 H xs ds z Q s r ho k;unfold j4 at ho;split at ho<;>first | cases ho | skip
 . obtain ⟨x,rfl,q1⟩:=r.uno;obtain ⟨a,ys,rfl,ha,ra⟩:=q1.lst;exact .inl ⟨a,ys,rfl,.inl (.of (s _ _ ha)),by rw [<-ra.length];exact k _ H (.pure s (.mkInt _))⟩
 . obtain ⟨x,rfl,q1⟩:=r.uno;obtain ⟨a,ys,rfl,ha,ra⟩:=q1.tup;exact .inl ⟨a,ys,rfl,.inr (.of (s _ _ ha)),by rw [<-ra.length];exact k _ H (.pure s (.mkInt _))⟩
 . obtain ⟨x,rfl,q1⟩:=r.uno;obtain ⟨a,ys,rfl,ha,hl,ra⟩:=q1.dk;refine .inr (.inl ⟨a,_,rfl,s _ _ ha,?_⟩);rw [List.length_zip,<-hl,Nat.min_self];exact k _ H (.pure s (.mkInt _))
 . obtain ⟨x,rfl,q1⟩:=r.uno;obtain ⟨a,rfl,ha⟩:=(q1.mono s).scr;exact .inl ⟨a,_,rfl,.inl ha,by rw [List.length_map];exact k _ H (.pure s (.mkInt _))⟩
 . split at ho<;>cases ho;rename_i h;obtain ⟨x,rfl,q1⟩:=r.uno;cases q1.str;exact .inr (.inr ⟨_,rfl,Bz h,k _ H (.pure s (.mkInt _))⟩)
theorem ke:x3 K false F8 Gr:=by
 intro H0 H xs ds z Q s r ho k;unfold F8 at ho;split at ho<;>first | cases ho | skip
 . obtain ⟨x,rfl,q1⟩:=r.uno;obtain ⟨a,ys,rfl,ha,ra⟩:=q1.lst;rename_i es;cases q:v9 es with
   | none=>rw [q] at ho;cases ho
   | some ns=>
    rw [q] at ho;cases ho
    rw [Sq]
    exact ⟨ns,by rw [<-V6 q ra];exact Va (s _ _ ha),k _ H (.pure s (.mkInt _))⟩
 . obtain ⟨x,rfl,q1⟩:=r.uno;obtain ⟨a,ys,rfl,ha,ra⟩:=q1.tup;rename_i es;cases q:v9 es with
   | none=>rw [q] at ho;cases ho
   | some ns=>
    rw [q] at ho;cases ho
    rw [Sq]
    exact ⟨ns,by rw [<-V6 q ra];exact Uz (s _ _ ha),k _ H (.pure s (.mkInt _))⟩
theorem Ql:x3 K false Q5 Gq:=by
 intro H0 H xs ds z Q s r ho k;unfold Q5 at ho;split at ho<;>first | cases ho | skip
 obtain ⟨x,rfl,q1⟩:=r.uno;obtain ⟨a,ys,rfl,ha,ra⟩:=q1.lst;rename_i es;cases q:F1 es with
 | none=>rw [q] at ho;cases ho
 | some ns=>
  rw [q] at ho;cases ho
  rw [vF]
  exact ⟨ns,by rw [<-Ls q ra];exact .inl (s _ _ ha),k _ H (.pure s (.mkBl _))⟩
theorem kc:x3 K false X1 Gp:=by
 intro H0 H xs ds z Q s r ho k;unfold X1 at ho;split at ho<;>first | cases ho | skip
 obtain ⟨x,rfl,q1⟩:=r.uno;obtain ⟨a,ys,rfl,ha,ra⟩:=q1.lst;rename_i es;cases q:F1 es with
 | none=>rw [q] at ho;cases ho
 | some ns=>
  rw [q] at ho;cases ho
  rw [vE]
  exact ⟨ns,by rw [<-Ls q ra];exact .inl (s _ _ ha),k _ H (.pure s (.mkBl _))⟩
theorem vp:x3 K false Hg Go:=by
 intro H0 H xs ds z Q s r ho k;unfold Hg at ho;split at ho<;>first | cases ho | skip
 obtain ⟨x,y,rfl,r1,r2⟩:=r.duo;cases r1.int;cases r2.int;rw [vD];exact k _ H (.pure s (.mkInt _))
theorem vo:x3 K false Hf Gn:=by
 intro H0 H xs ds z Q s r ho k;unfold Hf at ho;split at ho<;>first | cases ho | skip
 obtain ⟨x,y,rfl,r1,r2⟩:=r.duo;cases r1.int;cases r2.int;rw [vC];exact k _ H (.pure s (.mkInt _))
theorem Hv:x3 K false O2 On:=by
 intro H0 H xs ds z Q s r ho k;unfold O2 at ho;split at ho<;>first | cases ho | skip
 . obtain ⟨x,rfl,q1⟩:=r.uno;cases q1.int;exact k _ H (.pure s (.mkInt _))
 . obtain ⟨x,rfl,q1⟩:=r.uno;cases q1.bl;exact k _ H (.pure s (.mkInt _))
def Qk (K:Frag):List V->Hp->VK->Prop:=fun xs H Q=>∃p ys,xs=[.ref p]/\(SqL K H p ys\/SqT K H p ys)/\∀l,H l=none->Q (.ref l) (upd H l (.lst ys))
theorem Js:CallR X (.type "list") (Qk X.K):=zB
theorem Jr:x3 K true F9 (Qk K):=by
 intro H0 H xs ds z Q s r ho k;have fin:∀{p:Addr} {ys:List V} {es:List D},RDs K H0 es ys->z=.lst es->H p=none->Q (.ref p) (upd H p (.lst ys)):=fun {p ys es} re e hp=>by subst e;refine k _ _ (.new s hp fun H' hH=>?_);simp only [OB];exact ⟨_,hH,re⟩
 unfold F9 at ho;split at ho<;>first | cases ho | skip
 . obtain ⟨x,rfl,q1⟩:=r.uno;obtain ⟨a,ys,rfl,ha,ra⟩:=q1.lst;exact ⟨a,ys,rfl,.inl (.of (s _ _ ha)),fun l hl=>fin ra rfl hl⟩
 . obtain ⟨x,rfl,q1⟩:=r.uno;obtain ⟨a,ys,rfl,ha,ra⟩:=q1.tup;exact ⟨a,ys,rfl,.inr (.of (s _ _ ha)),fun l hl=>fin ra rfl hl⟩
 . obtain ⟨x,rfl,q1⟩:=r.uno;obtain ⟨a,rfl,ha⟩:=(q1.mono s).scr;exact ⟨a,_,rfl,.inl ha,fun l hl=>fin (RDs.ofInts _) rfl hl⟩
def Sj (K:Frag):List V->Hp->VK->Prop:=fun xs H Q=>∃p ys,xs=[.ref p]/\((SqL K H p ys/\∀l,H l=none->Q (.ref l) (upd H l (.tup ys)))\/(SqT K H p ys/\Q (.ref p) H))
theorem Km:CallR X (.type "tuple") (Sj X.K):=zL
theorem Kl:x3 K false P4 (Sj K):=by
 intro H0 H xs ds z Q s r ho k;unfold P4 at ho;split at ho<;>first | cases ho | skip
 . obtain ⟨x,rfl,q1⟩:=r.uno;obtain ⟨a,ys,rfl,ha,ra⟩:=q1.lst;refine ⟨a,ys,rfl,.inl ⟨.of (s _ _ ha),fun l hl=>k _ _ (.val (Same.upd_new hl) (.new s hl) (.mkTup i8 (ra.mono (Same.upd_new (s.none hl)))))⟩⟩
 . obtain ⟨x,rfl,q1⟩:=r.uno;obtain ⟨a,ys,rfl,ha,ra⟩:=q1.tup;exact ⟨a,ys,rfl,.inr ⟨.of (s _ _ ha),k _ H (.pure s (.mkTup ha ra))⟩⟩
end
noncomputable def y0 {α:Type} (xs:List α) (lo hi:Option Int):List α:=(xs.drop (HT.sIx xs.length 0 lo)).take (HT.sIx xs.length xs.length hi - HT.sIx xs.length 0 lo)
def dSl:D->Option Int->Option Int->Option D
 | .lst ds,lo,hi=>some (.lst (y0 ds lo hi))
 | .scr ns,lo,hi=>some (.lst ((y0 ns lo hi).map .int))
 | _,_,_=>none
noncomputable def TOd (K:Frag) (EX:XW) (f:DE->R (Option Int)):TO:=fun U H Q=>Same EX.hb H/\∃ρ H0,Same H0 H/\RE K H0 ρ U/\Rk EX.at (f ρ) fun o=>∀H',Same H H'->Q o H'
noncomputable def oNo:DE->R (Option Int):=fun _=>.ok none
def oSo (f:DE->R D):DE->R (Option Int):=fun ρ=>(f ρ).bind fun d=>R.of (match d with | .int i=>some (some i) | _=>none)
def eSl (o:D->Option Int->Option Int->Option D) (f:DE->R D) (fl fh:DE->R (Option Int)):DE->R D:=fun ρ=>(f ρ).bind fun d=>(fl ρ).bind fun lo=>(fh ρ).bind fun hi=>R.of (o d lo hi)
def SlD (K:Frag) (fr:Bool) (o:D->Option Int->Option Int->Option D) (r:V->Option Int->Option Int->Hp->VK->Prop):Prop:=∀(H0 H:Hp) (x:V) (d z:D) (lo hi:Option Int) (Q:VK),Same H0 H->RD K H0 d x->o d lo hi=some z->(∀v H',Out K fr H0 H z v H'->Q v H')->r x lo hi H Q
section
variable {X:Cx} {K:Frag} {EX:XW} {fr:Bool} {U:St} {H:Hp} {Q:VK}
structure QO (X:Cx) (EX:XW) (e:Option Expr) (f:DE->R (Option Int)):Prop where
 h:PO X e (TOd X.K EX f)
theorem PO.imp (h:PO X e t) (hi:∀U H Q,t' U H Q->t U H Q):PO X e t':=fun pins s U H Q I q=>h pins s U H Q I (hi U H Q q)
theorem Ez:QO X EX none oNo:=⟨po_none.imp fun U H Q ⟨sx,ρ,H0,s,e,h⟩=>h H (Same.refl _)⟩
theorem O1 (he:QE X EX false e f):QO X EX (some e) (oSo f):=⟨(vQ he.h).imp fun U H Q ⟨sx,ρ,H0,s,e,h⟩=>by
 unfold oSo at h;rw [Rk.bind] at h;refine TEd.go sx s e h fun d h v H1 H1' s1 e1 r1=>?_
 obtain ⟨o,ho,h⟩:=h.of;cases d<;>dsimp only at ho<;>first | cases ho | skip
 cases r1.int;exact ⟨_,rfl,h H1 s1⟩⟩
theorem y3a (hs:SlD K fr o r) (h:TEd K EX fr (eSl o f fl fh) U H Q):tSl r (TEd K EX false f) (TOd K EX fl) (TOd K EX fh) U H Q:=by
 obtain ⟨sx,ρ,H0,s,e,h⟩:=h;unfold eSl at h;rw [Rk.bind] at h;refine TEd.go sx s e h fun d h v H1 H1' s1 e1 r1=>?_
 rw [Rk.bind] at h;refine ⟨sx.trans s1,ρ,H1',e1.2.1,e.mono e1.1,h.mono fun lo h H2 s2=>?_⟩;rw [Rk.bind] at h;refine ⟨(sx.trans s1).trans s2,ρ,H1',e1.2.1.trans s2,e.mono e1.1,h.mono fun hi h H3 s3=>?_⟩;obtain ⟨z,hz,h⟩:=h.of;exact hs H1' H3 v d z lo hi Q (e1.2.1.trans (s2.trans s3)) r1 hz fun w H4 o=>h w H4 (o.after (s1.trans (s2.trans s3)) (e1.grow (s2.trans s3)))
theorem RDs.cut (r:RDs K H ds xs) (lo hi:Option Int):RDs K H (y0 ds lo hi) (R4 xs lo hi):=by unfold y0 R4;rw [<-r.length];exact (r.drop _).take _
theorem Ak:SlD K true dSl (Yn K):=by
 intro H0 H x d z lo hi Q s r ho k;cases d<;>simp only [dSl] at ho<;>first | cases ho | skip
 . obtain ⟨a,xs,rfl,ha,ra⟩:=r.lst;refine ⟨a,xs,rfl,.of (s _ _ ha),fun p hp=>k _ _ (.new s hp fun H' hH=>?_)⟩;simp only [OB];exact ⟨_,hH,ra.cut lo hi⟩
 . rename_i ns;obtain ⟨a,rfl,ha⟩:=(r.mono s).scr;refine ⟨a,_,rfl,ha,fun p hp=>k _ _ (.new s hp fun H' hH=>?_)⟩;simp only [OB];have e:=(RDs.ofInts (K:=K) (H:=H0) ns).cut lo hi;refine ⟨_,hH,?_⟩;have e2:∀ns:List Int,y0 (ns.map D.int) lo hi=(y0 ns lo hi).map D.int:=fun ns=>by unfold y0;rw [List.length_map,List.map_take,List.map_drop]
   rw [e2] at e;exact e
theorem X0 {o:D->Option Int->Option Int->Option D} {r:V->Option Int->Option Int->Hp->VK->Prop} {e:Expr} {lo hi:Option Expr} {pos p2:Pos} {f:DE->R D} {fl fh:DE->R (Option Int)} (hr:SlR X r) (hs:SlD X.K fr o r) (he:QE X EX false e f) (hl:QO X EX lo fl) (hu:QO X EX hi fh) :
 QE X EX fr (.Subscript e (.Slice lo hi none p2) pos) (eSl o f fl fh):=⟨(xI hr he.h hl.h hu.h).imp fun _ _ _ q=>y3a hs q⟩
end
def iL (f:DE->R D):DE->R (List D):=fun ρ=>(f ρ).bind fun d=>R.of (items d)
noncomputable def zD (lo:Int) (n:Nat):List D:=(List.range n).map fun (i:Nat)=>D.int (lo+i)
def L8 (fs:DE->R (List D)):DE->R (List D):=fun ρ=>(fs ρ).bind fun ds=>R.of (match ds with
 | [.int j]=>if -(2 ^ 62)<=j/\j<2 ^ 62 then some (zD 0 j.toNat) else none
 | _=>none)
def iEn (fs:DE->R (List D)):DE->R (List D):=fun ρ=>(fs ρ).bind fun ds=>R.of (match ds with
 | [.lst es]=>some (((zD 0 es.length).zip es).map fun p=>D.tup [p.1,p.2])
 | _=>none)
section
variable {X:Cx} {K:Frag} {EX:XW} {H0:Hp}
theorem Hu (hS:∀H,Same H0 H->S H) (r:RDs K H0 ds xs):O3 K (ItS S xs) H0 ds:=by have hl:=r.length;refine ⟨fun i d e H H1 s1 s2=>⟨⟨hS H (s1.trans s2),by rw [<-hl];exact (List.getElem?_eq_some_iff.mp e).1⟩,fun x H' ⟨e1,e2⟩=>?_⟩,fun H s=>⟨hS H s,by rw [hl];exact ζ _⟩⟩;subst e1;obtain ⟨x',q1,q2⟩:=r.get' e;rw [q1] at e2;cases e2;exact ⟨Same.refl _,H1,.refl s2,q2.mono s1⟩
theorem Od (lo:Int) (n:Nat):RDs K H0 (zD lo n) (D5 lo n):=by
 have:∀l:List Nat,RDs K H0 (l.map fun (i:Nat)=>D.int (lo+i)) (l.map fun (i:Nat)=>V.int (lo+i)):=by
  intro l;induction l with
  | nil=>simp [RDs]
  | cons a l ih=>exact .cons (.mkInt _) ih
 exact this _
theorem C5 (hl:QE X EX false l f):QI X EX false tg l (iL f):=⟨(kH hl.h).imp fun U H Q ⟨sx,ρ,H0,s,e,h⟩=>by
 unfold iL at h;rw [Rk.bind] at h;refine TEd.go sx s e h fun d h v H1 H1' s1 e1 r1=>?_
 obtain ⟨ds,hd,h⟩:=h.of;cases d<;>simp only [items] at hd<;>first | cases hd | skip
 . obtain ⟨a,xs,rfl,ha,ra⟩:=r1.tup;exact xz (e1.2.1 _ _ ha) (h _ H1 H1' s1 e1 (Hu (fun H s=>s _ _ ha) ra))
 . obtain ⟨a,xs,rfl,ha,ra⟩:=r1.lst;exact xA (.inl (e1.2.1 _ _ ha)) (h _ H1 H1' s1 e1 (Hu (fun H s=>.inl (s _ _ ha)) ra))⟩
theorem Ey (hg:Gl X "range") (hm:X.mg "range"=none) (ha:QA X EX [a] fs) (hs:starEach [a] X.env=[(false,eval a X.env)]:=by rfl):QI X EX true tg (.Call (.Name "range" p) [a] [] pos) (L8 fs):=⟨(Zw hg hm ha.h hs).imp fun U H Q ⟨sx,ρ,H0,s,e,h⟩=>by
 unfold L8 at h;rw [Rk.bind] at h;refine TAd.go sx s e h fun ds h vs H1 H1' s1 e1 r1=>?_
 obtain ⟨es,hd,h⟩:=h.of;split at hd<;>first | cases hd | skip
 obtain ⟨x,rfl,q1⟩:=r1.uno;cases q1.int;split at hd<;>cases hd;rename_i hb;exact ⟨hb,h _ H1 H1' s1 e1 (Hu (fun _ _=>trivial) (Od _ _))⟩⟩
theorem jZ (hS:∀H,Same H0 H->S H) (r:RDs K H0 ds xs) (r':RDs K H0 es ys):O3 K (ItP S (xs.zip ys)) H0 ((ds.zip es).map fun p=>D.tup [p.1,p.2]):=by
 have hl:=r.length;have hl':=r'.length;have hz:((ds.zip es).map fun p=>D.tup [p.1,p.2]).length=(xs.zip ys).length:=by rw [List.length_map,List.length_zip,List.length_zip,hl,hl']
 refine ⟨fun i d e H H1 s1 s2=>⟨⟨hS H (s1.trans s2),by rw [<-hz];exact (List.getElem?_eq_some_iff.mp e).1⟩,fun x H' y=>?_⟩,fun H s=>⟨hS H s,hz⟩⟩;obtain ⟨T,a,b,rfl,hT,rfl,ep⟩:=y;obtain ⟨ea,eb⟩:=List.getElem?_zip_eq_some.mp ep;obtain ⟨da,ga,ra⟩:=r.get ea;obtain ⟨db,gb,rb⟩:=r'.get eb;have gz:(ds.zip es)[i]?=some (da,db):=List.getElem?_zip_eq_some.mpr ⟨ga,gb⟩;rw [List.getElem?_map,gz] at e;cases e;refine ⟨Same.upd_new hT,upd H1 T (.tup [a,b]),.new s2 hT,.mkTup i8 ?_⟩;have sm:=Same.upd_new (o:=.tup [a,b]) (s2.none hT);exact .cons (ra.mono (s1.trans sm)) (.cons (rb.mono (s1.trans sm)) .nil)
theorem Ew (hg:Gl X "enumerate") (hm:X.mg "enumerate"=none) (ha:QA X EX [a] fs) (hs:starEach [a] X.env=[(false,eval a X.env)]:=by rfl) :
  QI X EX false (.Tuple elts k tpos) (.Call (.Name "enumerate" p) [a] [] pos) (iEn fs):=⟨(vI hg hm ha.h hs).imp fun U H Q ⟨sx,ρ,H0,s,e,h⟩=>by
 unfold iEn at h
 rw [Rk.bind] at h
 refine TAd.go sx s e h fun ds h vs H1 H1' s1 e1 r1=>?_
 obtain ⟨es,hd,h⟩:=h.of
 split at hd<;>first | cases hd | skip
 obtain ⟨x,rfl,q1⟩:=r1.uno
 obtain ⟨l,xs,rfl,hl,rl⟩:=q1.lst
 refine ⟨xs,.inl (e1.2.1 _ _ hl),h _ H1 H1' s1 e1 ?_⟩
 rw [rl.length]
 exact jZ (fun H s=>.inl (s _ _ hl)) (Od _ _) rl⟩
end
section
variable {X:Cx} {sc:Scope} {caps:List Str} {ix:List Nat} {elt iter:Expr} {ifs:List Expr} {pos px py tpos:Pos} {x y:Str} {kt:Nat} {kp:Bool} {EX:XW} {fi:DE->R (List D)} {t:DE->R Bool} {f:DE->R D}
noncomputable def u7:DE->R Bool:=fun _=>.ok true
inductive PTq (X:Cx) (sc:Scope) (N:List Str):List Expr->(DE->R Bool)->Prop where
 | nil:PTq X sc N [] u7
 | one {c:Expr} {t:DE->R Bool} (h:∀fp s H,QT (j6 X sc N fp s H) F0 c t):PTq X sc N [c] t
theorem PTq.run (h:PTq X sc N ifs t):∃tt,(∀fp s H,PTs (j6 X sc N fp s H) ifs tt)/\∀U H Q,TTd X.K F0 t U H Q->tt U H Q:=by
 cases h with
 | nil=>exact ⟨_,fun _ _ _=>.nil,fun U H Q ⟨sx,ρ,H0,s,e,h⟩=>h H (Same.refl _)⟩
 | one h=>exact ⟨_,fun fp s H=>.one (h fp s H).h,fun _ _ _ q=>q⟩
theorem W9 (C:CompOk X sc caps ix) (hN:([x]++caps).Nodup) (hx:sc.names.lookup x=some .local) (hi:QI X EX kp (.Name x px) iter fi) (ht:PTq X sc ([x]++caps) ifs t) (he:∀fp s H,QE (j6 X sc ([x]++caps) fp s H) F0 false elt f)
  (hs:∀x,foldedSetIterable iter X.env x=pure x:=by intro _;rfl):QE X EX true (.ListComp elt [⟨.Name x px,iter,ifs,0⟩] sc pos) (z8 fi b1 ix t f):=by
 obtain ⟨tt,h1,h2⟩:=ht.run
 refine ⟨(xy C hN hx hi.h h1 (fun fp s H=>(he fp s H).h) hs).imp fun _ _ _ q=>Hy Fg h2 q⟩
theorem Lg (h:∀U H Q,te' U H Q->te U H Q) (q:E5 te' g De U H):E5 te g De U H:=h _ _ _ q
theorem Ev {fr:Bool} {m:List Bool} {v:Str} {k:Nat} {spos pv:Pos} (hNX:X.N.Nodup) (hk:X.N[k]?=some v) (hv:X.env.scope.names.lookup v=some .local) (C:CompOk X sc caps ix) (hN:([x]++caps).Nodup) (hx:sc.names.lookup x=some .local) (hi:QI X EX kp (.Name x px) iter fi)
  (ht:PTq X sc ([x]++caps) ifs t) (he:∀fp s H,QE (j6 X sc ([x]++caps) fp s H) F0 false elt f)
  (hsw:swapsWith (.ListComp elt [⟨.Name x px,iter,ifs,0⟩] sc pos) (some (.Name v pv)) spos.line X.env=pure true:=by rfl) (hs:∀x,foldedSetIterable iter X.env x=pure x:=by intro _;rfl) :
  QS X EX fr (.Assign [.Name v pv] (.ListComp elt [⟨.Name x px,iter,ifs,0⟩] sc pos) spos) (b9 true k m (z8 fi b1 ix t f)):=by
 obtain ⟨tt,h1,h2⟩:=ht.run
 refine ⟨(xx hNX hk hv C hN hx hi.h h1 (fun fp s H=>(he fp s H).h) hsw hs).imp fun _ _ _ q=>Lg (fun _ _ _ q=>Hy Fg h2 q) (Y9 q)⟩
theorem y3b {fr:Bool} {m:List Bool} {v:Str} {k:Nat} {spos pv:Pos} (hNX:X.N.Nodup) (hk:X.N[k]?=some v) (hv:X.env.scope.names.lookup v=some .local) (C:CompOk X sc caps ix) (hN:([x,y]++caps).Nodup) (hx:sc.names.lookup x=some .local) (hy:sc.names.lookup y=some .local)
  (hi:QI X EX kp (.Tuple [.Name x px,.Name y py] kt tpos) iter fi) (ht:PTq X sc ([x,y]++caps) ifs t) (he:∀fp s H,QE (j6 X sc ([x,y]++caps) fp s H) F0 false elt f)
  (hsw:swapsWith (.ListComp elt [⟨.Tuple [.Name x px,.Name y py] kt tpos,iter,ifs,0⟩] sc pos) (some (.Name v pv)) spos.line X.env=pure true:=by rfl) (hs:∀x,foldedSetIterable iter X.env x=pure x:=by intro _;rfl) :
  QS X EX fr (.Assign [.Name v pv] (.ListComp elt [⟨.Tuple [.Name x px,.Name y py] kt tpos,iter,ifs,0⟩] sc pos) spos) (b9 true k m (z8 fi (bT 2) ix t f)):=by
 obtain ⟨tt,h1,h2⟩:=ht.run
 refine ⟨(xw hNX hk hv C hN hx hy hi.h h1 (fun fp s H=>(he fp s H).h) hsw hs).imp fun _ _ _ q=>Lg (fun _ _ _ q=>Hy y37 h2 q) (Y9 q)⟩
end
section
variable {X:Cx} {EX:XW} {fr fr':Bool} {st:Stmt} {sts:List Stmt} {a c e:Expr} {es:List Expr} {f:DE->R D} {fs:DE->R (List D)} {t:DE->R Bool} {g g1 g2:DS->SR} {pos p:Pos} {m:List Bool}
theorem m7:QB X EX fr [] sNx:=⟨pss_nil.imp fun _ _ _ q=>Yc q⟩
theorem c9 (h:QS X EX fr st g):QB X EX fr [st] g:=⟨Sw h.h⟩
theorem c8 (h1:QS X EX fr st g1) (h2:QB X EX fr sts g2):QB X EX fr (st::sts) (b7 g1 g2):=⟨(Ar h1.h h2.h).imp fun _ _ _ q=>Oj q⟩
theorem m4 (hc:QT X EX c t) (ha:QB X EX fr x g1) (hb:QB X EX fr y g2):QS X EX fr (.If c x y pos) (sIf t g1 g2):=⟨(Pa hc.h ha.h hb.h).imp fun _ _ _ q=>Oi q⟩
theorem h8 (he:QE X EX fr e f):QS X EX fr (.Return (some e) pos) (e7 m f):=⟨(Qw he.h).imp fun _ _ _ q=>Zj q⟩
theorem Ht (hN:X.N[i]?=some x:=by rfl) (hv:Vis X.env.scope x:=by first | exact .inl rfl | exact .inr (.inl rfl) | exact .inr (.inr rfl)) (hd:(x==("__debug__":Str))=false:=by decide)
 (hcd:(x==("__classdict__":Str))=false:=by decide):QS X EX true (.Return (some (.Name x p)) pos) (O9 i):=⟨(Qw (pw i hN hv hd hcd)).imp fun _ _ _ q=>kr q⟩
theorem Qj (he:QE X EX false e f) (hs:swapsWith e none pos.line X.env=pure false:=by rfl):QS X EX fr (.Expr e pos) (J8 f):=⟨(Am he.h hs).imp fun _ _ _ q=>kq q⟩
theorem Zb (hN:X.N.Nodup) (hi:X.N[i]?=some x) (hx:Loc X.env.scope x) (he:QE X EX fr' e f) (hs:swapsWith e (some (.Name x pos')) pos.line X.env=pure false:=by rfl) (hf:X.fn x=true\/X.env.scope.names.lookup x=some .local) :
 QS X EX fr (.Assign [.Name x pos'] e pos) (b9 fr' i m f):=⟨(Jc hN hi hx he.h hs hf).imp fun _ _ _ q=>Y9 q⟩
theorem g_n (hN:X.N.Nodup) (hi:X.N[i]?=some x) (hx:Loc X.env.scope x) (hf:X.fn x=true\/X.env.scope.names.lookup x=some .local:=by exact .inl rfl):QG X (.Name x pos) (.n i):=⟨(Dv hN hi hx hf).imp fun _ _ _ _ q=>Yb q⟩
theorem Cz:QGs X [] []:=⟨xv⟩
theorem N4 (hN:X.N.Nodup) (hi:X.N[i]?=some x) (hx:Loc X.env.scope x) (hr:QGs X ts is) (hf:X.fn x=true\/X.env.scope.names.lookup x=some .local:=by exact .inl rfl)
 (hs:(assignEach (.Name x pos::ts) X.env).map (·.2)=assign (.Name x pos) X.env::(assignEach ts X.env).map (·.2):=by rfl):QGs X (.Name x pos::ts) (i::is):=⟨yf (Dv hN hi hx hf) hr.h hs⟩
theorem g_t (hc:X.calm=true) (h:QGs X ts is) (hn:(assignEach ts X.env).length=is.length:=by rfl) (hst:(assignEach ts X.env).findIdx? (·.1)=none:=by rfl):QG X (.Tuple ts k pos) (.t is):=⟨(vG hc h.h hn hst).imp fun _ _ _ _ q=>y35 q⟩
theorem Za (he:QE X EX false e f) (hg:QG X tg tt) (hs:swapsWithSole [tg] e pos.line X.env=pure false:=by rfl) (hw:swappedStores [tg] e X.env=pure none:=by rfl)
 (h1:(assignEach [tg] X.env).map (·.2)=[assign tg X.env]:=by rfl):QS X EX fr (.Assign [tg] e pos) (Cf tt m f):=⟨(kU he.h hg.h hs hw h1).imp fun _ _ _ q=>Zi q⟩
theorem M3 (hp:PassesOwn (model X.prog X.w) X.A X.env X.xe) (hc:X.calm=true) (hi:QI X EX kp tg iter fi) (hg:QG X tg tt) (hb:QB X EX fr body g)
 (hs:∀x,foldedSetIterable iter X.env x=pure x:=by intro _;rfl):QS X EX fr (.For tg iter body [] pos) (B7 kp m fi tt g):=⟨(Sr hp hc hi.h hg.h hb.h hs).imp fun _ _ _ q=>Og q⟩
theorem vn (hp:PassesOwn (model X.prog X.w) X.A X.env X.xe) (hc:QT X EX c t) (hb:QB X EX fr body g):QS X EX fr (.While c body [] pos) (Db n t g):=⟨(xK hp hc.h hb.h).imp fun _ _ _ q=>vy q⟩
noncomputable def F7:D->List D->Option D
 | .lst ds,[d]=>if ds.length<100000 then some (.lst (ds++[d])) else none
 | _,_=>none
theorem G3 {K:Frag}:TyD K "list":=fun H0 H a d ob h=>by cases d<;>simp [isT] at h;simp only [OB] at ob;obtain ⟨xs,hx,_⟩:=ob;exact .inl ⟨rfl,xs,.of hx⟩
theorem Cy {K:Frag}:I0 K F7 Sv:=by
 intro H0 H a d d' ds vs Q s h0 ob r hm k;unfold F7 at hm;split at hm<;>first | cases hm | skip
 split at hm<;>cases hm;rename_i es e hl;simp only [OB] at ob;obtain ⟨xs,hx,rx⟩:=ob;obtain ⟨y,rfl,q1⟩:=r.uno;refine ⟨a,xs,y,rfl,rfl,hx,by rw [<-rx.length];exact Eg hl,k _ _ ?_⟩;simp only [OB];exact ⟨_,i8,rx.append (.one q1)⟩
theorem Y7 {T id:String} {name:Str} {i:Nat} {x:Str} {xp apos cpos:Pos} {mt:D->List D->Option D} {rr:V->List V->Hp->VK->Prop} (pa:PlainAttrs T) (slot:Slot T name id) (hty:typeOf (.builtin id)=pure (.type "method_descriptor")) (hm:MtM X id rr) (od:I0 X.K mt rr) (hT:TyD X.K T)
 (ho:PE X (.Name x xp) (u8 i)) (ha:QA X EX (e::es) fs)
 (hbase:attributeBase (.Name x xp) name X.env (eval (.Name x xp) X.env)=eval (.Name x xp) X.env:=by rfl)
 (hfew:((backTo cpos (starEach (e::es) X.env)).all (fun x=>!x.1)&&(backToKw cpos (keywordEach [] X.env)).all (fun x=>x.1.isSome)
  && decide ((e::es).length+([]:List Keyword).length+(if ([]:List Keyword).isEmpty then 0 else 1)<30))=true:=by rfl)
 (hline:(apos.endLine==cpos.line)=true:=by rfl) (hs:starEach (e::es) X.env=(false,eval e X.env)::starEach es X.env:=by rfl) (hplain:(backTo cpos (starEach es X.env)).any (·.1)=false:=by rfl)
 (hsw:swapsWith (.Call (.Attribute (.Name x xp) name apos) (e::es) [] cpos) none pos.line X.env=pure false:=by rfl) :
 QS X EX fr (.Expr (.Call (.Attribute (.Name x xp) name apos) (e::es) [] cpos) pos) (u9 T mt i m fs):=⟨(Am (Ow pa slot hty hm ho ha.h hbase hfew hline hs hplain) hsw).imp fun _ _ _ q=>Oh od hT q⟩
noncomputable def Gj:DE->R D:=fun _=>.ok (.dk [] [])
theorem jY:QE X EX true (.Dict [] [] pos) Gj:=⟨pe_dnewK.imp fun U H Q ⟨sx,ρ,H0,s,e,h⟩ p hp=>h _ _ (.new s hp fun H' hH=>by simp only [OB];exact ⟨[],hH,rfl,.nil⟩)⟩
end
theorem fnD {P:Program} {w:World} {K:Frag} {mg:Str->Option Value} {base:Heap} {x qual:Str} {st:Stmt} {f:Addr} {fd:FuncData} {N ps:List Str} {k n kk:Nat} {fr:Bool} {g:DS->SR} (F:Fun K x qual st f fd) (S:FnScope N ps (d8 st)) (hps:ps.length=n) (hN:N.length=n+kk)
  (hbody:∀(cdv:Value) (A:Around) (outer:List Env) (s:Shared) (H:Hp) (E:XK),Room k (A.deeper (envOfC qual (d8 st) s.heap.objs.size f cdv)) ->
   QB (w8 (CX1 P w) P w K mg base N qual (d8 st) f cdv A outer s H E) ⟨H,xNm K mg E⟩ fr (x8 st) g):FnOk P w K mg base (CX1 P w) (k+1) f fd ps (spD K mg fr (mOf fr n kk g) n):=by
 have hlen:∀{vs:List V} {H:Hp} {Q:VK} {E:XK},spD K mg fr (mOf fr n kk g) n vs H Q E->vs.length=n:=fun {vs H Q E} h=>by obtain ⟨ds,H0,s,r,hn,_⟩:=h;rw [<-r.length];exact hn
 refine F.okX S (fun vs H Q E h=>by rw [hlen h,hps]) (fun cdv A outer s H vs Q E hr h=>⟨_,(hbody cdv A outer s H E hr).h,?_⟩)
 have e:C7 N vs=vs.map some++List.replicate kk none:=by unfold C7;rw [hlen h,hN,Nat.add_sub_cancel_left]
 rw [e]
 exact km h
noncomputable def spL (K:Frag) (fr:Bool) (m:List D->R D) (n:Nat):Sp:=fun vs H Q _=>∃ds H0,Same H0 H/\RDs K H0 ds vs/\ds.length=n/\Rk (fun _=>False) (m ds) fun d=>∀v H',Out K fr H0 H d v H'->Q v H'
theorem spL.spD {K:Frag} {fr:Bool} {m:List D->R D} {n:Nat} {vs:List V} {H:Hp} {Q:VK} {E:XK} {mg:Str->Option Value} (h:spL K fr m n vs H Q E):L2.spD K mg fr m n vs H Q E:=by
 obtain ⟨ds,H0,s,r,hn,h⟩:=h;refine ⟨ds,H0,s,r,hn,?_⟩;cases q:m ds with
 | ok d=>rw [q] at h;exact h
 | er x=>rw [q] at h;exact h.elim
 | st=>rw [q] at h;exact h.elim
theorem jX {K:Frag} {H:Hp} {a:Addr} {ns:List Int} {m:List D->R D} {fr:Bool} (hO:Cd H) (hS:SqL K H a (ns.map V.int)) (h:m [.scr ns]=.ok (.bl true)):spL K fr m 1 [.ref a] H (fun v _=>v=.bl true) fun _ _ _=>False:=by
 refine ⟨[.scr ns],H,Same.refl _,.one ?_,rfl,?_⟩
 . simp only [RD];refine ⟨a,rfl,?_⟩;rcases hS with (hS | hS) | hS
   . rcases hO a with z | ⟨o,xs,z⟩<;>rw [z] at hS<;>cases hS
   . exact .inl hS
   . exact .inr hS
 . rw [h];exact fun v H' o=>by obtain ⟨_,H0',_,r⟩:=o.weak.rd;exact r.bl
end L2
namespace L2
open PySem PySem.Spec PyProof.Rows
open PySem.W (KasT kas_sort kas_rev kas_asc kas_desc kas_tail3 kas_descPart kas_count kas_place kas_bin)
section
variable {p:Array Nat}
abbrev g (p:Array Nat) (i:Nat):Nat:=p.getD i 0
end
end L2
namespace L2
open PySem PySem.Spec PyProof.Rows
open PySem.W (KasT kas_sort)
mutual
noncomputable def D.oi:D->Bool
 | .int _=>true
 | .tup ds=>ois ds
 | _=>false
noncomputable def ois:List D->Bool
 | []=>true
 | d::ds=>d.oi&&ois ds
end
mutual
noncomputable def ltT:D->D->Bool
 | .int i,.int j=>decide (i<j)
 | .int _,.tup _=>true
 | .tup ds,.tup es=>n8 ds es
 | _,_=>false
noncomputable def n8:List D->List D->Bool
 | [],[]=>false
 | [],_::_=>true
 | _::_,[]=>false
 | d::ds,e::es=>if eqD d e=true then n8 ds es else ltT d e
end
mutual
noncomputable def g7:D->D->Option Bool
 | .int i,.int j=>some (decide (i<j))
 | .tup ds,.tup es=>o8 ds es
 | _,_=>none
noncomputable def o8:List D->List D->Option Bool
 | [],[]=>some false
 | [],_::_=>some true
 | _::_,[]=>some false
 | d::ds,e::es=>if eqD d e=true then o8 ds es else g7 d e
end
mutual
theorem Qi:∀{d e:D} {b:Bool},g7 d e=some b->b=ltT d e
 | .int i,.int j,b,h=>by simp only [g7,Option.some.injEq] at h;simp only [ltT];exact h.symm
 | .tup ds,.tup es,b,h=>by simp only [g7] at h;simp only [ltT];exact Si h
 | .non,e,b,h=>by simp [g7] at h
 | .bl _,e,b,h=>by simp [g7] at h
 | .str _,e,b,h=>by simp [g7] at h
 | .lst _,e,b,h=>by simp [g7] at h
 | .dk _ _,e,b,h=>by simp [g7] at h
 | .dt _ _,e,b,h=>by simp [g7] at h
 | .dn _ _,e,b,h=>by simp [g7] at h
 | .scr _,e,b,h=>by simp [g7] at h
 | .exc _ _,e,b,h=>by simp [g7] at h
 | .int _,.non,b,h=>by simp [g7] at h
 | .int _,.bl _,b,h=>by simp [g7] at h
 | .int _,.str _,b,h=>by simp [g7] at h
 | .int _,.lst _,b,h=>by simp [g7] at h
 | .int _,.tup _,b,h=>by simp [g7] at h
 | .int _,.dk _ _,b,h=>by simp [g7] at h
 | .int _,.dt _ _,b,h=>by simp [g7] at h
 | .int _,.dn _ _,b,h=>by simp [g7] at h
 | .int _,.scr _,b,h=>by simp [g7] at h
 | .int _,.exc _ _,b,h=>by simp [g7] at h
 | .tup _,.non,b,h=>by simp [g7] at h
 | .tup _,.bl _,b,h=>by simp [g7] at h
 | .tup _,.int _,b,h=>by simp [g7] at h
 | .tup _,.str _,b,h=>by simp [g7] at h
 | .tup _,.lst _,b,h=>by simp [g7] at h
 | .tup _,.dk _ _,b,h=>by simp [g7] at h
 | .tup _,.dt _ _,b,h=>by simp [g7] at h
 | .tup _,.dn _ _,b,h=>by simp [g7] at h
 | .tup _,.scr _,b,h=>by simp [g7] at h
 | .tup _,.exc _ _,b,h=>by simp [g7] at h
theorem Si:∀{ds es:List D} {b:Bool},o8 ds es=some b->b=n8 ds es
 | [],[],b,h=>by simp only [o8,Option.some.injEq] at h;simp only [n8];exact h.symm
 | [],_::_,b,h=>by simp only [o8,Option.some.injEq] at h;simp only [n8];exact h.symm
 | _::_,[],b,h=>by simp only [o8,Option.some.injEq] at h;simp only [n8];exact h.symm
 | d::ds,e::es,b,h=>by
  simp only [o8] at h;simp only [n8];split at h
  . rename_i q;rw [ξ q];exact Si h
  . rename_i q;rw [ψ q];exact Qi h
end
mutual
theorem S6:∀{d e:D},d.oi=true->eqD d e=true->e.oi=true->d=e
 | .int i,.int j,_,h,_=>by simp only [eqD,beq_iff_eq] at h;rw [h]
 | .tup ds,.tup es,p,h,q=>by simp only [eqD] at h;simp only [D.oi] at p q;rw [Qh p h q]
 | .int i,.tup _,_,h,_=>by simp [eqD] at h
 | .tup _,.int _,_,h,_=>by simp [eqD] at h
 | .int _,.non,_,_,q=>by simp [D.oi] at q
 | .int _,.bl _,_,_,q=>by simp [D.oi] at q
 | .int _,.str _,_,_,q=>by simp [D.oi] at q
 | .int _,.lst _,_,_,q=>by simp [D.oi] at q
 | .int _,.dk _ _,_,_,q=>by simp [D.oi] at q
 | .int _,.dt _ _,_,_,q=>by simp [D.oi] at q
 | .int _,.dn _ _,_,_,q=>by simp [D.oi] at q
 | .int _,.scr _,_,_,q=>by simp [D.oi] at q
 | .int _,.exc _ _,_,_,q=>by simp [D.oi] at q
 | .tup _,.non,_,_,q=>by simp [D.oi] at q
 | .tup _,.bl _,_,_,q=>by simp [D.oi] at q
 | .tup _,.str _,_,_,q=>by simp [D.oi] at q
 | .tup _,.lst _,_,_,q=>by simp [D.oi] at q
 | .tup _,.dk _ _,_,_,q=>by simp [D.oi] at q
 | .tup _,.dt _ _,_,_,q=>by simp [D.oi] at q
 | .tup _,.dn _ _,_,_,q=>by simp [D.oi] at q
 | .tup _,.scr _,_,_,q=>by simp [D.oi] at q
 | .tup _,.exc _ _,_,_,q=>by simp [D.oi] at q
 | .non,_,p,_,_=>by simp [D.oi] at p
 | .bl _,_,p,_,_=>by simp [D.oi] at p
 | .str _,_,p,_,_=>by simp [D.oi] at p
 | .lst _,_,p,_,_=>by simp [D.oi] at p
 | .dk _ _,_,p,_,_=>by simp [D.oi] at p
 | .dt _ _,_,p,_,_=>by simp [D.oi] at p
 | .dn _ _,_,p,_,_=>by simp [D.oi] at p
 | .scr _,_,p,_,_=>by simp [D.oi] at p
 | .exc _ _,_,p,_,_=>by simp [D.oi] at p
theorem Qh:∀{ds es:List D},ois ds=true->m9 ds es=true->ois es=true->ds=es
 | [],[],_,_,_=>rfl
 | [],_::_,_,h,_=>by simp [m9] at h
 | _::_,[],_,h,_=>by simp [m9] at h
 | d::ds,e::es,p,h,q=>by simp only [m9,Bool.and_eq_true] at h;simp only [ois,Bool.and_eq_true] at p q;rw [S6 p.1 h.1 q.1,Qh p.2 h.2 q.2]
end
mutual
theorem Dl:∀{d:D},d.oi=true->eqD d d=true
 | .int i,_=>by simp [eqD]
 | .tup ds,p=>by simp only [eqD];exact Ty (by simpa only [D.oi] using p)
 | .non,p=>by simp [D.oi] at p
 | .bl _,p=>by simp [D.oi] at p
 | .str _,p=>by simp [D.oi] at p
 | .lst _,p=>by simp [D.oi] at p
 | .dk _ _,p=>by simp [D.oi] at p
 | .dt _ _,p=>by simp [D.oi] at p
 | .dn _ _,p=>by simp [D.oi] at p
 | .scr _,p=>by simp [D.oi] at p
 | .exc _ _,p=>by simp [D.oi] at p
theorem Ty:∀{ds:List D},ois ds=true->m9 ds ds=true
 | [],_=>rfl
 | d::ds,p=>by simp only [ois,Bool.and_eq_true] at p;simp only [m9,Dl p.1,Ty p.2,Bool.and_self]
end
mutual
theorem Cw:∀{d e:D},d.oi=true->e.oi=true->ltT d e=false->ltT e d=false->d=e
 | .int i,.int j,_,_,h,h'=>by
  simp only [ltT,decide_eq_false_iff_not] at h h';have:i=j:=by lia
  rw [this]
 | .tup ds,.tup es,p,q,h,h'=>by simp only [ltT] at h h';simp only [D.oi] at p q;rw [Sh p q h h']
 | .int _,.tup _,_,_,h,_=>by simp [ltT] at h
 | .tup _,.int _,_,_,_,h=>by simp [ltT] at h
 | .int _,.non,_,q,_,_=>by simp [D.oi] at q
 | .int _,.bl _,_,q,_,_=>by simp [D.oi] at q
 | .int _,.str _,_,q,_,_=>by simp [D.oi] at q
 | .int _,.lst _,_,q,_,_=>by simp [D.oi] at q
 | .int _,.dk _ _,_,q,_,_=>by simp [D.oi] at q
 | .int _,.dt _ _,_,q,_,_=>by simp [D.oi] at q
 | .int _,.dn _ _,_,q,_,_=>by simp [D.oi] at q
 | .int _,.scr _,_,q,_,_=>by simp [D.oi] at q
 | .int _,.exc _ _,_,q,_,_=>by simp [D.oi] at q
 | .tup _,.non,_,q,_,_=>by simp [D.oi] at q
 | .tup _,.bl _,_,q,_,_=>by simp [D.oi] at q
 | .tup _,.str _,_,q,_,_=>by simp [D.oi] at q
 | .tup _,.lst _,_,q,_,_=>by simp [D.oi] at q
 | .tup _,.dk _ _,_,q,_,_=>by simp [D.oi] at q
 | .tup _,.dt _ _,_,q,_,_=>by simp [D.oi] at q
 | .tup _,.dn _ _,_,q,_,_=>by simp [D.oi] at q
 | .tup _,.scr _,_,q,_,_=>by simp [D.oi] at q
 | .tup _,.exc _ _,_,q,_,_=>by simp [D.oi] at q
 | .non,_,p,_,_,_=>by simp [D.oi] at p
 | .bl _,_,p,_,_,_=>by simp [D.oi] at p
 | .str _,_,p,_,_,_=>by simp [D.oi] at p
 | .lst _,_,p,_,_,_=>by simp [D.oi] at p
 | .dk _ _,_,p,_,_,_=>by simp [D.oi] at p
 | .dt _ _,_,p,_,_,_=>by simp [D.oi] at p
 | .dn _ _,_,p,_,_,_=>by simp [D.oi] at p
 | .scr _,_,p,_,_,_=>by simp [D.oi] at p
 | .exc _ _,_,p,_,_,_=>by simp [D.oi] at p
theorem Sh:∀{ds es:List D},ois ds=true->ois es=true->n8 ds es=false->n8 es ds=false->ds=es
 | [],[],_,_,_,_=>rfl
 | [],_::_,_,_,h,_=>by simp [n8] at h
 | _::_,[],_,_,_,h=>by simp [n8] at h
 | d::ds,e::es,p,q,h,h'=>by
  simp only [ois,Bool.and_eq_true] at p q;simp only [n8] at h h';by_cases w:eqD d e=true
  . have:=S6 p.1 w q.1;subst this;rw [ξ w] at h;rw [ξ w] at h';rw [Sh p.2 q.2 h h']
  . have w':¬eqD e d=true:=fun z=>w (by rw [S6 q.1 z p.1];exact Dl p.1)
    rw [ψ w] at h;rw [ψ w'] at h';have:=Cw p.1 q.1 h h';subst this;exact absurd (Dl p.1) w
end
mutual
theorem Hs:∀{d:D},d.oi=true->ltT d d=false
 | .int i,_=>by simp [ltT]
 | .tup ds,p=>by simp only [ltT];exact Sg (by simpa only [D.oi] using p)
 | .non,p=>by simp [D.oi] at p
 | .bl _,p=>by simp [D.oi] at p
 | .str _,p=>by simp [D.oi] at p
 | .lst _,p=>by simp [D.oi] at p
 | .dk _ _,p=>by simp [D.oi] at p
 | .dt _ _,p=>by simp [D.oi] at p
 | .dn _ _,p=>by simp [D.oi] at p
 | .scr _,p=>by simp [D.oi] at p
 | .exc _ _,p=>by simp [D.oi] at p
theorem Sg:∀{ds:List D},ois ds=true->n8 ds ds=false
 | [],_=>rfl
 | d::ds,p=>by simp only [ois,Bool.and_eq_true] at p;simp only [n8];rw [ξ (Dl p.1)];exact Sg p.2
end
mutual
theorem Co:∀{d e f:D},d.oi=true->e.oi=true->f.oi=true->ltT d e=true->ltT e f=true->ltT d f=true
 | .int i,.int j,.int k,_,_,_,h,h'=>by
  simp only [ltT,decide_eq_true_eq] at h h' ⊢
  lia
 | .int i,.int j,.tup _,_,_,_,h,h'=>by simp only [ltT]
 | .int i,.tup _,.tup _,_,_,_,h,h'=>by simp only [ltT]
 | .tup ds,.tup es,.tup fs,p,q,r,h,h'=>by simp only [ltT] at h h' ⊢;simp only [D.oi] at p q r;exact Qg p q r h h'
 | .int i,.tup _,.int _,_,_,_,h,h'=>by simp [ltT] at h'
 | .tup _,.int _,_,_,_,_,h,h'=>by simp [ltT] at h
 | .tup _,.tup _,.int _,_,_,_,h,h'=>by simp [ltT] at h'
 | .non,_,_,p,_,_,_,_=>by simp [D.oi] at p
 | .bl _,_,_,p,_,_,_,_=>by simp [D.oi] at p
 | .str _,_,_,p,_,_,_,_=>by simp [D.oi] at p
 | .lst _,_,_,p,_,_,_,_=>by simp [D.oi] at p
 | .dk _ _,_,_,p,_,_,_,_=>by simp [D.oi] at p
 | .dt _ _,_,_,p,_,_,_,_=>by simp [D.oi] at p
 | .dn _ _,_,_,p,_,_,_,_=>by simp [D.oi] at p
 | .scr _,_,_,p,_,_,_,_=>by simp [D.oi] at p
 | .exc _ _,_,_,p,_,_,_,_=>by simp [D.oi] at p
 | _,.non,_,_,p,_,_,_=>by simp [D.oi] at p
 | _,.bl _,_,_,p,_,_,_=>by simp [D.oi] at p
 | _,.str _,_,_,p,_,_,_=>by simp [D.oi] at p
 | _,.lst _,_,_,p,_,_,_=>by simp [D.oi] at p
 | _,.dk _ _,_,_,p,_,_,_=>by simp [D.oi] at p
 | _,.dt _ _,_,_,p,_,_,_=>by simp [D.oi] at p
 | _,.dn _ _,_,_,p,_,_,_=>by simp [D.oi] at p
 | _,.scr _,_,_,p,_,_,_=>by simp [D.oi] at p
 | _,.exc _ _,_,_,p,_,_,_=>by simp [D.oi] at p
 | _,_,.non,_,_,p,_,_=>by simp [D.oi] at p
 | _,_,.bl _,_,_,p,_,_=>by simp [D.oi] at p
 | _,_,.str _,_,_,p,_,_=>by simp [D.oi] at p
 | _,_,.lst _,_,_,p,_,_=>by simp [D.oi] at p
 | _,_,.dk _ _,_,_,p,_,_=>by simp [D.oi] at p
 | _,_,.dt _ _,_,_,p,_,_=>by simp [D.oi] at p
 | _,_,.dn _ _,_,_,p,_,_=>by simp [D.oi] at p
 | _,_,.scr _,_,_,p,_,_=>by simp [D.oi] at p
 | _,_,.exc _ _,_,_,p,_,_=>by simp [D.oi] at p
theorem Qg:∀{ds es fs:List D},ois ds=true->ois es=true->ois fs=true->n8 ds es=true->n8 es fs=true->n8 ds fs=true
 | [],_,_::_,_,_,_,_,_=>by simp only [n8]
 | _,[],[],_,_,_,_,h=>by simp [n8] at h
 | _::_,[],_,_,_,_,h,_=>by simp [n8] at h
 | _,_::_,[],_,_,_,_,h=>by simp [n8] at h
 | d::ds,e::es,f::fs,p,q,r,h,h'=>by
  simp only [ois,Bool.and_eq_true] at p q r;simp only [n8] at h h' ⊢;by_cases w:eqD d e=true
  . have:=S6 p.1 w q.1;subst this;rw [ξ w] at h;by_cases w2:eqD d f=true
    . rw [ξ w2] at h' ⊢;exact Qg p.2 q.2 r.2 h h'
    . rw [ψ w2] at h' ⊢;exact h'
  . rw [ψ w] at h;by_cases w2:eqD e f=true
    . have:=S6 q.1 w2 r.1;subst this;rw [ψ w];exact h
    . rw [ψ w2] at h';have h3:=Co p.1 q.1 r.1 h h';by_cases w3:eqD d f=true
      . have:=S6 p.1 w3 r.1;subst this;rw [Hs p.1] at h3;cases h3
      . rw [ψ w3];exact h3
end
theorem Jq:∀{ds:List D} {i:Nat},ois ds=true->(ds.getD i (.int 0)).oi=true
 | [],i,_=>by simp [D.oi]
 | d::ds,0,h=>by simp only [ois,Bool.and_eq_true] at h;simpa using h.1
 | d::ds,i+1,h=>by simp only [ois,Bool.and_eq_true] at h;simpa using Jq (i:=i) h.2
def ltI (ds:List D) (i j:Nat):Bool:=ltT (ds.getD i (.int 0)) (ds.getD j (.int 0))
def G9 (d:D):List D->List D
 | []=>[d]
 | e::r=>if ltT e d=true then e::G9 d r else d::e::r
def v7:List D->List D
 | []=>[]
 | d::r=>G9 d (v7 r)
theorem Lf (d:D):∀l:List D,(G9 d l).Perm (d::l)
 | []=>.refl _
 | e::r=>by
  unfold G9;split
  . exact ((Lf d r).cons e).trans (.swap d e r)
  . exact .refl _
theorem N6:∀l:List D,(v7 l).Perm l
 | []=>.refl _
 | d::r=>(Lf d (v7 r)).trans ((N6 r).cons d)
theorem ois_mem:∀{ds:List D},ois ds=true↔∀d∈ds,d.oi=true
 | []=>by simp [ois]
 | d::ds=>by simp [ois,ois_mem (ds:=ds)]
def Srt (l:List D):Prop:=l.Pairwise fun a b=>ltT b a=false
theorem Tx:∀{l:List D},d.oi=true->ois l=true->Srt l->Srt (G9 d l)
 | [],_,_,_=>by simp [G9,Srt]
 | e::r,hd,hl,hs=>by
  simp only [ois,Bool.and_eq_true] at hl;obtain ⟨h1,h2⟩:=List.pairwise_cons.mp hs;unfold G9;split
  . rename_i hlt;refine List.pairwise_cons.mpr ⟨fun x hx=>?_,Tx hd hl.2 h2⟩;rcases List.mem_cons.mp ((Lf d r).mem_iff.mp hx) with rfl | hx
    . cases hq:ltT x e with
      | false=>rfl
      | true=>
       have:=Co hl.1 hd hl.1 hlt hq
       rw [Hs hl.1] at this;cases this
    . exact h1 x hx
  . rename_i hlt;have hlt:ltT e d=false:=by simpa using hlt
    refine List.pairwise_cons.mpr ⟨fun x hx=>?_,hs⟩;rcases List.mem_cons.mp hx with rfl | hx
    . exact hlt
    . have hxo:=(ois_mem.mp hl.2) x hx;cases hq:ltT x d with
      | false=>rfl
      | true=>
       have h3:=h1 x hx
       cases hy:ltT d e with
       | true=>rw [Co hxo hd hl.1 hq hy] at h3;cases h3
       | false=>
        rw [Cw hd hl.1 hy hlt] at hq
        rw [hq] at h3;cases h3
theorem Dz (p:l.Perm l') (h:ois l'=true):ois l=true:=ois_mem.mpr fun d hd=>(ois_mem.mp h) d (p.mem_iff.mp hd)
theorem Ef:∀{l:List D},ois l=true->Srt (v7 l)
 | [],_=>.nil
 | d::r,h=>by simp only [ois,Bool.and_eq_true] at h;exact Tx h.1 (Dz (N6 r) h.2) (Ef h.2)
theorem Kk:∀{l l':List D},ois l=true->l.Perm l'->Srt l->Srt l'->l=l'
 | [],l',_,p,_,_=>by rw [p.nil_eq]
 | a::r,[],_,p,_,_=>by have:=p.length_eq;simp at this
 | a::r,b::r',h,p,s,s'=>by
  have h':=h;simp only [ois,Bool.and_eq_true] at h;obtain ⟨h1,h2⟩:=List.pairwise_cons.mp s;obtain ⟨h3,h4⟩:=List.pairwise_cons.mp s';have hb:b∈a::r:=p.mem_iff.mpr List.mem_cons_self;have ha:a∈b::r':=p.mem_iff.mp List.mem_cons_self;have hbo:=(ois_mem.mp h') b hb;have e:a=b:=by
   rcases List.mem_cons.mp hb with z | z
   . exact z.symm
   . rcases List.mem_cons.mp ha with w | w
     . exact w
     . exact Cw h.1 hbo (h3 a w) (h1 b z)
  subst e;rw [Kk h.2 (List.perm_cons a |>.mp p) h2 h4]
end L2
namespace L2
open PySem PySem.Spec PyProof.Rows
open PySem.W (KasT kas_sort kas_rev kas_asc kas_desc kas_tail3 kas_descPart kas_count kas_place kas_bin)
def InP {α:Type} (n:Nat) (P:α->Prop):KasT α->Prop
 | .ret a=>P a
 | .ask i j k=>i<n/\j<n/\∀b,InP n P (k b)
theorem InP.bind:∀{t:KasT α},InP n P t->(∀a,P a->InP n P' (f a))->InP n P' (t.bind f)
 | .ret a,h,hf=>hf a h
 | .ask i j k,h,hf=>⟨h.1,h.2.1,fun b=>InP.bind (h.2.2 b) hf⟩
def RcLt (A:Around) (s:Shared) (x y:Value) (b:Bool):Prop:=∀(prog:Program) (w:World) (E:Value->Shared->Prop) (Q:Value->Shared->Prop),Q (.bool b) s->wpAny (model prog w) A (richCompare .Lt x y) Q E s
inductive LexR (A:Around) (s:Shared):List Value->List Value->Bool->Prop
 | nn:LexR A s [] [] false
 | nc {w ws}:LexR A s [] (w::ws) true
 | cn {v vs}:LexR A s (v::vs) [] false
 | eq {v w vs ws b} (h:SeqAt.EqAt A s v w true) (r:LexR A s vs ws b):LexR A s (v::vs) (w::ws) b
 | lt {v w vs ws b} (h:SeqAt.EqAt A s v w false) (r:RcLt A s v w b):LexR A s (v::vs) (w::ws) b
section
open PySem.SeqAt
open PySem.AutoSeq1 (wpAny_loadPart')
open PySem.MeetsSeq PySem.MeetsSeq2 PySem.MeetsSeq3
theorem yN (l b:Addr) (items items2:Array Value) (n n2:Nat) (dd dd2:Option Addr) (sl sl2:Array (Option Value)) (r:Bool) :
  Meets (Builtin.«tuple.__lt__» ⟨[.ref l,.ref b],[]⟩)
   (fun A R s=>s.heap.get? l=some { cls:=.type "tuple",dict:=dd,data:=.seq items n,slots:=sl }/\s.heap.get? b=some { cls:=.type "tuple",dict:=dd2,data:=.seq items2 n2,slots:=sl2 } /\
    LexR A.in1 s items.toList items2.toList r/\R (.ok (.ret (.bool r))) s):=
 .of_wp fun prog w A R s h=>by
  obtain ⟨hp,g,d,tk,os⟩:=s;obtain ⟨hl,hb,hL,h⟩:=h;have f2:=AutoSeq1.sub_tuple_tuple
  wp_walk using wpAny_loadPart' hl,wpAny_loadPart' hb,wpAny_forIn_list _ (fun rest b s'=>b.1=none/\s'=⟨hp,g,d,tk,os⟩/\∃(vs ws:List Value) (r':Bool),rest=vs.zip ws /\
   LexR A.in1 ⟨hp,g,d,tk,os⟩ vs ws r'/\vs.length+items2.size=ws.length+items.size/\R (.ok (.ret (.bool r'))) ⟨hp,g,d,tk,os⟩) _
  case turn=>
   rintro ⟨y,x⟩ rest b s' ⟨hb',rfl,vs,ws,r',hz,hL',hlen,hR⟩
   cases hL' with
   | nn=>rw [List.zip_nil_left] at hz;cases hz
   | nc=>rw [List.zip_nil_left] at hz;cases hz
   | cn=>rw [List.zip_nil_right] at hz;cases hz
   | eq he hr=>
    rw [List.zip_cons_cons] at hz
    injection hz with hyx hrest
    injection hyx with hy hx
    subst hy hx
    simp only [List.length_cons] at hlen
    refine δ (he prog w _ _ ?_)
    wp_walk
    exact ⟨rfl,rfl,_,_,_,hrest,hr,by lia,hR⟩
   | lt he hr=>
    rw [List.zip_cons_cons] at hz
    injection hz with hyx hrest
    injection hyx with hy hx
    subst hy hx
    refine δ (he prog w _ _ ?_)
    have hri:=hr prog w
    wp_walk using hri
    exact ⟨_,rfl,by simpa using hR⟩
  case fin=>
   rintro ⟨b1,b2⟩ s' ⟨hb',rfl,vs,ws,r',hz,hL',hlen,hR⟩
   simp only at hb'
   subst hb'
   have hv:r'=decide (items.size<items2.size):=by
    cases hL' with
    | nn=>simp only [List.length_nil] at hlen;exact (decide_eq_false (by lia)).symm
    | nc=>simp only [List.length_nil,List.length_cons] at hlen;exact (decide_eq_true (by lia)).symm
    | cn=>simp only [List.length_nil,List.length_cons] at hlen;exact (decide_eq_false (by lia)).symm
    | eq _ _=>rw [List.zip_cons_cons] at hz;cases hz
    | lt _ _=>rw [List.zip_cons_cons] at hz;cases hz
   rw [hv] at hR
   wp_walk
   exact ⟨_,rfl,by simpa [Builtin.Tuple.tupleCompareSizes] using hR⟩
  case h=>exact ⟨rfl,rfl,items.toList,items2.toList,r,rfl,hL,by simp;lia,h⟩
theorem RcLt.tuples {A:Around} {s:Shared} {l b:Addr} {items items2:Array Value} {r:Bool} (hl:s.heap.IsTuple l items) (hb:s.heap.IsTuple b items2) (hL:LexR A.in1 s items.toList items2.toList r) (hu:A.units<cLine):RcLt A s (.ref l) (.ref b) r:=fun prog w E Q h=>by
 obtain ⟨⟨cls,dd,data,sl⟩,ho,hc,n,hd⟩:=id hl;obtain ⟨⟨cls2,dd2,data2,sl2⟩,ho2,hc2,n2,hd2⟩:=id hb;simp only at hc hd hc2 hd2;subst hc hd hc2 hd2;exact richCompare_meets_room (op:=.Lt) ⟨_,ho,rfl⟩ ⟨_,ho2,rfl⟩ PySem.F.slot_tuple_lt PySem.F.entry_tuple_lt (PySem.F.args_tuple_lt_2 _ _) (yN l b items items2 n n2 dd dd2 sl sl2 r)
  ⟨ho,ho2,hL,show Value.bool r≠Value.notImplemented/\Q (.bool r) s from ⟨(fun x=>nomatch x),h⟩⟩ hu
end
mutual
theorem Y6:∀{d:D},d.oi=true->d.pl=true
 | .int _,_=>rfl
 | .tup ds,h=>by simp only [D.pl];exact Qf (by simpa only [D.oi] using h)
 | .non,p=>by simp [D.oi] at p
 | .bl _,p=>by simp [D.oi] at p
 | .str _,p=>by simp [D.oi] at p
 | .lst _,p=>by simp [D.oi] at p
 | .dk _ _,p=>by simp [D.oi] at p
 | .dt _ _,p=>by simp [D.oi] at p
 | .dn _ _,p=>by simp [D.oi] at p
 | .scr _,p=>by simp [D.oi] at p
 | .exc _ _,p=>by simp [D.oi] at p
theorem Qf:∀{ds:List D},ois ds=true->pls ds=true
 | [],_=>rfl
 | d::ds,h=>by simp only [ois,Bool.and_eq_true] at h;simp only [pls,Y6 h.1,Qf h.2,Bool.and_self]
end
section
variable {X:Cx} {pins:List (Addr×Obj)} {U:St} {H:Hp} {s:Shared}
theorem Qe (I:Inv X pins U H s) (hu:A.units+n<cLine) (lt:∀{d e:D} {x y:V} {u v:Value} {b:Bool},d.oi=true->e.oi=true->d.dep<=n->RD X.K H d x->RD X.K H e y->RelV x u->RelV y v->g7 d e=some b->RcLt A s u v b) :
  ∀{ds es:List D} {xs ys:List V} {us vs:List Value} {b:Bool},ois ds=true->ois es=true->i9 ds<=n->RDs X.K H ds xs->RDs X.K H es ys->Vals xs us->Vals ys vs->o8 ds es=some b->LexR A s us vs b
 | [],[],_,_,_,_,b,_,_,_,r1,r2,q1,q2,h=>by simp only [RDs] at r1 r2;subst r1;subst r2;cases q1;cases q2;simp only [o8,Option.some.injEq] at h;subst h;exact .nn
 | [],e::es,_,_,_,_,b,_,_,_,r1,r2,q1,q2,h=>by simp only [RDs] at r1 r2;subst r1;obtain ⟨y,ys,rfl,_,_⟩:=r2;cases q1;cases q2;simp only [o8,Option.some.injEq] at h;subst h;exact .nc
 | d::ds,[],_,_,_,_,b,_,_,_,r1,r2,q1,q2,h=>by simp only [RDs] at r1 r2;subst r2;obtain ⟨y,ys,rfl,_,_⟩:=r1;cases q1;cases q2;simp only [o8,Option.some.injEq] at h;subst h;exact .cn
 | d::ds,e::es,_,_,_,_,b,p1,p2,hd,r1,r2,q1,q2,h=>by
  simp only [RDs] at r1 r2;obtain ⟨x,xs,rfl,rx,rxs⟩:=r1;obtain ⟨y,ys,rfl,ry,rys⟩:=r2;simp only [ois,Bool.and_eq_true] at p1 p2;simp only [i9] at hd;cases q1 with
  | cons a1 a2=>
   cases q2 with
   | cons b1 b2=>
    have eq:=Ac (A:=A) I n (Y6 p1.1) (Y6 p2.1) (by lia) hu rx ry a1 b1
    simp only [o8] at h
    split at h
    . rename_i w;rw [w] at eq;exact .eq eq (Qe I hu lt p1.2 p2.2 (by lia) rxs rys a2 b2 h)
    . rename_i w;rw [show eqD d e=false by simpa using w] at eq;exact .lt eq (lt p1.1 p2.1 (by lia) rx ry a1 b1 h)
theorem Uy (h:g7 d e=some b):(∃i j,d=.int i/\e=.int j/\b=decide (i<j))\/∃ds es,d=.tup ds/\e=.tup es/\o8 ds es=some b:=by
 cases d with
 | int i=>cases e with
  | int j=>exact .inl ⟨_,_,rfl,rfl,(Option.some.inj h).symm⟩
  | _=>exact nomatch h
 | tup ds=>cases e with
  | tup es=>exact .inr ⟨_,_,rfl,rfl,h⟩
  | _=>exact nomatch h
 | _=>exact nomatch h
theorem jW (I:Inv X pins U H s):∀(n:Nat) {A:Around} {d e:D} {x y:V} {u v:Value} {b:Bool},A.units+n<cLine->d.oi=true->e.oi=true->d.dep<=n->RD X.K H d x->RD X.K H e y->RelV x u->RelV y v->g7 d e=some b->RcLt A s u v b:=by
 intro n;induction n with
 | zero=>
  intro A d e x y u v b hu p1 p2 hd rx ry ru rv h
  rcases Uy h with ⟨i,j,rfl,rfl,rfl⟩ | ⟨ds,es,rfl,rfl,h⟩
  . cases rx.int;cases ry.int;obtain ⟨t,rfl⟩:=ru;obtain ⟨t',rfl⟩:=rv;exact fun prog w E Q q=>HT.rcLt_int A s _ _ _ _ prog w E Q q
  . simp only [D.dep] at hd;lia
 | succ n ih=>
  intro A d e x y u v b hu p1 p2 hd rx ry ru rv h
  rcases Uy h with ⟨i,j,rfl,rfl,rfl⟩ | ⟨ds,es,rfl,rfl,h⟩
  . cases rx.int;cases ry.int;obtain ⟨t,rfl⟩:=ru;obtain ⟨t',rfl⟩:=rv;exact fun prog w E Q q=>HT.rcLt_int A s _ _ _ _ prog w E Q q
  . obtain ⟨a,xs,rfl,ha,ra⟩:=rx.tup;obtain ⟨c,ys,rfl,hc,rc⟩:=ry.tup;cases ru;cases rv;obtain ⟨its,r1,t1⟩:=I.tupA ha;obtain ⟨its2,r2,t2⟩:=I.tupA hc;simp only [D.dep] at hd;simp only [D.oi] at p1 p2;have hu1:A.in1.units+n<cLine:=by show A.units+1+n<cLine;lia
    exact RcLt.tuples t1 t2 (Qe I hu1 (fun {d e x y u v b} q1 q2 q3 q4 q5 q6 q7 q8=>ih hu1 q1 q2 q3 q4 q5 q6 q7 q8) p1 p2 (by lia) ra rc r1 r2 h) (by lia)
end
end L2
namespace L2
open PySem PySem.Spec PyProof.Rows
section
variable {prog:Program} {w:World} {A:Around} {E:Value->Shared->Prop} {s:Shared}
theorem yM (ho:s.heap.get? a=some (seqObj "list" vs.toArray n)) (hs:vs.length<2)
  (h:P (.done (.ret .none)) { s with heap:=sortedHeap s.heap a vs ((pairsOf vs).map (·.2)) }):wpAny (model prog w) A (Builtin.«list.sort» ⟨[.ref a],[]⟩) P E s:=by
 rw [list_sort_plain]
 have ha:a<s.heap.objs.size:=π ho
 refine δ (listItems_at ho rfl ?_)
 refine δ (listUpdate_at ho rfl ?_)
 obtain ⟨e1,ho1⟩:∃e1,(s.heap.update a (Obj.mapSeq fun _=>#[])).get? a=some (seqObj "list" #[] e1):=⟨_,get?_update_seq ho (fun _=>#[])⟩
 refine δ (seqEpoch_at ho1 rfl ?_)
 refine δ (wpAny_newTuple ?_)
 refine δ (wpAny_newList ?_)
 refine wpAny_holding ?_
 have ho6:(((s.heap.update a (Obj.mapSeq fun _=>#[])).push (seqObj "tuple" vs.toArray 0)).push (seqObj "list" #[] 0)).get? a=some (seqObj "list" #[] e1):=by rw [Heap.get?_push_ne _ _ _ (by rw [size_push',Heap.size_update];exact Nat.ne_of_lt (Nat.lt_succ_of_lt ha)),Heap.get?_push_ne _ _ _ (by rw [Heap.size_update];exact Nat.ne_of_lt ha)];exact ho1
 show wpAny (model prog w) A _ P E { s with heap:=((s.heap.update a (Obj.mapSeq fun _=>#[])).push (seqObj "tuple" vs.toArray 0)).push (seqObj "list" #[] 0) }
 dsimp only
 have hsz:vs.toArray.size=vs.length:=by simp
 have h2:vs.toArray.size<2:=by rw [hsz];exact hs
 rw [ξ h2,ξ h2]
 refine δ (ω ?_)
 rw [StateT.run_pure]
 refine δ (ω ?_)
 dsimp only
 refine δ (seqEpoch_at ho6 rfl ?_)
 refine δ (listUpdate_at ho6 rfl ?_ (hsz2:=by rw [Array.size_map];show (pairsOf vs).size<=_;rw [pairsOf_size,sizeLine_eq];lia))
 simp only [bne_self_eq_false,Bool.false_eq_true,if_false]
 exact ω h
theorem zz (hl:s.heap.IsList l vs.toArray) (hs:vs.length<2)
  (h:Q (.ref (s.heap.objs.size+1)) { s with heap:=sortedAll s.heap vs ((pairsOf vs).map (·.2)) }):wpAny (model prog w) A (call (.builtin "sorted") [.ref l]) Q E s:=by
 refine Calls.call_function_entry kind_sorted plain_sorted entry_sorted (args_sorted1 _) ?_
 unfold Builtin.«sorted»
 refine δ (m:=checkCount "sorted" 1 1 _) (ω ?_)
 refine δ (collect_list hl ?_ (by rw [sizeLine_eq];omega))
 refine δ (wpAny_newList ?_ (by rw [sizeLine_eq];omega))
 have hsz:((s.heap.push (seqObj "list" #[] 0)).update s.heap.objs.size (Obj.mapSeq (·++vs.toArray))).objs.size=s.heap.objs.size+1:=by rw [Heap.size_update,size_push']
 have hoL:(((s.heap.push (seqObj "list" #[] 0)).update s.heap.objs.size (Obj.mapSeq (·++vs.toArray))).push (seqObj "list" vs.toArray 0)).get? (s.heap.objs.size+1)=some (seqObj "list" vs.toArray 0):=by rw [<-hsz];exact Ψ _ rfl
 show wpAny _ _ _ _ _ { s with heap:=((s.heap.push (seqObj "list" #[] 0)).update s.heap.objs.size (Obj.mapSeq (·++vs.toArray))).push (seqObj "list" vs.toArray 0) }
 rw [hsz]
 refine δ (wpAny_holding (wpAny_call_entry slot_list_sort ⟨_,hoL,rfl⟩ entry_list_sort (yM hoL hs ⟨_,rfl,?_⟩) (args_list_sort _)))
 exact ω ⟨_,rfl,h⟩
end
noncomputable def isI:D->Bool
 | .int _=>true
 | _=>false
noncomputable def E1:D->Bool
 | .tup (.int _::_)=>true
 | _=>false
noncomputable def L7:D->Bool
 | .tup (.tup _::_)=>true
 | _=>false
def Hr (ds:List D):Bool:=decide (ds.length<64)&&ois ds&&decide (i9 ds<=20)&&ds.all (fun d=>ds.all fun e=>(g7 d e).isSome)&&(ds.all isI||ds.all E1||ds.all L7)
def Sf:List D->Option D
 | [.lst ds]=>if Hr ds=true then some (.lst (v7 ds)) else none
 | _=>none
theorem RDs.pick {K:Frag} {H:Hp} {ds:List D} {ys:List V} (r:RDs K H ds ys):∀{is:List Nat},(∀i∈is,i<ys.length)->RDs K H (is.map fun i=>ds.getD i (.int 0)) (is.map fun i=>ys.getD i .non)
 | [],_=>by simp [RDs]
 | i::is,h=>by
  have hi:=h i List.mem_cons_self;have hy:ys[i]?=some ys[i]:=by simp [hi]
  obtain ⟨d,h1,h2⟩:=r.get hy;simp only [List.map_cons];refine .cons ?_ (RDs.pick r fun j hj=>h j (List.mem_cons_of_mem _ hj));rw [List.getD_eq_getElem?_getD,List.getD_eq_getElem?_getD,h1,hy];exact h2
section
variable {X:Cx} {pins:List (Addr×Obj)} {U:St} {H:Hp} {s:Shared}
theorem Vals.pick (r:Vals ys its):∀{is:List Nat},(∀i∈is,i<ys.length)->Vals (is.map fun i=>ys.getD i .non) (is.map fun i=>its.getD i Value.none)
 | [],_=>.nil
 | i::is,h=>by
  have hi:=h i List.mem_cons_self;have hy:ys[i]?=some ys[i]:=by simp [hi]
  obtain ⟨u,h1,h2⟩:=r.get hy;simp only [List.map_cons];refine .cons ?_ (Vals.pick r fun j hj=>h j (List.mem_cons_of_mem _ hj));rw [List.getD_eq_getElem?_getD,List.getD_eq_getElem?_getD,h1,hy];exact h2
theorem Se (I:Inv X pins U H s) (hu:A.units+20<cLine) (q:Q r s) :
  ∀{ds es:List D} {xs ys:List V} {us vs:List Value} (i:Nat),(b=true->i=0->(∃k r,ds=.int k::r)/\∃k r,es=.int k::r)->ois ds=true->ois es=true->i9 ds<=20->RDs X.K H ds xs->RDs X.K H es ys->Vals xs us->Vals ys vs->o8 ds es=some r ->
   fin=decide (us.length<vs.length)->PySem.W.KatLex X.prog X.w A b fin Q (us.zip vs) i s
 | [],[],_,_,_,_,i,_,_,_,_,r1,r2,q1,q2,h,hf=>by simp only [RDs] at r1 r2;subst r1;subst r2;cases q1;cases q2;simp only [o8,Option.some.injEq] at h;subst h;simp at hf;subst hf;exact q
 | [],e::es,_,_,_,_,i,_,_,_,_,r1,r2,q1,q2,h,hf=>by simp only [RDs] at r1 r2;subst r1;obtain ⟨y,ys,rfl,_,_⟩:=r2;cases q1;cases q2;simp only [o8,Option.some.injEq] at h;subst h;simp at hf;subst hf;exact q
 | d::ds,[],_,_,_,_,i,_,_,_,_,r1,r2,q1,q2,h,hf=>by simp only [RDs] at r1 r2;subst r2;obtain ⟨y,ys,rfl,_,_⟩:=r1;cases q1;cases q2;simp only [o8,Option.some.injEq] at h;subst h;simp at hf;subst hf;exact q
 | d::ds,e::es,_,_,_,_,i,hb,p1,p2,hd,r1,r2,q1,q2,h,hf=>by
  simp only [RDs] at r1 r2;obtain ⟨x,xs,rfl,rx,rxs⟩:=r1;obtain ⟨y,ys,rfl,ry,rys⟩:=r2;simp only [ois,Bool.and_eq_true] at p1 p2;simp only [i9] at hd;cases q1 with
  | cons a1 a2=>
   cases q2 with
   | cons b1 b2=>
    have eq:=Ac (A:=A) I 20 (Y6 p1.1) (Y6 p2.1) (by lia) hu rx ry a1 b1
    rw [List.zip_cons_cons]
    refine PySem.W.kat_cons (eq X.prog X.w _ _ ?_)
    simp only [o8] at h
    simp only [List.length_cons,Nat.add_lt_add_iff_right] at hf
    split at h
    . rename_i w;rw [w];exact PySem.W.kat_yes (Se I hu q (i+1) (fun _ z=>by lia) p1.2 p2.2 (by lia) rxs rys a2 b2 h hf)
    . rename_i w;rw [show eqD d e=false by simpa using w];refine PySem.W.kat_no ?_;by_cases hbi:(b&&i==0)=true
      . rw [hbi];simp only [Bool.and_eq_true,beq_iff_eq] at hbi;obtain ⟨⟨k1,s1,e1⟩,k2,s2,e2⟩:=hb hbi.1 hbi.2;cases e1;cases e2;cases rx.int;cases ry.int;obtain ⟨t,rfl⟩:=a1;obtain ⟨t',rfl⟩:=b1;refine oneLt_int ?_;simp only [g7,Option.some.injEq] at h;rw [h];exact q
      . rw [show (b&&i==0)=false by simpa using hbi];exact PySem.W.kat_one _ _ (jW I 20 hu p1.1 p2.1 (by lia) rx ry a1 b1 h X.prog X.w _ _ q)
theorem Qd (I:Inv X pins U H s) (T:Bool):∀{ds:List D} {xs:List V} {us:List Value},(∀d∈ds,(if T=true then L7 d else E1 d)=true)->RDs X.K H ds xs->Vals xs us ->
  ∃fs:List Value,PySem.W.KatTups s.heap us fs/\fs.length=ds.length/\∀v∈fs,Looks M s.heap (typeOf v) (.type (if T=true then "tuple" else "int"))
 | [],_,_,_,r,q=>by simp only [RDs] at r;subst r;cases q;exact ⟨[],trivial,rfl,fun v hv=>by cases hv⟩
 | d::ds,_,_,h,r,q=>by
  simp only [RDs] at r;obtain ⟨x,xs,rfl,rx,rxs⟩:=r;cases q with
  | cons q1 q2=>
   obtain ⟨fs,h1,h2,h3⟩:=Qd (M:=M) I T (fun d hd=>h d (List.mem_cons_of_mem _ hd)) rxs q2
   have hd:=h d List.mem_cons_self
   cases T with
   | false=>
    rw [ψ η] at hd
    cases d<;>simp only [E1] at hd<;>first | cases hd | skip
    rename_i es
    cases es with
    | nil=>simp at hd
    | cons e es=>
     cases e<;>simp at hd
     obtain ⟨a,ys,rfl,ha,ra⟩:=rx.tup
     cases q1
     obtain ⟨its,rv,t⟩:=I.tupA ha
     simp only [RDs] at ra
     obtain ⟨y,ys,rfl,ry,rys⟩:=ra
     cases ry.int
     cases rv with
     | cons v1 v2=>
      obtain ⟨tk,rfl⟩:=v1
      obtain ⟨o,ho,hc,n,hdt⟩:=t
      refine ⟨_::fs,PySem.W.KatTups.cons ho hc hdt rfl h1,by simp [h2],fun v hv=>?_⟩
      rcases List.mem_cons.mp hv with rfl | hv
      . exact .now
      . exact h3 v hv
   | true=>
    rw [ξ rfl] at hd
    cases d<;>simp only [L7] at hd<;>first | cases hd | skip
    rename_i es
    cases es with
    | nil=>simp at hd
    | cons e es=>
     cases e<;>simp at hd
     obtain ⟨a,ys,rfl,ha,ra⟩:=rx.tup
     cases q1
     obtain ⟨its,rv,t⟩:=I.tupA ha
     simp only [RDs] at ra
     obtain ⟨y,ys,rfl,ry,rys⟩:=ra
     obtain ⟨a2,ys2,rfl,ha2,ra2⟩:=ry.tup
     cases rv with
     | cons v1 v2=>
      cases v1
      obtain ⟨its2,rv2,o2,ho2,hc2,_⟩:=I.tupA ha2
      obtain ⟨o,ho,hc,n,hdt⟩:=t
      refine ⟨_::fs,PySem.W.KatTups.cons ho hc hdt rfl h1,by simp [h2],fun v hv=>?_⟩
      rcases List.mem_cons.mp hv with rfl | hv
      . have lk:Looks M s.heap (typeOf (.ref a2)) o2.cls:=(PySem.W.Looks.ld ho2).andThen .now;rw [hc2] at lk;exact lk
      . exact h3 v hv
theorem Vals.getD (r:Vals ys its) (h:i<ys.length):RelV (ys.getD i .non) (its.getD i Value.none):=by
 have hy:ys[i]?=some ys[i]:=by simp [h]
 obtain ⟨u,h1,h2⟩:=r.get hy;rw [List.getD_eq_getElem?_getD,List.getD_eq_getElem?_getD,h1,hy];exact h2
theorem RDs.getD (r:RDs X.K H ds ys) (h:i<ys.length):RD X.K H (ds.getD i (.int 0)) (ys.getD i .non):=by
 have hy:ys[i]?=some ys[i]:=by simp [h]
 obtain ⟨d,h1,h2⟩:=r.get hy;rw [List.getD_eq_getElem?_getD,List.getD_eq_getElem?_getD,h1,hy];exact h2
theorem G5 {α:Type} {l:List α} {i:Nat} {d:α} (h:i<l.length):l.getD i d∈l:=by rw [List.getD_eq_getElem?_getD,List.getElem?_eq_getElem h];exact List.getElem_mem h
end
noncomputable def W8 (n:Nat) (x:Int):Nat:=if x<0 then (x+(n:Int)).toNat else min x.toNat n
def p6 {α:Type} (xs:List α) (x:Int) (y:α):List α:=xs.take (W8 xs.length x)++y::xs.drop (W8 xs.length x)
def Sd:V->List V->Hp->VK->Prop:=fun o vs H Q=>∃l xs i y,o=.ref l/\vs=[.int i,y]/\H l=some (.lst xs)/\-(2 ^ 63)<=i/\i<2 ^ 63/\xs.length<sizeLine/\Q .non (upd H l (.lst (p6 xs i y)))
theorem Vals.ins (r:Vals xs its) (ru:RelV y u) (i:Int):Vals (p6 xs i y) (p6 its i u):=by unfold p6;rw [r.length];exact (r.take _).append (.cons ru (r.drop _))
theorem Wv (xs:List α) (i:Int) (y:α):(p6 xs i y).length=xs.length+1:=by unfold p6;rw [θ,List.length_take,List.length_cons,List.length_drop];omega
section
variable {X:Cx} {K:Frag}
theorem Ee:MtM X "list.insert" Sd:=by intro pins s U H x vs v us Q I rx rv h;obtain ⟨l,xs,i,y,rfl,rfl,hH,h1,h2,hz,q⟩:=h;cases rx;obtain ⟨u,w,rfl,ru,rw'⟩:=rv.two;obtain ⟨t,rfl⟩:=ru;obtain ⟨z,its,n,r,hl,e⟩:=I.lstM hH;refine call_meets PySem.F.slot_list_insert ⟨_,e,rfl⟩ PySem.F.entry_list_insert (PySem.F.args_list_insert_3 _ _ _) (PySem.AutoSeq1.list_insert_list_int_val_1 l its.toArray n i t w (by simp [fitsIndex_both h1 h2]) (by rw [List.size_toArray];lia)) ⟨e,?_⟩;refine ⟨.non,_,I.lset (its':=p6 its i w) hH e ?_ (r.ins rw' i) (by rw [Wv];lia),rfl,q⟩;show ((its.toArray.extract 0 (W8 its.toArray.size i)).push w++its.toArray.extract (W8 its.toArray.size i))=(p6 its i w).toArray;unfold p6;apply Array.toList_inj.mp;simp;exact List.take_of_length_le (by simp)
def w6:D->List D->Option D
 | .lst ds,[.int i,d]=>if -(2 ^ 63)<=i/\i<2 ^ 63/\ds.length<100000 then some (.lst (p6 ds i d)) else none
 | _,_=>none
theorem RDs.ins (r:RDs K H ds xs) (ry:RD K H d y) (i:Int):RDs K H (p6 ds i d) (p6 xs i y):=by unfold p6;rw [<-r.length];exact (r.take _).append (.cons ry (r.drop _))
theorem Cv:I0 K w6 Sd:=by
 intro H0 H a d d' ds vs Q s h0 ob r hm k;unfold w6 at hm;split at hm<;>first | cases hm | skip
 split at hm<;>cases hm;rename_i es i e hl;simp only [OB] at ob;obtain ⟨xs,hx,rx⟩:=ob;obtain ⟨y,z,rfl,q1,q2⟩:=r.duo;cases q1.int;refine ⟨a,xs,_,z,rfl,rfl,hx,hl.1,hl.2.1,by rw [<-rx.length];exact Eg hl.2.2,k _ _ ?_⟩;simp only [OB];exact ⟨_,i8,rx.ins q2 _⟩
noncomputable def o6 (n:Int) (ns:List Int):Int:=ns.foldl (fun a b=>if b > a then b else a) n
noncomputable def p8 (n:Int) (ns:List Int):Int:=ns.foldl (fun a b=>if b<a then b else a) n
theorem U7:∀(ns:List Int) (n:Int),o6 n ns∈n::ns/\∀a∈n::ns,a<=o6 n ns
 | [],n=>by simp [o6]
 | b::ns,n=>by
  have ih:=U7 ns (if b > n then b else n);show o6 (if b > n then b else n) ns∈_/\∀a∈_,a<=o6 (if b > n then b else n) ns;generalize o6 (if b > n then b else n) ns=M at ih;obtain ⟨h1,h2⟩:=ih;constructor
  . rcases List.mem_cons.mp h1 with z | z
    . rw [z];split<;>simp
    . simp [z]
  . intro a ha;have h3:=h2 _ List.mem_cons_self;rcases List.mem_cons.mp ha with rfl | ha
    . split at h3<;>lia
    . rcases List.mem_cons.mp ha with rfl | ha
      . split at h3<;>lia
      . exact h2 a (List.mem_cons_of_mem _ ha)
theorem Sc:∀(ns:List Int) (n:Int),p8 n ns∈n::ns/\∀a∈n::ns,p8 n ns<=a
 | [],n=>by simp [p8]
 | b::ns,n=>by
  have ih:=Sc ns (if b<n then b else n);show p8 (if b<n then b else n) ns∈_/\∀a∈_,p8 (if b<n then b else n) ns<=a;generalize p8 (if b<n then b else n) ns=M at ih;obtain ⟨h1,h2⟩:=ih;constructor
  . rcases List.mem_cons.mp h1 with z | z
    . rw [z];split<;>simp
    . simp [z]
  . intro a ha;have h3:=h2 _ List.mem_cons_self;rcases List.mem_cons.mp ha with rfl | ha
    . split at h3<;>lia
    . rcases List.mem_cons.mp ha with rfl | ha
      . split at h3<;>lia
      . exact h2 a (List.mem_cons_of_mem _ ha)
end
theorem Sb {K:Frag} {h:Heap} {C:Addr} {bmB:List Value} {newId:String} (X:K.In h) (q:PySem.W.excIn K C bmB newId=true) :
  ∃bm N nm qn bs hdct sn sub ab col dd k0 k1 k2 k3 k5 mN,h.get? C=some (excClassObj nm qn C N bs bm hdct sn sub ab col dd k0 k1 k2 k3 k5 newId)/\h.Ns N mN/\mN "__init__"=none/\OwnTail h bmB bm:=by
 unfold PySem.W.excIn at q
 split at q<;>try cases q
 rename_i dd cd sl ho
 split at q<;>try cases q
 rename_i C' bm k0 k1 k2 k3 n k5 hm hs
 simp only [Bool.and_eq_true,beq_iff_eq,Bool.not_eq_true'] at q
 obtain ⟨⟨⟨⟨⟨e1,e2⟩,hdel⟩,ht⟩,hok⟩,hni⟩:=q
 subst e1 e2
 have ho:=X _ _ ho
 cases cd
 dsimp only at hm hdel hok hni
 subst hm hdel
 have hsl:sl=#[k0,k1,k2,k3,some (.builtin n),k5]:=by cases sl;simp only at hs;rw [hs]
 rw [hsl] at ho
 exact ⟨bm,_,_,_,_,_,_,_,_,_,dd,k0,k1,k2,k3,k5,_,ho,.of_isNs (PySem.W.isNs_of_in X hok),PySem.W.nsMap_none_of_in X hok hni,PySem.W.tail_of_in X ht⟩
noncomputable def x6 (K:Frag) (C:Addr) (bmB:List Value) (newId:String):Bool:=match K.lookup C with
 | some ⟨.type "type",_,.cls cd,sl⟩=>(match cd.mro,sl.toList with
  | .ref C'::bm,[_,_,_,_,some (.builtin n),_]=>C'==C&&n==newId&&!cd.hasDel&&PySem.W.tailIn K bmB bm&&cd.hasDict
  | _,_=>false)
 | _=>false
theorem K7 {K:Frag} {h:Heap} {C:Addr} {bmB:List Value} {newId:String} (X:K.In h) (q:x6 K C bmB newId=true) :
  ∃bm N nm qn bs sn sub ab col dd k0 k1 k2 k3 k5,h.get? C=some (excClassObj nm qn C N bs bm true sn sub ab col dd k0 k1 k2 k3 k5 newId)/\OwnTail h bmB bm:=by
 unfold x6 at q
 split at q<;>try cases q
 rename_i dd cd sl ho
 split at q<;>try cases q
 rename_i C' bm k0 k1 k2 k3 n k5 hm hs
 simp only [Bool.and_eq_true,beq_iff_eq,Bool.not_eq_true'] at q
 obtain ⟨⟨⟨⟨e1,e2⟩,hdel⟩,ht⟩,hdc⟩:=q
 subst e1 e2
 have ho:=X _ _ ho
 cases cd
 dsimp only at hm hdel hdc
 subst hm hdel hdc
 have hsl:sl=#[k0,k1,k2,k3,some (.builtin n),k5]:=by cases sl;simp only at hs;rw [hs]
 rw [hsl] at ho
 exact ⟨bm,_,_,_,_,_,_,_,_,dd,k0,k1,k2,k3,k5,ho,PySem.W.tail_of_in X ht⟩
def XCl (K:Frag) (C:Addr) (bmB:List Value) (newId:String):Prop:=PySem.W.excIn K C bmB newId=true\/x6 K C bmB newId=true
theorem Sa {K:Frag} {h:Heap} {C:Addr} {bmB:List Value} {newId:String} (X:K.In h) (q:XCl K C bmB newId) :
  ∃bm N nm qn bs hdct sn sub ab col dd k0 k1 k2 k3 k5,h.get? C=some (excClassObj nm qn C N bs bm hdct sn sub ab col dd k0 k1 k2 k3 k5 newId)/\OwnTail h bmB bm:=by
 rcases q with q | q
 . obtain ⟨bm,N,nm,qn,bs,hdct,sn,sub,ab,col,dd,k0,k1,k2,k3,k5,mN,hC,_,_,T⟩:=Sb X q;exact ⟨bm,N,nm,qn,bs,hdct,sn,sub,ab,col,dd,k0,k1,k2,k3,k5,hC,T⟩
 . obtain ⟨bm,N,nm,qn,bs,sn,sub,ab,col,dd,k0,k1,k2,k3,k5,hC,T⟩:=K7 X q;exact ⟨bm,N,nm,qn,bs,true,sn,sub,ab,col,dd,k0,k1,k2,k3,k5,hC,T⟩
section
variable {X:Cx} {x:Str} {C:Addr} {bmB:List Value} {B newId initId:String} {np cpos pos:Pos} {e:Expr} {es:List Expr} {t:TA} {EX:XW} {fr:Bool} {fs:DE->R (List D)}
theorem xi (FB:ExcBaseFacts B newId initId bmB) (hcalm:X.calm=true) (hg:Gl X x) (hm:X.mg x=some (.ref C)) (hq:PySem.W.excIn X.K C bmB newId=true) (ha:PA X (e::es) t) (E:Hp->Prop)
  (hE:∀(pins:List (Addr×Obj)) (U:St) (H:Hp) (s:Shared) (a:Addr) (s':Shared) (args:List Value),Inv X pins U H s->Heap.MadeExcOf s.heap s'.heap a (.ref C) args->s'.os=s.os->AllBare s'.gens->E H->X.xe (.ref a) s')
  (hdb:(x==("__debug__":Str))=false:=by decide) (he:starEach (e::es) X.env=(false,eval e X.env)::starEach es X.env:=by rfl) (hpl:(backTo cpos (starEach es X.env)).any (·.1)=false:=by rfl) :
  PS X (.Raise (some (.Call (.Name x np) (e::es) [] cpos)) none pos) (fun _ U H=>t U H fun vs H1=>vs.length<=sizeLine/\E H1):=by
 intro pins s U H D I h
 obtain ⟨bm,N,nm,qn,bs,hdct,sn,sub,ab,col,dd,k0,k1,k2,k3,k5,mN,hC,hN,hni,T⟩:=Sb I.ok.mod.kin hq
 refine wpAny_Raise_call_subT (C:=C) (nm:=nm) (q:=qn) (N:=N) (bs:=bs) (bm:=bm) (hdct:=hdct) (sn:=sn) (sub:=sub) (ab:=ab) (col:=col) (dd:=dd) (k0:=k0) (k1:=k1) (k2:=k2) (k3:=k3) (k5:=k5)
  FB (mN:=mN) (T.hasType FB.hasBase) (I.ok.hd hcalm) (by rw [he];show (false||(backTo cpos (starEach es X.env)).any (·.1))=false;rw [hpl];rfl) hni (V0 I hg hm ⟨rfl,?_⟩ hdb)
 have go:=ha cpos pins s U H _ I h
 rw [he] at go ⊢
 refine Calls.evalArgs_plain (wpAny_mono go (fun us s2 ⟨vs,H1,I1,r,hl,hE1⟩=>⟨rfl,by rw [<-r.length];exact hl,I1.bk _ _ hC,hN.keeps I1.bk,T.keeps I1.bk,fun h' a hx=>?_⟩) fun _ _ y=>y)
 exact hE pins U H1 s2 a _ us I1 hx rfl I1.bare hE1
def M9 (c:String) (fs:DE->R (List D)):DS->SR:=fun ρ=>(fs (see ρ)).toS fun ds=>if ds.length<=1000 then .er ⟨c,[]⟩ else .st
theorem vm {K:Frag} {De:Ends} {U:St} {H:Hp} {c:String} (h:TSd K EX fr (M9 c fs) De U H):TAd K EX fs U H fun vs H1=>vs.length<=sizeLine/\EX.p ⟨c,[]⟩ H1:=by
 obtain ⟨Hc,Hb,H0,ρ,sb,R,h⟩:=h;unfold M9 at h;rw [SK.toS] at h;refine ⟨sb.trans R.sb,see ρ,HeOf (List.replicate ρ.length true) ρ U H0 H,R.heH _,by rw [<-U8];exact R.re _,h.mono fun ds z vs H' H0' s e r=>?_⟩;split at z
 . rename_i hl;exact ⟨Jy (by rw [<-r.length];exact hl),z H' ((sb.trans R.sb).trans s)⟩
 . exact z.elim
theorem Jp {c:String} (L:Lnd X EX) (FB:ExcBaseFacts B newId initId bmB) (hcalm:X.calm=true) (hg:Gl X (c:Str)) (hm:X.mg (c:Str)=some (.ref C)) (hq:PySem.W.excIn X.K C bmB newId=true) (ha:QA X EX (e::es) fs)
  (hdb:(((c:Str))==("__debug__":Str))=false:=by decide) (he:starEach (e::es) X.env=(false,eval e X.env)::starEach es X.env:=by rfl) (hpl:(backTo cpos (starEach es X.env)).any (·.1)=false:=by rfl) :
  QS X EX fr (.Raise (some (.Call (.Name (c:Str) np) (e::es) [] cpos)) none pos) (M9 c fs):=
 ⟨(xi FB hcalm hg hm hq ha.h (fun H=>EX.p ⟨c,[]⟩ H) (fun pins U H s a s' args I hx ho hb hp=>L.md pins U H H s a C none s' ⟨c,[]⟩ I (.of hx) (I.hok.kept hx.keeps) (Un.kept hx.keeps) (I.hok.none hx.new) ho hb hm hp (.inl rfl)) hdb he hpl).imp fun _ _ _ q=>vm q⟩
end
theorem yb {M:Model} {A:Around} {E:Value->Shared->Prop} {nm nmD q qD:Str} {C N DD ND:Addr} {bs bm bsD bmD:List Value} {hdct hdctD:Bool} {sn snD:List Str} {sub subD:List Value} {ab abD:Bool} {col colD:Option Bool} {dd ddD:Option Addr} {k0 k1 k2 k3 k5 j0 j1 j2 j3 j5:Option Value} {newId newD:String}
  {h:Heap} {g:Array GenState} {d:Drawn} {t:Nat} {os:OsState} {e:Addr} {oe:Obj} {Q:Bool->Shared->Prop}
  (hC:h.get? C=some (excClassObj nm q C N bs bm hdct sn sub ab col dd k0 k1 k2 k3 k5 newId)) (hD:h.get? DD=some (excClassObj nmD qD DD ND bsD bmD hdctD snD subD abD colD ddD j0 j1 j2 j3 j5 newD)) (he:h.get? e=some oe) (hcls:oe.cls=.ref C)
  (hbase:bmD.contains (.type "BaseException")=true) (hq:Q ((Value.ref C::bm).contains (.ref DD)) ⟨h,g,d,t,os⟩):wpAny M A (excMatches (.ref e) (.ref DD)) Q E ⟨h,g,d,t,os⟩:=by
 have hcB:(Value.ref DD::bmD).contains (.type "BaseException")=true:=by rw [List.contains_cons,hbase,Bool.or_true]
 have f:=tc_notTuple
 unfold excMatches
 repeat (first | (with_reducible refine wpAny_loadPart_at he ?_;rw [hcls]) | with_reducible refine wpAny_loadPart_at hD ?_ | (with_reducible refine wpAny_isSubtype_exc hD ?_;rw [hcB]) | with_reducible refine wpAny_isSubtype_exc hC ?_ | wp_step)
 cases hb:(Value.ref C::bm).contains (.ref DD)<;>(rw [hb] at hq;wp_walk;exact hq)
section
variable {X:Cx} {pins:List (Addr×Obj)} {U:List (Option V)} {H1 H2:Hp} {s1 s2:Shared} {h' B:Heap} {C a T:Addr} {a0:Value} {od:Option Addr}
noncomputable def B0 (a C:Addr) (od:Option Addr):HO:=.ext fun h=>∃ob,h.get? a=some ob/\ob.cls=.ref C/\(∃vs,ob.data=.fields vs)/\ob.dict=od
theorem xh (I:Inv X pins U H1 s1) (x:XOut X.prog X.w X.stack H1 s1 C a od H2 s2) (na:s1.heap.get? a=none) (nT:s1.heap.get? T=none) (ha:H2 a=none) (hT:H2 T=none)
  (keep:∀b o,s2.heap.get? b=some o->b≠a->b≠T->b∉frs X.stack->h'.get? b=some o) (up:s2.heap.UpToSlots h') (hfl:Heap.FlyingW B X.stack a (.ref C) a0 h') (hdc:n6 a od h') :
  Inv X pins U (upd H2 a (B0 a C od)) { s2 with heap:=h' }/\Same H2 (upd H2 a (B0 a C od)):=by
 have F2:=I.stack2 x.un
 have slotF:∀b∈frs X.stack,∀o,s2.heap.get? b=some o->∃sl,h'.get? b=some { o with slots:=sl }:=fun b hb o e=>by obtain ⟨_,o',ho',hd⟩:=F2.mem hb;rw [e] at ho';cases ho';exact up b o e hd
 have ne:∀b o,s1.heap.get? b=some o->b≠a/\b≠T:=fun b o e=>⟨fun z=>(by rw [z,na] at e;cases e),fun z=>(by rw [z,nT] at e;cases e)⟩
 have neH:∀b o,H2 b=some o->b≠a/\b≠T:=fun b o e=>⟨fun z=>(by rw [z,ha] at e;cases e),fun z=>(by rw [z,hT] at e;cases e)⟩
 have frFree:∀b∈frs X.stack,H2 b=none:=fun b hb=>by obtain ⟨_,o,ho,_⟩:=I.stack.mem hb;exact x.un.free b o ho (I.stkFree b hb) (by simp)
 obtain ⟨oe,vs,he,hc,hd,_⟩:=hfl.first
 have un:Un (frs X.stack) [] H1 (upd H2 a (B0 a C od)) s1.heap h':=by
  refine ⟨fun b o e n hb hx=>?_,fun b o e n hb hx=>?_,fun b o e n hx=>?_,fun b o e hx=>?_,fun b xs e=>?_,fun b o u e=>?_,fun b ps e=>?_⟩
  . exact keep b o (x.un.keep b o e n hb hx) (ne b o e).1 (ne b o e).2 hb
  . obtain ⟨sl,e1⟩:=x.un.slot b o e n hb hx;obtain ⟨sl2,e2⟩:=slotF b hb _ e1;exact ⟨sl2,e2⟩
  . rw [b8 (ne b o e).1];exact x.un.free b o e n hx
  . obtain ⟨o1,e1⟩:=x.un.there b o e hx;by_cases hb:b∈frs X.stack
    . obtain ⟨sl,e2⟩:=slotF b hb _ e1;exact ⟨_,e2⟩
    . exact ⟨o1,keep b o1 e1 (ne b o e).1 (ne b o e).2 hb⟩
  . have:=x.un.tups b xs e;rw [b8 (neH b _ this).1];exact this
  . have:=x.un.frzs b o u e;rw [b8 (neH b _ this).1];exact this
  . obtain ⟨m,this⟩:=x.un.tbls b ps e;exact ⟨m,by rw [b8 (neH b _ this).1];exact this⟩
 have hok:HOk X.prog X.w (upd H2 a (B0 a C od)) h':=fun b o e=>by
  by_cases hb:b=a
  . subst hb;rw [i8] at e;cases e;exact ⟨⟨oe,he,hc,⟨vs,hd⟩,hdc _ he⟩,⟨oe,he⟩,fun h1 h2 ⟨ob,z1,z2⟩ k=>⟨ob,k _ z1,z2⟩⟩
  . rw [b8 hb] at e;refine (x.hok b o e).stay (fun c v hc q=>?_) (fun c q=>by rw [b8 (neH c _ q).1];exact q) fun c xs q=>by rw [b8 (neH c _ q).1];exact q
    have hcH:H2 c≠none:=by
     rcases hc with rfl | hc
     . rw [e];exact fun z=>nomatch z
     . rw [hc];exact fun z=>nomatch z
    refine keep c v q (fun z=>hcH (z ▸ ha)) (fun z=>hcH (z ▸ hT)) fun z=>hcH (frFree c z)
 exact ⟨I.call' (s':={ s2 with heap:=h' }) (ch:=[]) x.os un hok x.bare (fun _ z=>nomatch z),Same.upd_new ha⟩
end
section
variable {X:Cx} {pins:List (Addr×Obj)} {U:List (Option V)} {H:Hp} {s:Shared}
theorem Dk (I:Inv X pins U H s) (hN:X.N.Nodup) (hi:X.N[i]?=some n) (hk:X.env.scope.names.lookup n=some .local)
  (h:∀s',Inv X pins (U.set i none) H s'->Q () s'):wpAny M A (do bindName X.env n .none;unbindBehindTheSuite X.env n pos) Q E s:=by
 obtain ⟨m,hn,hl⟩:=id I.loc
 have hcls:(X.env.scope.kind==.class||(X.env.scope.kind==.module&&X.env.locals != X.env.globals))=false:=by rw [I.ok.kind];rfl
 obtain ⟨oL,_,_,hoL,_⟩:=id hn
 refine wpAny_nameGoes_keeps hk hn hcls fun h' v hn' hs=>h _ ?_
 have hok:HOk X.prog X.w H h':=fun b ob e=>by
  refine (I.hok b ob e).stay (fun c w' hc q=>(hs.2 c ?_).trans q) (fun _ q=>q) fun _ _ q=>q
  rintro rfl;rcases hc with rfl | hc
  . rw [I.free] at e;cases e
  . rw [I.free] at hc;cases hc
 have neL:∀b o,X.s₀.heap.get? b=some o->b≠X.env.locals:=fun b o e=>Nat.ne_of_lt (Nat.lt_of_lt_of_le (π e) I.ok.above)
 refine ⟨I.ok,I.os,I.bare,⟨fun b o e n hb hx=>?_,fun b o e n hb hx=>?_,I.base.free,fun b o e hx=>?_,I.base.tups,I.base.frzs,I.base.tbls⟩,⟨_,hn',fun j y v' e1 e2 e3=>?_⟩,fun y c e=>?_,I.free,I.freeC,fun p hp=>?_,hok,by simpa using I.len⟩
 . exact (hs.2 b (neL b o e)).trans (I.base.keep b o e n hb hx)
 . obtain ⟨sl,e1⟩:=I.base.slot b o e n hb hx;exact ⟨sl,(hs.2 b (neL b o e)).trans e1⟩
 . obtain ⟨o',e1⟩:=I.base.there b o e hx;exact ⟨o',(hs.2 b (neL b o e)).trans e1⟩
 . have hj:j≠i:=fun z=>by
    subst z
    by_cases hlt:j<U.length
    . rw [List.getElem?_set_self hlt] at e2;cases e2
    . rw [List.getElem?_eq_none (by simpa using hlt)] at e2;cases e2
   rw [List.getElem?_set_ne (Ne.symm hj)] at e2
   have hyn:y≠n:=fun z=>by subst z;exact hj (Kv hN e1 hi)
   obtain ⟨u,r,l⟩:=hl j y v' e1 e2 e3
   refine ⟨u,r,?_⟩
   rcases l with ⟨k,l⟩ | ⟨k,c,e,ob,z,zd⟩
   . exact .inl ⟨k,(by show (if y=n then v else m y)=some u;rw [ψ hyn];exact l)⟩
   . exact .inr ⟨k,c,e,ob,(hs.2 c (I.cne y c e)).trans z,zd⟩
 . obtain ⟨v,ob,z,zd⟩:=I.cell y c e;exact ⟨v,ob,(hs.2 c (I.cne y c e)).trans z,zd⟩
 . obtain ⟨e,n,ne,nf,d⟩:=I.pin p hp;exact ⟨(hs.2 p.1 ne).trans e,n,ne,nf,d⟩
abbrev Cx.held (X:Cx) (e:Value):Cx:={ X with A:=X.A.mark (some e),calm:=false,xe:=fun _ _=>False }
theorem Inv.held (I:Inv X pins U H s) (e:Value):Inv (X.held e) pins U H s:=
 ⟨⟨I.ok.mod,I.ok.kind,I.ok.glob,I.ok.blt,I.ok.above,I.ok.inj,I.ok.has,I.ok.cab,(fun z=>nomatch z),I.ok.frames,I.ok.stk,I.ok.exf,I.ok.bs,I.ok.bsz,I.ok.noex,I.ok.exfs,I.ok.funs,I.ok.frf⟩,I.os,I.bare,I.base,I.loc,I.cell,I.free,I.freeC,I.pin,I.hok,I.len⟩
theorem Inv.unheld (ok:X.Ok) (I:Inv (X.held e) pins U H s):Inv X pins U H s:=
 ⟨ok,I.os,I.bare,I.base,I.loc,I.cell,I.free,I.freeC,I.pin,I.hok,I.len⟩
theorem Tw (G:i6 X.prog X.w X.K X.mg X.base x ps k sp) (hr:Room j X.A) (hg:Gl X x) (ha:PA X.nox (e::es) t) (I:Inv X pins U H s) (h:t U H fun vs H1=>Same H H1/\sp vs H1 Q E) (hkj:k<=j:=by omega) (hdb:(x==("__debug__":Str))=false:=by decide)
  (he:starEach (e::es) X.env=(false,eval e X.env)::starEach es X.env:=by rfl) (hpl:(backTo pos (starEach es X.env)).any (·.1)=false:=by rfl) :
  wpAny (model X.prog X.w) X.A (eval (.Call (.Name x p) (e::es) [] pos) X.env) (EP X pins U Q) (fun ev s'=>∃H1 s1,Same H H1/\Inv X pins U H1 s1/\CX1 X.prog X.w X.stack H1 s1 E ev s') s:=by
 obtain ⟨f,fd,F,b,m,kp⟩:=G
 refine wpAny_Call_Name_kw (V0 I hg m ?_ hdb)
 have I':Inv X.nox pins U H s:=⟨⟨I.ok.mod,I.ok.kind,I.ok.glob,I.ok.blt,I.ok.above,I.ok.inj,I.ok.has,I.ok.cab,I.ok.hd,I.ok.frames,I.ok.stk,I.ok.exf,I.ok.bs,I.ok.bsz,I.ok.noex,I.ok.exfs,I.ok.funs,I.ok.frf⟩,I.os,I.bare,I.base,I.loc,I.cell,I.free,I.freeC,I.pin,I.hok,I.len⟩
 refine PySem.W.callWith_K (h₀:=X.base) I.ok.mod.kin kp (wpAny_mono (ha pos pins s U H _ I' h) (fun us s1 ⟨vs,H1,I1,r,sH,q⟩=>⟨I1.kIn,?_⟩) fun _ _ z=>z.elim) he hpl
 have I1:Inv X pins U H1 s1:=⟨I.ok,I1.os,I1.bare,I1.base,I1.loc,I1.cell,I1.free,I1.freeC,I1.pin,I1.hok,I1.len⟩
 have hl:us.length=ps.length:=by rw [<-r.length];exact F.len _ _ _ _ q
 have hb:=b s1 us I1.kIn (by rw [List.append_nil];exact hl)
 rw [List.append_nil] at hb
 refine wpAny_call (codeAny_mono (F.run X.A X.stack s1 H1 ⟨us,[]⟩ us vs Q E (hr.mono hkj) I1.env0 hb r q) fun r s' hq=>?_)
 cases r with
 | error e=>exact ⟨H1,s1,sH,I1,hq⟩
 | ok fl=>
  cases fl with
  | ret u=>exact I1.after hq
  | next=>exact False.elim hq
  | brk=>exact False.elim hq
  | cont=>exact False.elim hq
end
structure Lnd5 (X:Cx) (pins:List (Addr×Obj)) (U:St) (H1:Hp) (s1:Shared) (C a:Addr) (od:Option Addr) (H2:Hp) (s2:Shared) (B:Heap) (T:Addr) (a0:Value) (h5:Heap):Prop where
 I:Inv X pins U H1 s1
 x:XOut X.prog X.w X.stack H1 s1 C a od H2 s2
 na:s1.heap.get? a=none
 nT:s1.heap.get? T=none
 ha:H2 a=none
 hT:H2 T=none
 keep:∀b o,s2.heap.get? b=some o->b≠a->b≠T->b∉frs X.stack->B.get? b=some o
 up:s2.heap.UpToSlots h5
 fl:Heap.FlyingW B X.stack a (.ref C) a0 h5
 dc:n6 a od h5
section
variable {X:Cx} {EX:XW} {fr:Bool} {pins:List (Addr×Obj)} {U:St} {H1 H2:Hp} {s1 s2:Shared} {C a T:Addr} {B h5:Heap} {a0:Value} {od:Option Addr}
theorem Lnd5.inv (L:Lnd5 X pins U H1 s1 C a od H2 s2 B T a0 h5):Inv X pins U (upd H2 a (B0 a C od)) { s2 with heap:=h5 }/\Same H2 (upd H2 a (B0 a C od)):=
 xh L.I L.x L.na L.nT L.ha L.hT (fun b o e h1 h2 h3=>L.fl.1 b o (L.keep b o e h1 h2 h3)) L.up L.fl L.dc
theorem Lnd5.again (L:Lnd5 X pins U H1 s1 C a od H2 s2 B T a0 h5) (h:∀h6,Lnd5 X pins U H1 s1 C a od H2 s2 B T a0 h6->Q () { s2 with heap:=h6 }) :
  wpAny (model X.prog X.w) A (setFlight (.ref a) none) Q E { s2 with heap:=h5 }:=
 wpAny_mono (Eh (E:=E) (E':=E) (.flight _ _) (lands_againW (Q:=fun _ s=>∃h',s={ s2 with heap:=h' }/\Heap.FlyingW B X.stack a (.ref C) a0 h'/\h5.UpToSlots h') (s:={ s2 with heap:=h5 }) L.fl fun h' fl up=>⟨h',rfl,fl,up⟩) (Wj (s:={ s2 with heap:=h5 }) L.fl.2.2.2 L.dc)) (fun _ s ⟨⟨h',e,fl,up⟩,d⟩=>by subst e;exact h h' ⟨L.I,L.x,L.na,L.nT,L.ha,L.hT,L.keep,L.up.trans up,fl,d⟩) fun _ _ z=>z.1
theorem Rz (I:Inv X pins U H1 s1) (hst:X.stack=X.env::X.outer) (hf:X.env.frame=some X.env.locals) (x:XOut X.prog X.w X.stack H1 s1 C a od H2 s2)
  (h:∀B T a0 h5,Lnd5 X pins U H1 s1 C a od H2 s2 B T a0 h5->Q () { s2 with heap:=h5 }):wpAny (model X.prog X.w) X.A (noteFrame (.ref a) X.env) (fun _ s'=>wpAny (model X.prog X.w) X.A (setFlight (.ref a) none) Q E s') E s2:=by
 obtain ⟨oe,vs,T,oT,ts,a0,he,hc,h0,hd,h1,hTe,hT,hdT,h3,na,nT,ha,hHT,hod,hnd⟩:=id x.fly
 have F2:=I.stack2 x.un
 have hin:∀env∈X.stack,∀b,env.frame=some b->b∈a::T::frs X.stack:=fun env he b hb=>List.mem_cons_of_mem _ (List.mem_cons_of_mem _ (List.mem_filterMap.mpr ⟨env,he,hb⟩))
 have hfr:X.A.frames=some (X.env::X.outer):=by rw [<-hst];exact I.ok.frames
 have hfl:Heap.FlyingW (hideAll s2.heap (a::T::frs X.stack)) (X.env::X.outer) a (.ref C) a0 s2.heap:=⟨fun b o q=>of_hideAll _ q,hideAll_none _ (.head _),hst ▸ funFrames_hide F2 hin,oe,vs,T,oT,ts,he,⟨hc,h0⟩,hd,h1,hideAll_none _ (.tail _ (.head _)),hTe,hT,hdT,h3⟩
 refine Jv (od:=od) hfr hf hfl (fun o ho=>by rw [he] at ho;cases ho;exact hod) fun h4 hh up4 d4=>?_
 refine Dm (s:={ s2 with heap:=h4 }) hh d4 fun h5 fl up5 d5=>h (hideAll s2.heap (a::T::frs X.stack)) T a0 h5 ⟨I,x,na,nT,ha,hHT,fun b o q h1 h2 h3=>hideAll_get _ q fun z=>?_,up4.trans up5,(by rw [<-hst] at fl;exact fl),d5⟩
 rcases List.mem_cons.mp z with rfl | z
 . exact h1 rfl
 . rcases List.mem_cons.mp z with rfl | z
   . exact h2 rfl
   . exact h3 z
theorem Gi (s:Same H H1) (e:H1 b=none):H b=none:=by
 cases q:H b with
 | none=>rfl
 | some o=>rw [s b o q] at e;cases e
theorem _root_.L2.Fly.newd (f:Fly h0 H' C a od h):∀dx,od=some dx->h0.get? dx=none:=by obtain ⟨_,_,_,_,_,_,_,_,_,_,_,_,_,_,_,_,_,_,_,_,h⟩:=f;exact h
abbrev HD:=Ex->DS->SR
structure QY (X:Cx) (fr:Bool) (sts:List Stmt) (g:DS->SR):Prop where
 h:∀(pins:List (Addr×Obj)) (s:Shared) (U:St) (H:Hp) (De:Ends) (Hc Hb H0:Hp) (ρ:DS) (P:Ex->Hp->Prop),Inv X pins U H s->RS X.K Hc Hb H0 ρ U H->SK X.K ⟨H,P⟩ fr Hc Hb De (g ρ) ->
  wpAny (model X.prog X.w) X.A (execs sts X.env) (SP X pins De) (fun ev s'=>∃H1 s1 x C a od H2,ev=.ref a/\Same H H1/\Inv X pins U H1 s1/\XOut X.prog X.w X.stack H1 s1 C a od H2 s'/\X.mg (Str.ofString (Ex.cls x))=some (.ref C)/\P x H2/\XFs X.K x od H2) s
structure QH (X:Cx) (EX:XW) (fr:Bool) (hs:List ExceptHandler) (hd:HD):Prop where
 h:∀(pins:List (Addr×Obj)) (U:St) (H1:Hp) (s1:Shared) (C a:Addr) (od:Option Addr) (H2:Hp) (s2:Shared) (B:Heap) (T:Addr) (a0:Value) (h5:Heap) (De:Ends) (Hc Hb H0:Hp) (ρ:DS) (x:Ex) (E:Value->Shared->Prop) (H:Hp),Same H H2->(∀dx,od=some dx->H dx=none)->XFs X.K x od H2->Lnd5 X pins U H1 s1 C a od H2 s2 B T a0 h5->X.mg (Str.ofString x.cls)=some (.ref C) ->
  RS X.K Hc Hb H0 ρ U H->SK X.K EX fr Hc Hb De (hd x ρ)->wpAny (model X.prog X.w) X.A (handleBy (.ref a) X.env hs) (SP X pins De) E { s2 with heap:=h5 }
noncomputable def W7 (g:DS->SR) (hd:HD):DS->SR:=fun ρ=>match g ρ with
 | .er x=>hd x ρ
 | r=>r
theorem Yz {body:List Stmt} {h₀:ExceptHandler} {hs:List ExceptHandler} {g:DS->SR} {hd:HD} {pos:Pos} (hst:X.stack=X.env::X.outer) (hf:X.env.frame=some X.env.locals) (hb:QY X fr body g) (hh:QH X EX fr (h₀::hs) hd):QS X EX fr (.Try body (h₀::hs) [] [] pos) (W7 g hd):=by
 refine ⟨fun pins s U H De I h=>?_⟩;obtain ⟨Hc,Hb,H0,ρ,sb,R,h⟩:=h;refine wpAny_Try_except (wpAny_mono (hb.h pins s U H De Hc Hb H0 ρ (fun x H'=>Same H H'/\SK X.K EX fr Hc Hb De (hd x ρ)) I R ?_) (fun f s₁ hq=>?_) fun ev s' ⟨H1,s1,x,C,a,od,H2,e,sH,I1,xo,hm,⟨sm,hk⟩,xf⟩=>?_)
 . unfold W7 at h;cases q:g ρ with
   | nx ρ'=>rw [q] at h;exact h
   | bk ρ'=>rw [q] at h;exact h
   | ct ρ'=>rw [q] at h;exact h
   | rt d=>rw [q] at h;exact h
   | er x=>rw [q] at h;exact fun H' s'=>⟨s',h⟩
   | st=>rw [q] at h;exact h
 . cases f with
   | next=>exact wpAny_execs_nil hq
   | brk=>exact hq
   | cont=>exact hq
   | ret u=>exact hq
 . subst e;exact Rz I1 hst hf xo fun B T a0 h5 L=>hh.h pins U H1 s1 C a od H2 s' B T a0 h5 De Hc Hb H0 ρ x X.xe H sm (fun dx e=>Gi sH (I1.hok.none (xo.fly.newd dx e))) xf L hm R hk
noncomputable def Y5 (g:DS->SR) (hd:HD) (ge:DS->SR):DS->SR:=fun ρ=>match g ρ with
 | .er x=>hd x ρ
 | .nx ρ'=>ge ρ'
 | r=>r
theorem jV {body els:List Stmt} {h₀:ExceptHandler} {hs:List ExceptHandler} {g ge:DS->SR} {hd:HD} {pos:Pos} (hst:X.stack=X.env::X.outer) (hf:X.env.frame=some X.env.locals) (hb:QY X fr body g) (hh:QH X EX fr (h₀::hs) hd) (he:QB X EX fr els ge):QS X EX fr (.Try body (h₀::hs) els [] pos) (Y5 g hd ge):=by
 refine ⟨fun pins s U H De I h=>?_⟩;obtain ⟨Hc,Hb,H0,ρ,sb,R,h⟩:=h;refine wpAny_Try_except (wpAny_mono (hb.h pins s U H { De with nx:=TSd X.K EX fr ge De } Hc Hb H0 ρ (fun x H'=>Same H H'/\SK X.K EX fr Hc Hb De (hd x ρ)) I R ?_) (fun f s₁ hq=>?_) fun ev s' ⟨H1,s1,x,C,a,od,H2,e,sH,I1,xo,hm,⟨sm,hk⟩,xf⟩=>?_)
 . unfold Y5 at h;cases q:g ρ with
   | nx ρ'=>rw [q] at h;exact fun σ' H' H0' R'=>⟨Hc,Hb,H0',ρ',sb,R',h⟩
   | bk ρ'=>rw [q] at h;exact h
   | ct ρ'=>rw [q] at h;exact h
   | rt d=>rw [q] at h;exact h
   | er x=>rw [q] at h;exact fun H' s'=>⟨s',h⟩
   | st=>rw [q] at h;exact h
 . cases f with
   | next=>
    obtain ⟨σ',H',I',q⟩:=hq
    exact he.h pins s₁ σ' H' De I' q
   | brk=>exact hq
   | cont=>exact hq
   | ret u=>exact hq
 . subst e;exact Rz I1 hst hf xo fun B T a0 h5 L=>hh.h pins U H1 s1 C a od H2 s' B T a0 h5 De Hc Hb H0 ρ x X.xe H sm (fun dx e=>Gi sH (I1.hok.none (xo.fly.newd dx e))) xf L hm R hk
end
noncomputable def R.kn {α:Type} (k:String->Bool) (r:R α):R α:=match r with
 | .er x=>if k x.cls=true then .er x else .st
 | r=>r
def D3 (k:String->Bool) (m:List D->R D) (fs:DE->R (List D)):DE->R D:=fun ρ=>(fs ρ).noE.bind fun ds=>(m ds).kn k
theorem SK.ex {K:Frag} {EX EX':XW} {fr:Bool} {Hc Hb:Hp} {De:Ends} {r:SR} (h:SK K EX fr Hc Hb De r) (he:∀x,EX.at x->EX'.at x):SK K EX' fr Hc Hb De r:=by
 cases r with
 | er x=>exact he x h
 | nx ρ=>exact h
 | bk ρ=>exact h
 | ct ρ=>exact h
 | rt d=>exact h
 | st=>exact h
section
variable {X:Cx} {fr frc:Bool} {k:String->Bool} {fs:DE->R (List D)} {mm:List D->R D} {n:Nat} {m:List Bool}
theorem Tv {K:Frag} {mg:Str->Option Value} {Hc Hb H0 H:Hp} {ρ:DS} {U:St} {P:Ex->Hp->Prop} {kk:D->Prop} {Q:VK} (hl:∀ds,ds.length≠n->mm ds=.st) (hk:∀c,k c=true->∃C,mg (Str.ofString c)=some (.ref C)) (R:RS K Hc Hb H0 ρ U H)
  (h:Rk (XW.at ⟨H,P⟩) (D3 k mm fs (vis m ρ)) kk) (hQ:∀d,kk d->∀v H',Out K frc (HeOf m ρ U H0 H) H d v H'->Q v H'):TAd K F0 fs U H fun vs H1=>Same H H1/\spD K mg frc mm n vs H1 Q (eOf K ⟨H,P⟩ mg):=by
 unfold D3 at h
 rw [Rk.bind] at h
 refine ⟨F0.same _,vis m ρ,HeOf m ρ U H0 H,R.heH m,R.re m,(Rk.noE h).mono fun ds h vs H1 H1' s1 e1 r1=>⟨s1,ds,H1',e1.2.1,r1,?_,?_⟩⟩
 . apply Classical.byContradiction;intro hn;rw [hl ds hn] at h;exact h
 . cases q:mm ds with
   | ok d=>rw [q] at h;exact fun v H' o=>hQ d h v H' (o.after s1 e1)
   | st=>rw [q] at h;exact h
   | er x=>
    rw [q] at h
    unfold L2.R.kn at h
    dsimp only at h
    split at h
    . rename_i hx;obtain ⟨C,hC⟩:=hk _ hx;exact fun H' s'=>⟨C,hC,fun od xf=>⟨x,h H' (s1.trans s'),hC,xf⟩⟩
    . exact h.elim
theorem Tu (h:∃H1 s1,Same H H1/\Inv X pins U H1 s1/\CX1 X.prog X.w X.stack H1 s1 (eOf X.K ⟨H,P⟩ X.mg) ev s') :
  ∃H1 s1 x C a od H2,ev=.ref a/\Same H H1/\Inv X pins U H1 s1/\XOut X.prog X.w X.stack H1 s1 C a od H2 s'/\X.mg (Str.ofString (Ex.cls x))=some (.ref C)/\P x H2/\XFs X.K x od H2:=by
 obtain ⟨H1,s1,sH,I,C,a,od,H2,e,xo,x,hp,hm,xf⟩:=h
 exact ⟨H1,s1,x,C,a,od,H2,e,sH,I,xo,hm,hp,xf⟩
theorem Qc {pins:List (Addr×Obj)} {De:Ends} {st:Stmt} {s:Shared} {E:Value->Shared->Prop} (h:wpAny (model X.prog X.w) X.A (exec st X.env) (SP X pins De) E s):wpAny (model X.prog X.w) X.A (execs [st] X.env) (SP X pins De) E s:=by
 refine wpAny_execs_cons (thn h fun f s1 q=>?_);cases f with
 | next=>exact wpAny_execs_nil q
 | ret v=>exact q
 | brk=>exact q
 | cont=>exact q
variable {x:Str} {p cpos pos:Pos} {e:Expr} {es:List Expr} {ps:List Str} {kl j kk':Nat} {gg:DS->SR}
theorem jU (hk:∀c,k c=true->∃C,X.mg (Str.ofString c)=some (.ref C)) (G:i6 X.prog X.w X.K X.mg X.base x ps kl (spD X.K X.mg frc (mOf frc n kk' gg) n)) (hr:Room j X.A) (hg:Gl X x) (ha:QA X.nox F0 (e::es) fs) (hkj:kl<=j:=by omega) (hdb:(x==("__debug__":Str))=false:=by decide)
  (he:starEach (e::es) X.env=(false,eval e X.env)::starEach es X.env:=by rfl) (hpl:(backTo cpos (starEach es X.env)).any (·.1)=false:=by rfl) (hs:swapsWith (.Call (.Name x p) (e::es) [] cpos) none pos.line X.env=pure false:=by rfl) :
  QY X fr [.Expr (.Call (.Name x p) (e::es) [] cpos) pos] (J8 (D3 k (mOf frc n kk' gg) fs)):=by
 refine ⟨fun pins s U H De Hc Hb H0 ρ P I R h=>?_⟩
 unfold J8 at h
 rw [SK.toS,<-U8] at h
 refine Qc (wpAny_Expr_any (wpAny_mono (Tw (Q:=fun _ H'=>De.nx U H') G hr hg ha.h I (Tv Do hk R h fun d z v H' o=>z U H' H0 (R.grow o.1)) hkj hdb he hpl) (fun v s1 ⟨y,H1,I1,r1,q1⟩=>⟨U,H1,I1,q1⟩) fun ev s' z=>Tu z) I.quiet hs)
theorem Yy {i:Nat} {v:Str} {pv:Pos} (hk:∀c,k c=true->∃C,X.mg (Str.ofString c)=some (.ref C)) (hN:X.N.Nodup) (hi:X.N[i]?=some v) (hx:Loc X.env.scope v) (G:i6 X.prog X.w X.K X.mg X.base x ps kl (spD X.K X.mg frc (mOf frc n kk' gg) n)) (hr:Room j X.A) (hg:Gl X x) (ha:QA X.nox F0 (e::es) fs) (hkj:kl<=j:=by omega) (hdb:(x==("__debug__":Str))=false:=by decide)
  (he:starEach (e::es) X.env=(false,eval e X.env)::starEach es X.env:=by rfl) (hpl:(backTo cpos (starEach es X.env)).any (·.1)=false:=by rfl) (hs:swapsWith (.Call (.Name x p) (e::es) [] cpos) (some (.Name v pv)) pos.line X.env=pure false:=by rfl)
  (hf:X.fn v=true\/X.env.scope.names.lookup v=some .local:=by first | exact .inl rfl | exact .inr rfl | assumption) :
  QY X fr [.Assign [.Name v pv] (.Call (.Name x p) (e::es) [] cpos) pos] (b9 frc i m (D3 k (mOf frc n kk' gg) fs)):=by
 refine ⟨fun pins s U H De Hc Hb H0 ρ P I R h=>?_⟩
 unfold b9 at h
 rw [SK.toS] at h
 refine Qc (wpAny_Assign_Name (wpAny_mono (Tw (Q:=fun u H'=>De.nx (U.set i (some u)) H') G hr hg ha.h I (Tv Do hk R h fun d z u H' o=>?_) hkj hdb he hpl) (fun u s1 ⟨y,H1,I1,r1,q1⟩=>?_) fun ev s' z=>Tu z) hs)
 . obtain ⟨H0n,R',a⟩:=R.out o;exact z _ H' H0n (R'.put a i)
 . exact Ec I1 hN hi hx r1 (fun s2 I2=>⟨_,H1,I2,q1⟩) hf
end
noncomputable def W6:HD:=fun _ _=>.st
noncomputable def SR.gone (i:Nat):SR->SR
 | .nx ρ=>.nx (ρ.set i .em)
 | .bk ρ=>.bk (ρ.set i .em)
 | .ct ρ=>.ct (ρ.set i .em)
 | .rt d=>.rt d
 | _=>.st
def hAs (tb:String->Option Bool) (i:Nat) (g:DS->SR) (r:HD):HD:=fun x ρ=>match tb x.cls with
 | some true=>(g (ρ.set i (.im (.exc x.cls x.fs)))).gone i
 | some false=>r x ρ
 | none=>.st
noncomputable def SR.noE:SR->SR
 | .er _=>.st
 | r=>r
def hNo (tb:String->Option Bool) (g:DS->SR) (r:HD):HD:=fun x ρ=>match tb x.cls with
 | some true=>(g ρ).noE
 | some false=>r x ρ
 | none=>.st
theorem RS.gone {K:Frag} {Hc Hb H0 H:Hp} {ρ:DS} {U:St} (R:RS K Hc Hb H0 ρ U H) (i:Nat):RS K Hc Hb H0 (ρ.set i .em) (U.set i none) H:=by
 have ne:∀(j:Nat) (z:Sl),(ρ.set i Sl.em)[j]?=some z->z≠.em->j≠i/\ρ[j]?=some z:=fun j z e hz=>by
  by_cases hj:j=i
  . subst hj;by_cases hl:j<ρ.length
    . rw [List.getElem?_set_self hl] at e;cases e;exact absurd rfl hz
    . rw [List.getElem?_eq_none (by simpa using hl)] at e;cases e
  . rw [List.getElem?_set_ne (Ne.symm hj)] at e;exact ⟨hj,e⟩
 refine ⟨R.sb,R.ext,by simpa using R.len,fun j d e=>?_,fun j d e=>?_,fun j k d e a h1 h2 h3 h4=>?_⟩
 . obtain ⟨hj,e⟩:=ne j _ e (by simp);rw [List.getElem?_set_ne (Ne.symm hj)];exact R.im j d e
 . obtain ⟨hj,e⟩:=ne j _ e (by simp);rw [List.getElem?_set_ne (Ne.symm hj)];exact R.ow j d e
 . obtain ⟨hj,e1⟩:=ne j _ h1 (by simp);obtain ⟨hk,e2⟩:=ne k _ h2 (by simp);rw [List.getElem?_set_ne (Ne.symm hj)] at h3;rw [List.getElem?_set_ne (Ne.symm hk)] at h4;exact R.ap j k d e a e1 e2 h3 h4
noncomputable def gD (De:Ends) (i:Nat):Ends:={ nx:=fun U H=>De.nx (U.set i none) H,rt:=De.rt,bk:=fun U H=>De.bk (U.set i none) H,ct:=fun U H=>De.ct (U.set i none) H }
theorem SK.gone {K:Frag} {EX:XW} {fr:Bool} {Hc Hb:Hp} {De:Ends} {i:Nat} {r:SR} (h:SK K EX fr Hc Hb De (r.gone i)):SK K F0 fr Hc Hb (gD De i) r:=by
 cases r with
 | nx ρ=>exact fun U H H0 R=>h _ H H0 (R.gone i)
 | bk ρ=>exact fun U H H0 R=>h _ H H0 (R.gone i)
 | ct ρ=>exact fun U H H0 R=>h _ H H0 (R.gone i)
 | rt d=>exact h
 | er x=>exact h.elim
 | st=>exact h.elim
theorem SK.noE {K:Frag} {EX:XW} {fr:Bool} {Hc Hb:Hp} {De:Ends} {r:SR} (h:SK K EX fr Hc Hb De r.noE):SK K F0 fr Hc Hb De r:=by
 cases r with
 | nx ρ=>exact h
 | bk ρ=>exact h
 | ct ρ=>exact h
 | rt d=>exact h
 | er x=>exact h.elim
 | st=>exact h.elim
mutual
theorem RD.tups {K:Frag} {H H':Hp} (hs:∀b xs,H b=some (.tup xs)->H' b=some (.tup xs)):∀{d:D} {v:V},d.noL=true->d.pl=true->RD K H d v->RD K H' d v
 | .non,_,_,_,h=>by simp only [RD] at h ⊢;exact h
 | .bl _,_,_,_,h=>by simp only [RD] at h ⊢;exact h
 | .int _,_,_,_,h=>by simp only [RD] at h ⊢;exact h
 | .str _,_,_,_,h=>by simp only [RD] at h ⊢;exact h
 | .tup ds,_,n,p,h=>by simp only [RD] at h ⊢;obtain ⟨a,xs,e,h1,h2⟩:=h;exact ⟨a,xs,e,hs _ _ h1,RDs.tups hs (by simpa only [D.noL] using n) (by simpa only [D.pl] using p) h2⟩
 | .lst ds,_,n,_,h=>by simp [D.noL] at n
 | .dk _ ds,_,n,_,h=>by simp [D.noL] at n
 | .dt _ ds,_,n,_,h=>by simp [D.noL] at n
 | .dn _ ds,_,n,_,h=>by simp [D.noL] at n
 | .exc c fs,_,_,p,h=>by simp [D.pl] at p
 | .scr ns,_,_,p,h=>by simp [D.pl] at p
theorem RDs.tups {K:Frag} {H H':Hp} (hs:∀b xs,H b=some (.tup xs)->H' b=some (.tup xs)):∀{ds:List D} {xs:List V},g9 ds=true->pls ds=true->RDs K H ds xs->RDs K H' ds xs
 | [],_,_,_,h=>by simp only [RDs] at h ⊢;exact h
 | d::ds,_,n,p,h=>by simp only [RDs] at h ⊢;simp only [g9,Bool.and_eq_true] at n;simp only [pls,Bool.and_eq_true] at p;obtain ⟨x,r,e,h1,h2⟩:=h;exact ⟨x,r,e,RD.tups hs n.1 p.1 h1,RDs.tups hs n.2 p.2 h2⟩
end
open Classical in
noncomputable def seeT (He H H2:Hp):Hp:=fun b=>if He b=none/\(H b=none\/∃xs,H2 b=some (.tup xs)) then H2 b else He b
theorem xg (h0:He b=none) (h:H b=none):seeT He H H2 b=H2 b:=by unfold seeT;rw [ξ ⟨h0,.inl h⟩]
theorem xb (h0:Same He H) (s:Same H H2) (h:H2 b=some (.tup xs)):seeT He H H2 b=some (.tup xs):=by
 unfold seeT;cases q:He b with
 | none=>rw [ξ ⟨rfl,.inr ⟨xs,h⟩⟩];exact h
 | some o=>rw [ψ (fun z=>nomatch z.1),<-h,s _ _ (h0 _ _ q)]
theorem wZ (h0:Same He H) (s:Same H H2):Ext He H (seeT He H H2) H2:=by
 refine ⟨fun b o q=>?_,fun b o q=>?_,fun b n q=>?_⟩
 . unfold seeT;rw [ψ (fun z=>by rw [q] at z;exact nomatch z.1)];exact q
 . unfold seeT at q;split at q
   . exact q
   . exact s _ _ (h0 _ _ q)
 . unfold seeT;split
   . rename_i z;rcases z.2 with z | ⟨xs,z⟩
     . exact absurd z n
     . exact .inr ⟨xs,z⟩
   . exact .inl q
theorem Out.exc {K:Frag} {He H H2:Hp} {x:Ex} {a C:Addr} {od:Option Addr} (e1:nsIn K mainGlobals (Str.ofString x.cls)=some (some (.ref C))) (h0:Same He H) (s:Same H H2) (ha:H2 a=none) (nd:∀dx,od=some dx->H dx=none) (xf:XFs K x od H2):Out K false He H (.exc x.cls x.fs) (.ref a) (upd H2 a (B0 a C od)):=by
 have sm:Same H2 (upd H2 a (B0 a C od)):=Same.upd_new ha;rcases xf with e | ⟨dx,vs,ob,h1,h2,h3,h4⟩
 . have e2:Ext He H He H2:=⟨Same.refl _,h0.trans s,fun _ _ z=>.inl z⟩;exact .val (s.trans sm) (e2.trans s (.new (h0.trans s) ha)) (by simp only [RD];exact ⟨a,od,_,rfl,⟨C,e1,rfl⟩,i8,.inl e⟩)
 . have hd:=nd dx h1;have e2:Ext He H (seeT He H H2) H2:=wZ h0 s;have hne:dx≠a:=fun z=>by rw [z,ha] at h2;cases h2
   have tk:∀b xs,H2 b=some (.tup xs)->upd (seeT He H H2) a (B0 a C od) b=some (.tup xs):=fun b xs q=>by rw [b8 (fun z=>by rw [z,ha] at q;cases q)];exact xb h0 s q
   exact .val (s.trans sm) (e2.trans s (.new e2.2.1 ha)) (by simp only [RD];exact ⟨a,od,_,rfl,⟨C,e1,rfl⟩,i8,.inr ⟨dx,vs,ob,h1,by rw [b8 hne,xg (Gi h0 hd) hd];exact h2,h3,RDs.tups tk h3.1 h3.2 h4⟩⟩)
structure Tbl (K:Frag) (cn:String) (Dd:Addr) (bmB:List Value) (newId:String) (tb:String->Option Bool):Prop where
 dn:nsIn K mainGlobals (Str.ofString cn)=some (some (.ref Dd))
 dq:XCl K Dd bmB newId
 cs:∀c b,tb c=some b->∃C,nsIn K mainGlobals (Str.ofString c)=some (some (.ref C))/\XCl K C bmB newId/\mroIn K C (.ref Dd)=some b
theorem jT {K:Frag} {h:Heap} {C:Addr} {v:Value} {b:Bool} {nm q:Str} {N:Addr} {bs bm:List Value} {hdct:Bool} {sn:List Str} {sub:List Value} {ab:Bool} {col:Option Bool} {dd:Option Addr} {k0 k1 k2 k3 k5:Option Value} {newId:String} (X:K.In h)
  (hC:h.get? C=some (excClassObj nm q C N bs bm hdct sn sub ab col dd k0 k1 k2 k3 k5 newId)) (hm:mroIn K C v=some b):(Value.ref C::bm).contains v=b:=by
 obtain ⟨cd,e1,e2⟩:=Option.bind_eq_some_iff.mp hm
 unfold PySem.W.clsIn at e1
 split at e1<;>cases e1
 rename_i ho
 have:=(X _ _ ho).symm.trans hC
 unfold excClassObj at this
 cases this
 split at e2
 . cases e2
 . exact Option.some.inj e2
section
variable {X:Cx} {EX:XW} {fr:Bool} {cn:String} {Dd:Addr} {bmB:List Value} {newId:String} {tb:String->Option Bool} {cp hpos:Pos} {b₀:Stmt} {suite:List Stmt} {rest:List ExceptHandler} {g:DS->SR} {hd:HD} {n:Str} {i:Nat}
theorem Ob:QH X EX fr [] W6:=⟨fun _ _ _ _ _ _ _ _ _ _ _ _ _ _ _ _ _ _ _ _ _ _ _ _ _ _ _ h=>h.elim⟩
theorem Qb {pins:List (Addr×Obj)} {U:St} {H1:Hp} {s1:Shared} {C a:Addr} {od:Option Addr} {H2:Hp} {s2:Shared} {B:Heap} {T:Addr} {a0:Value} {h5:Heap} {x:Ex} {b:Bool} {R:Result->Shared->Prop} (Tb:Tbl X.K cn Dd bmB newId tb) (hbase:bmB.contains (.type "BaseException")=true) (hg:Gl X (Str.ofString cn)) (L:Lnd5 X pins U H1 s1 C a od H2 s2 B T a0 h5)
  (hmx:X.mg (Str.ofString x.cls)=some (.ref C)) (hb:tb x.cls=some b) (h:R (.ok (if b then .brk else .next)) { s2 with heap:=h5 }) (hdb:(Str.ofString cn==("__debug__":Str))=false) :
  codeAny (model X.prog X.w) (X.A.mark (some (.ref a))) (.handlers (.ref a) [.ExceptHandler (some (.Name (Str.ofString cn) cp)) none [] hpos] X.env) R { s2 with heap:=h5 }:=by
 obtain ⟨I5,sm⟩:=L.inv
 have hm:X.mg (Str.ofString cn)=some (.ref Dd):=PySem.W.mg_of L.I.ok.mod.kin L.I.ok.mod.glob Tb.dn
 obtain ⟨C',e1,e2,e3⟩:=Tb.cs _ _ hb
 have hm':=PySem.W.mg_of L.I.ok.mod.kin L.I.ok.mod.glob e1
 rw [hmx] at hm'
 cases hm'
 obtain ⟨oe,vs,he,hc,hd',_⟩:=L.fl.first
 have KI:X.K.In h5:=I5.kIn
 obtain ⟨bm,N,nm,qn,bs,hdct,sn,sub,ab,col,dd,k0,k1,k2,k3,k5,hC,TL⟩:=Sa KI e2
 obtain ⟨bm2,N2,nm2,qn2,bs2,hdct2,sn2,sub2,ab2,col2,dd2,j0,j1,j2,j3,j5,hD,TL2⟩:=Sa KI Tb.dq
 refine codeAny_handlers_test (V0 (X:=X.held (.ref a)) (I5.held _) hg hm ?_ hdb)
 exact yb hC hD he hc (TL2.hasType hbase) (by rw [jT KI hC e3];exact h)
theorem Eu (Tb:Tbl X.K cn Dd bmB newId tb) (hbase:bmB.contains (.type "BaseException")=true) (hg:Gl X (Str.ofString cn)) (hN:X.N.Nodup) (hi:X.N[i]?=some n) (hk:X.env.scope.names.lookup n=some .local) (hs:∀e,QB (X.held e) F0 fr (b₀::suite) g) (hr:QH X EX fr rest hd) (hdb:(Str.ofString cn==("__debug__":Str))=false:=by decide) :
  QH X EX fr (.ExceptHandler (some (.Name (Str.ofString cn) cp)) (some n) (b₀::suite) hpos::rest) (hAs tb i g hd):=by
 refine ⟨fun pins U H1 s1 C a od H2 s2 B T a0 h5 De Hc Hb H0 ρ x E H sH nd xf L hmx R h=>?_⟩
 unfold hAs at h
 refine wpAny_handleBy_cons ?_ (by intro q;cases q)
 cases hb:tb x.cls with
 | none=>rw [hb] at h;exact h.elim
 | some b=>
  rw [hb] at h
  refine Qb Tb hbase hg L hmx hb ?_ hdb
  cases b with
  | false=>exact hr.h pins U H1 s1 C a od H2 s2 B T a0 h5 De Hc Hb H0 ρ x E H sH nd xf L hmx R h
  | true=>
   refine codeAny_handlers_suite_as (L.again fun h6 L6=>?_)
   obtain ⟨I6,sm⟩:=L6.inv
   refine Ec I6 hN hi (.inl hk) (v:=.ref a) rfl (fun s3 I3=>?_) (.inr hk)
   obtain ⟨C',e1,e2,e3⟩:=Tb.cs _ _ hb
   have hm':=PySem.W.mg_of L.I.ok.mod.kin L.I.ok.mod.glob e1
   rw [hmx] at hm'
   cases hm'
   have o:Out X.K false (HeOf [] ρ U H0 H) H (.exc x.cls x.fs) (.ref a) (upd H2 a (B0 a C od)):=.exc e1 (R.heH []) sH L.ha nd xf
   obtain ⟨H0n,R',apt⟩:=R.out o
   have R3:=R'.put apt i
   refine wpAny_mono ((hs (.ref a)).h pins s3 _ _ (gD De i) (I3.held (.ref a)) ⟨Hc,Hb,H0n,_,F0.same _,R3,h.gone⟩) (fun f s4 q=>?_) fun _ _ z=>z.elim
   cases f with
   | next=>obtain ⟨σ',H',I',q⟩:=q;exact Dk (I'.unheld L.I.ok) hN hi hk fun s5 I5=>⟨_,H',I5,q⟩
   | brk=>obtain ⟨σ',H',I',q⟩:=q;exact Dk (I'.unheld L.I.ok) hN hi hk fun s5 I5=>⟨_,H',I5,q⟩
   | cont=>obtain ⟨σ',H',I',q⟩:=q;exact Dk (I'.unheld L.I.ok) hN hi hk fun s5 I5=>⟨_,H',I5,q⟩
   | ret u=>obtain ⟨v,σ',H',I',rv,q⟩:=q;exact Dk (I'.unheld L.I.ok) hN hi hk fun s5 I5=>⟨v,_,H',I5,rv,q⟩
theorem Xv (Tb:Tbl X.K cn Dd bmB newId tb) (hbase:bmB.contains (.type "BaseException")=true) (hg:Gl X (Str.ofString cn)) (hs:∀e,QB (X.held e) F0 fr (b₀::suite) g) (hr:QH X EX fr rest hd) (hdb:(Str.ofString cn==("__debug__":Str))=false:=by decide) :
  QH X EX fr (.ExceptHandler (some (.Name (Str.ofString cn) cp)) none (b₀::suite) hpos::rest) (hNo tb g hd):=by
 refine ⟨fun pins U H1 s1 C a od H2 s2 B T a0 h5 De Hc Hb H0 ρ x E H sH nd xf L hmx R h=>?_⟩
 unfold hNo at h
 refine wpAny_handleBy_cons ?_ (by intro q;cases q)
 cases hb:tb x.cls with
 | none=>rw [hb] at h;exact h.elim
 | some b=>
  rw [hb] at h
  refine Qb Tb hbase hg L hmx hb ?_ hdb
  cases b with
  | false=>exact hr.h pins U H1 s1 C a od H2 s2 B T a0 h5 De Hc Hb H0 ρ x E H sH nd xf L hmx R h
  | true=>
   refine codeAny_handlers_suite (L.again fun h6 L6=>?_)
   obtain ⟨I6,sm⟩:=L6.inv
   refine wpAny_mono ((hs (.ref a)).h pins _ _ _ De (I6.held (.ref a)) ⟨Hc,Hb,H0,ρ,F0.same _,R.grow (sH.trans sm),h.noE⟩) (fun f s4 q=>?_) fun _ _ z=>z.elim
   cases f with
   | next=>obtain ⟨σ',H',I',q⟩:=q;exact ⟨σ',H',I'.unheld L.I.ok,q⟩
   | brk=>obtain ⟨σ',H',I',q⟩:=q;exact ⟨σ',H',I'.unheld L.I.ok,q⟩
   | cont=>obtain ⟨σ',H',I',q⟩:=q;exact ⟨σ',H',I'.unheld L.I.ok,q⟩
   | ret u=>obtain ⟨v,σ',H',I',rv,q⟩:=q;exact ⟨v,σ',H',I'.unheld L.I.ok,rv,q⟩
end
end L2
namespace L2
open PySem PySem.Spec PyProof.Rows
open PySem.Calls
section
variable {prog:Program} {w:World} {A:Around} {E:Value->Shared->Prop} {h:Heap} {g:Array GenState} {d:Drawn} {t:Nat} {os:OsState} {K:Frag} {C a:Addr} {o:Obj}
theorem D6 (L:Looks M h m r) (q:Q r ⟨h,g,d,t,os⟩):wpAny M A m Q E ⟨h,g,d,t,os⟩:=L A Q E _ (fun _ _ z=>z) q
theorem y00 {R:Result->Shared->Prop} (X:K.In h) (hx:h.get? a=some o) (hc:o.cls=.ref C) (hm:mroIn K C (.type "object")=some true) (hq:R (.ok (.ret (.ref C))) ⟨h,g,d,t,os⟩) :
  codeAny (model prog w) A (.call (.builtin "getset_descriptor.__get__") ⟨[.builtin "object.__class__",.ref a,.ref C],[]⟩) R ⟨h,g,d,t,os⟩:=by
 have hT5:(⟨h,g,d,t,os⟩:Shared).TypeIs (.builtin "object.__class__") "getset_descriptor":=PySem.F.typeOf_object_class
 have L1:Looks (model prog w) h (isSubtype (.ref C) (.type (".".intercalate ("object.__class__".cutAt '.').dropLast))) true:=by rw [PySem.F.owner_object_class];exact looks_mroIn X hm
 refine codeAny_call_builtin PySem.F.slot_gs_get.plain PySem.F.entry_gs_get (PySem.F.slot_gs_get.check _ _ _ _ _ _ _ _ hT5 (PySem.F.args_gs_get _ _ _) ?_)
 repeat (any_goals (first | assumption | (with_reducible refine wpAny_loadPart_at hx ?_;rw [hc]) | with_reducible refine D6 L1 ?_ | wp_step))
 refine ⟨Code.quiet_builtin _ (by decide +kernel),codeAny_builtin PySem.F.entry_object_class ?_⟩
 repeat (any_goals (first | assumption | (with_reducible refine wpAny_loadPart_at hx ?_;rw [hc]) | wp_step))
theorem vk (X:K.In h) (hx:h.get? a=some o) (hc:o.cls=.ref C) (hm:mroIn K C (.type "object")=some true) (hcl:PySem.W.findIn K (.ref C) "__class__"=some (some (.builtin "object.__class__"))) (hq:Q (.done (.ret (.ref C))) ⟨h,g,d,t,os⟩) :
  wpAny (model prog w) A (Builtin.«object.__getattribute__» ⟨[.ref a,.str "__class__" tk],[]⟩) Q E ⟨h,g,d,t,os⟩:=by
 have hT5:(⟨h,g,d,t,os⟩:Shared).TypeIs (.builtin "object.__class__") "getset_descriptor":=PySem.F.typeOf_object_class
 have L2:=looks_findIn (M:=model prog w) X hcl
 have f5:=PySem.F.typeOf_object_class
 have f6:=PySem.F.slot_gs_get.lookup
 have f7:=PySem.F.slot_gs_set.lookup
 repeat (any_goals (first | assumption | (with_reducible refine wpAny_loadPart_at hx ?_;rw [hc]) | with_reducible refine D6 L2 ?_ | wp_step))
 refine y00 X hx hc hm ?_
 repeat (any_goals (first | assumption | wp_step))
theorem Ry (X:K.In h) (hx:h.get? a=some o) (hc:o.cls=.ref C) (hB:mroIn K C (.type "BaseException")=some true) (hq:Q () ⟨h,g,d,t,os⟩):wpAny M A (checkBuiltinCall "BaseException.__getattribute__" ⟨[.ref a,nameV],[]⟩) Q E ⟨h,g,d,t,os⟩:=by
 have hk:builtinKind "BaseException.__getattribute__"=some .slot:=by decide +kernel
 have hsplit:splitId "BaseException.__getattribute__"=some ("BaseException","__getattribute__"):=by decide +kernel
 have ha:=PySem.F.args_bexc_ga (.ref a) nameV;have L1:=looks_mroIn (M:=M) X hB;simp only [checkBuiltinCall,hk,hsplit];refine δ ?_
 . unfold isInstance;repeat (first | (with_reducible refine wpAny_loadPart_at hx ?_;rw [hc]) | with_reducible refine D6 L1 ?_ | wp_step)
   exact hq
theorem jS {tk:Tok} {R:Result->Shared->Prop} (X:K.In h) (hx:h.get? a=some o) (hc:o.cls=.ref C) (hm:mroIn K C (.type "object")=some true) (hB:mroIn K C (.type "BaseException")=some true) (hcl:PySem.W.findIn K (.ref C) "__class__"=some (some (.builtin "object.__class__"))) (hq:R (.ok (.ret (.ref C))) ⟨h,g,d,t,os⟩) :
  codeAny (model prog w) A (.call (.builtin "BaseException.__getattribute__") ⟨[.ref a,.str "__class__" tk],[]⟩) R ⟨h,g,d,t,os⟩:=
 codeAny_call_builtin PySem.F.attr_ValueError.ga.plain PySem.F.entry_bexc_ga (Ry X hx hc hB (vk X hx hc hm hcl hq))
theorem y3c (X:K.In h) (hx:h.get? a=some o) (hc:o.cls=.ref C) (hm:mroIn K C (.type "object")=some true) (hB:mroIn K C (.type "BaseException")=some true) (hcl:PySem.W.findIn K (.ref C) "__class__"=some (some (.builtin "object.__class__")))
  (hga:PySem.W.findIn K (.ref C) "__getattribute__"=some (some (.builtin "BaseException.__getattribute__"))) (hgt:PySem.W.findIn K (.ref C) "__getattr__"=some none) (hq:Q (.ref C) ⟨h,g,d,t,os⟩):wpAny (model prog w) A (getAttrBy (.ref a) (.str "__class__" tk) false) Q E ⟨h,g,d,t,os⟩:=by
 have L1:=looks_findIn (M:=model prog w) X hga
 have L2:=looks_findIn (M:=model prog w) X hgt
 have f3:=(PySem.F.attr_ValueError).ga.bind (.ref a)
 have hx2:(Value.builtin "BaseException.__getattribute__"==Value.builtin "object.__getattribute__")=false:=by decide +kernel
 have hx1:(onTheHeap (Value.ref C)&&Value.builtin "BaseException.__getattribute__"==Value.builtin "object.__getattribute__")=false:=by rw [hx2];rfl
 repeat (any_goals (first | assumption | (with_reducible refine wpAny_loadPart_at hx ?_;rw [hc]) | with_reducible refine D6 L1 ?_ | with_reducible refine D6 L2 ?_ | wp_step))
 refine jS X hx hc hm hB hcl ?_
 repeat (any_goals (first | assumption | wp_step))
theorem vj (X:K.In h) (hx:h.get? a=some o) (hc:o.cls=.ref C) (hm:mroIn K C (.type "object")=some true) (hB:mroIn K C (.type "BaseException")=some true) (hcl:PySem.W.findIn K (.ref C) "__class__"=some (some (.builtin "object.__class__")))
  (hga:PySem.W.findIn K (.ref C) "__getattribute__"=some (some (.builtin "BaseException.__getattribute__"))) (hgt:PySem.W.findIn K (.ref C) "__getattr__"=some none) (hq:Q (some (.ref C)) ⟨h,g,d,t+1,os⟩):wpAny (model prog w) A (getAttr? (.ref a) "__class__") Q E ⟨h,g,d,t,os⟩:=by
 unfold getAttr? getAttrBy?
 repeat (any_goals (first | assumption | with_reducible apply y3c X hx hc hm hB hcl hga hgt | wp_step))
end
structure XF (K:Frag) (C:Addr):Prop where
 ob:mroIn K C (.type "object")=some true
 be:mroIn K C (.type "BaseException")=some true
 cl:PySem.W.findIn K (.ref C) "__class__"=some (some (.builtin "object.__class__"))
 ga:PySem.W.findIn K (.ref C) "__getattribute__"=some (some (.builtin "BaseException.__getattribute__"))
 gt:PySem.W.findIn K (.ref C) "__getattr__"=some none
theorem XF.cls {K:Frag} {C:Addr} (F:XF K C):∃c' d' cd sl,K.lookup C=some ⟨c',d',.cls cd,sl⟩:=by obtain ⟨cd,e1,e2⟩:=Option.bind_eq_some_iff.mp F.ob;unfold PySem.W.clsIn at e1;split at e1<;>cases e1;rename_i ho;exact ⟨_,_,_,_,ho⟩
theorem Kj {K:Frag} {C a:Addr} (F:XF K C):PySem.W.KitX K (.ref a) (.ref C) (fun h=>∃ob,h.get? a=some ob/\ob.cls=.ref C) where
 ty:=fun M h X ⟨o,h1,h2⟩=>h2 ▸ (PySem.W.Looks.ld h1).andThen .now
 it:=fun _ _ X _=>by obtain ⟨c',d',cd,sl,ho⟩:=F.cls;intro A' Q' E' s' k q;unfold isType loadHead;exact δ (wpAny_loadPart (k _ _ (X _ _ ho)) (ω q))
 ne:=fun h tp dd its n sl X htp=>by
  obtain ⟨c',d',cd,sl,ho⟩:=F.cls;refine Bool.eq_false_iff.mpr fun q=>?_
  have e:C=tp:=Value.ref.inj (beq_iff_eq.mp q);subst e;have z:=(X _ _ ho).symm.trans htp;cases z
 ca:=fun {prog w A E Q s} X ⟨o,hx,hc⟩ k=>by obtain ⟨h,g,d,t,os⟩:=s;exact vj X hx hc F.ob F.be F.cl F.ga F.gt k
def Nh (K:Frag):List V->Hp->VK->Prop:=fun xs H Q=>match xs with
 | [.ref a,.ref p]=>∃C od b,H a=some (B0 a C od)/\XF K C/\(kitOne K (.ref C) (.ref p)=some b\/∃Ds:List Addr,H p=some (.tup (Ds.map V.ref))/\PySem.W.kitAny K (.ref C) (Ds.map Value.ref)=some b)/\Q (.bl b) H
 | [.ref a,.ty T]=>∃C od b,H a=some (B0 a C od)/\XF K C/\kitOne K (.ref C) (.type T)=some b/\Q (.bl b) H
 | _=>False
theorem Ux:∀{Ds:List Addr} {us:List Value},Vals (Ds.map V.ref) us->us=Ds.map Value.ref
 | [],_,.nil=>rfl
 | _::_,_,.cons r t=>by rw [Ux t,show _=_ from r];rfl
theorem y02:CallR X (.builtin "isinstance") (Nh X.K):=by
 intro pins s U H xs us Q I r h;unfold Nh at h;split at h
 . rename_i a p;obtain ⟨C,od,b,ha,F,hk,q⟩:=h;cases r with
   | cons r1 r=>cases r with
    | cons r2 r=>
     cases r
     cases (show _=_ from r1)
     cases (show _=_ from r2)
     obtain ⟨⟨ob,o1,o2,_⟩,_⟩:=I.hok a _ ha
     rcases hk with hk | ⟨Ds,hp,hk⟩
     . exact kia_one (Kj F) I.kIn ⟨ob,o1,o2⟩ hk (fun z=>by cases z) fun tk=>⟨.bl b,H,I.tok tk,rfl,q⟩
     . obtain ⟨_,its,rv,ot,n,t1,⟨t2,t3⟩,_⟩:=I.hok p _ hp;obtain ⟨oc,od,odt,osl⟩:=ot;dsimp only at t1 t3;subst t1 t3;rw [Ux rv] at n;exact PySem.W.kia_tup (Kj F) I.kIn ⟨ob,o1,o2⟩ n hk (fun z=>by cases z) fun tk=>⟨.bl b,H,I.tok tk,rfl,q⟩
 . rename_i a T;obtain ⟨C,od,b,ha,F,hk,q⟩:=h;cases r with
   | cons r1 r=>cases r with
    | cons r2 r=>
     cases r
     cases (show _=_ from r1)
     cases (show _=_ from r2)
     obtain ⟨⟨ob,o1,o2,_⟩,_⟩:=I.hok a _ ha
     exact kia_one (Kj F) I.kIn ⟨ob,o1,o2⟩ hk (fun z=>by cases z) fun tk=>⟨.bl b,H,I.tok tk,rfl,q⟩
 . exact h.elim
noncomputable def C3 (tb:String->Option Bool):D->Option D
 | .exc c _=>(tb c).map .bl
 | _=>none
structure Bel (K:Frag) (y:Value) (tb:String->Option Bool):Prop where
 h:∀c b,tb c=some b->∃C,nsIn K mainGlobals (Str.ofString c)=some (some (.ref C))/\XF K C/\kitOne K (.ref C) y=some b
theorem RD.exc {K:Frag} {H:Hp} {c:String} {fs:List D} {v:V} (r:RD K H (.exc c fs) v):∃a C od,v=.ref a/\nsIn K mainGlobals (Str.ofString c)=some (some (.ref C))/\H a=some (B0 a C od)/\XFs K ⟨c,fs⟩ od H:=by simp only [RD] at r;obtain ⟨a,od,o,e,⟨C,h1,h2⟩,h3,h4⟩:=r;subst h2;exact ⟨a,C,od,e,h1,h3,h4⟩
section
variable {X:Cx} {EX:XW} {a b:Expr} {pos p:Pos} {x:Str} {f:DE->R D} {tb:String->Option Bool}
theorem y03 {K:Frag} {U:St} {H:Hp} {Q:VK} {y:V} {yv:Value} (hy:(∃Dd,y=.ref Dd/\yv=.ref Dd)\/∃T,y=.ty T/\yv=.type T) (B:Bel K yv tb) (h:TEd K EX false (eUn (C3 tb) f) U H Q):tCB (Nh K) (G1 (TEd K EX false f) (G1 (tC y) X7)) U H Q:=by
 obtain ⟨sx,ρ,H0,s,e,h⟩:=h;unfold eUn at h;rw [Rk.bind] at h;refine TEd.go sx s e h fun d h v H1 H1' s1 e1 r1=>?_
 obtain ⟨z,hz,h⟩:=h.of;cases d<;>simp only [C3] at hz<;>first | cases hz | skip
 rename_i c _;obtain ⟨b,hb,rfl⟩:=Option.map_eq_some_iff.mp hz;obtain ⟨a,C,od,rfl,hn,ha,_⟩:=r1.exc;obtain ⟨C',h1,h2,h3⟩:=B.h c b hb;rw [hn] at h1;cases h1;have q:=h (.bl b) H1 (.val s1 e1 (by simp only [RD]));rcases hy with ⟨Dd,rfl,rfl⟩ | ⟨T,rfl,rfl⟩
 . exact ⟨C,od,b,e1.2.1 _ _ ha,h2,.inl h3,q⟩
 . exact ⟨C,od,b,e1.2.1 _ _ ha,h2,h3,q⟩
theorem Y4 (hg:Gl X x) (hm:X.mg x=none) (hv:bootBuiltins x=some (.builtin "isinstance")) (ha:QE X EX false a f) (hb:PE X b (tC y)) (hy:(∃Dd,y=.ref Dd/\yv=.ref Dd)\/∃T,y=.ty T/\yv=.type T) (B:Bel X.K yv tb) (hn:x≠"__name__":=by decide) (hdb:(x==("__debug__":Str))=false:=by decide)
 (he:starEach [a,b] X.env=(false,eval a X.env)::starEach [b] X.env:=by rfl) (hpl:(backTo pos (starEach [b] X.env)).any (·.1)=false:=by rfl) (hs:starEach [b] X.env=(false,eval b X.env)::starEach [] X.env:=by rfl) :
 QE X EX false (.Call (.Name x p) [a,b] [] pos) (eUn (C3 tb) f):=⟨(Kt y02 hg hm hv (P6 ha.h (P6 hb pa_nil hs) he) hn hdb he hpl).imp fun _ _ _ q=>y03 hy B q⟩
end
end L2
namespace L2
open PySem PySem.Spec PyProof.Rows
theorem zk (T:OwnTail h bmB tl) (hp:refuseLoop self what bmB=pure ()):refuseLoop self what tl=pure ():=by
 induction T with
 | base=>exact hp
 | own _ _ _ _ ih=>rw [refuseLoop_ref];exact ih
abbrev exN (C t:Addr) (od:Option Addr):Obj:={ cls:=.ref C,dict:=od,data:=.fields #[.ref t,.none,.none,.none,.bool false,.none] }
abbrev bmV:List Value:=[.type "ValueError",.type "Exception",.type "BaseException",.type "object"]
section
open PySem.AutoSeq1 (wpAny_loadPart')
variable {prog:Program} {w:World} {A:Around} {E:Value->Shared->Prop} {h:Heap} {g:Array GenState} {d:Drawn} {tk:Nat} {os:OsState} {K:Frag} {x C t:Addr} {name:Str} {v:Value}
theorem Tt (X:K.In h) (q:x6 K C bmV "ValueError.__new__"=true) (hx:h.get? x=some (exN C t od)) (k:Q () ⟨h,g,d,tk,os⟩):wpAny (model prog w) A (Builtin.ObjectAttr.refuseIfOverridden (.ref x) "__setattr__") Q E ⟨h,g,d,tk,os⟩:=by
 obtain ⟨bm,N,nm,qn,bs,sn,sub,ab,col,dd,k0,k1,k2,k3,k5,hC,T⟩:=K7 X q;have e:refuseLoop (.ref x) "__setattr__" (.ref C::bm)=pure ():=(refuseLoop_ref _ _ _ _).trans (zk T (PySem.F.store_ValueError.passes _));rw [refuse_eq]
 wp_walk using wpAny_loadPart' hx,wpAny_mroOf_exc hC
 exact k
theorem wY (X:K.In h) (q:x6 K C bmV "ValueError.__new__"=true) (hx:h.get? x=some (exN C t none))
  (k:∀hh,hh.get? x=some (exN C t (some h.objs.size))->hh.Ns1 h.objs.size (fun _=>none)->(∀b o,b≠x->h.get? b=some o->hh.get? b=some o)->Q (some h.objs.size) ⟨hh,g,d,tk,os⟩) :
  wpAny (model prog w) A (Builtin.ObjectAttr.ownDictForStores (.ref x)) Q E ⟨h,g,d,tk,os⟩:=by
 obtain ⟨bm,N,nm,qn,bs,sn,sub,ab,col,dd,k0,k1,k2,k3,k5,hC,T⟩:=K7 X q
 have ne:h.objs.size≠x:=fun z=>χ _ (z ▸ π hx)
 wp_walk using wpAny_loadPart' hx,wpAny_loadPart' hC
 have d2:((h.push { cls:=.type "dict",data:=.dict #[] }).update x fun o=>{ cls:=o.cls,dict:=some h.objs.size,data:=o.data,slots:=o.slots }).get? h.objs.size=some { cls:=.type "dict",data:=.dict #[] }:=by rw [Heap.get?_update_ne _ _ _ _ ne,Ψ _ rfl]
 refine k _ (Heap.get?_update_self _ (τ _ hx) rfl) (.of_empty ⟨_,#[],_,d2,rfl,(fun _ z=>nomatch (Array.not_mem_empty _ z)),fun _=>rfl⟩) fun b o hb z=>?_
 rw [Heap.get?_update_ne _ _ _ _ hb]
 exact τ _ z
theorem wX (n2:h.Ns1 a fun _=>none) (k:∀h' n,h'.Ns1 a (fun y=>if y=name then some v else none)->(∀b o,b≠a->h.get? b=some o->h'.get? b=some o)->Q (.done (.ret .none)) ⟨h',g,d,n,os⟩) :
  wpAny (model prog w) A (Builtin.ObjectAttr.storeInDict a (.str name u) name v) Q E ⟨h,g,d,tk,os⟩:=by
 unfold Builtin.ObjectAttr.storeInDict Builtin.ObjectAttr.newKeyGuard
 have put:wpAny (model prog w) A (nsSet a name v) (fun _ s=>∃h' n,s=⟨h',g,d,n,os⟩/\h'.Ns1 a (fun y=>if y=name then some v else none)/\Heap.SameBut a h h') E ⟨h,g,d,tk,os⟩:=wpAny_nsSet1 n2 fun h' n3 s3=>⟨h',_,rfl,n3,s3⟩
 wp_walk using thn put
 rintro _ _ ⟨h',n,rfl,n3,s3⟩
 obtain ⟨o,es,ep,e1,e2,e3⟩:=n3.count (Within.cons name v Within.nil)
 have le:es.size<=sizeLine+1:=Nat.le_trans e3 (by simp [sizeLine_eq])
 refine δ (wpAny_lookBehind e1 (e2 ▸ pastItsLine_dict le) ?_)
 wp_walk
 exact k h' n n3 fun b o hb z=>(s3.2 b hb).trans z
theorem ya (X:K.In h) (q:x6 K C bmV "ValueError.__new__"=true) (hx:h.get? x=some (exN C t none)) (hna:PySem.W.findIn K (.ref C) name=some none)
  (k:∀h' n,h'.get? x=some (exN C t (some h.objs.size))->h'.Ns1 h.objs.size (fun y=>if y=name then some v else none)->(∀b o,b≠x->h.get? b=some o->h'.get? b=some o)->Q (.done (.ret .none)) ⟨h',g,d,n,os⟩) :
  wpAny (model prog w) A (Builtin.«object.__setattr__» ⟨[.ref x,.str name u,v],[]⟩) Q E ⟨h,g,d,tk,os⟩:=by
 have L:=looks_findIn (M:=model prog w) X hna
 have ne:x≠h.objs.size:=fun z=>χ _ (z ▸ π hx)
 have st:∀b,wpAny (model prog w) A (Builtin.ObjectAttr.storeInOwnDict (.ref x) (.ref C) (.str name u) name v b) Q E ⟨h,g,d,tk,os⟩:=fun b=>by
  have go:=wY (prog:=prog) (w:=w) (A:=A) (E:=E) (g:=g) (d:=d) (tk:=tk) (os:=os) X q hx (Q:=fun o s=>wpAny (model prog w) A (match o with | some d=>Builtin.ObjectAttr.storeInDict d (.str name u) name v | none=>Builtin.ObjectAttr.noDictFor (.ref x) (.ref C) name b) Q E s) fun hh x2 n2 o2=>wX n2 fun h' n n3 s3=>k h' n (s3 x _ ne x2) n3 fun b o hb z=>s3 b o (fun y=>χ _ (y ▸ π z)) (o2 b o hb z)
  unfold Builtin.ObjectAttr.storeInOwnDict;exact δ (ω (δ go))
 rw [PySem.W.osa_eq]
 refine δ (Tt X q hx ?_)
 wp_walk using wpAny_loadPart' hx,D6 L,st _
theorem jR (X:K.In h) (q:x6 K C bmV "ValueError.__new__"=true) (hob:mroIn K C (.type "object")=some true) (hsa:PySem.W.findIn K (.ref C) "__setattr__"=some (some (.builtin "object.__setattr__"))) (hna:PySem.W.findIn K (.ref C) name=some none) (hx:h.get? x=some (exN C t none))
  (k:∀h' n,h'.get? x=some (exN C t (some h.objs.size))->h'.Ns1 h.objs.size (fun y=>if y=name then some v else none)->(∀b o,b≠x->h.get? b=some o->h'.get? b=some o)->Q () ⟨h',g,d,n,os⟩) :
  wpAny (model prog w) A (setAttr (.ref x) name v) Q E ⟨h,g,d,tk,os⟩:=by
 have J:PySem.W.InstAt h x (exN C t none) C none:=⟨hx,rfl,rfl,trivial⟩
 have S:=PySem.F.store_object
 have sub:Looks (model prog w) h (isInstance (.ref x) (.type "object")) true:=J.type.andThen (looks_mroIn X hob)
 refine PySem.W.set_plain (s:=⟨h,g,d,tk,os⟩) X J hsa (codeAny_call_builtin S.slot.plain S.entry ?_)
 refine PySem.W.check_slot (s:=⟨h,g,d,tk+1,os⟩) (i:="object.__setattr__") (owner:="object") (n:="__setattr__") (self:=.ref x) (rest:=[.str name tk,v]) (kw:=[]) S.kind S.split sub (S.args (.ref x) (.str name tk) v) ?_
 exact ya X q hx hna fun h' n a b c=>k h' n a b c
theorem wW (X:K.In h) (q:x6 K C bmV "ValueError.__new__"=true) (hx:h.get? x=some (exN C t (some dx))) (k:Q (some dx) ⟨h,g,d,tk,os⟩) :
  wpAny (model prog w) A (Builtin.ObjectAttr.ownDictForStores (.ref x)) Q E ⟨h,g,d,tk,os⟩:=by
 obtain ⟨bm,N,nm,qn,bs,sn,sub,ab,col,dd,k0,k1,k2,k3,k5,hC,T⟩:=K7 X q
 wp_walk using wpAny_loadPart' hx,wpAny_loadPart' hC
 exact k
theorem xZ (n2:h.Ns1 a fun z=>if z=f then some y else none) (k:∀h' n,h'.Ns1 a (fun z=>if z=name then some v else if z=f then some y else none)->(∀b o,b≠a->h.get? b=some o->h'.get? b=some o)->Q (.done (.ret .none)) ⟨h',g,d,n,os⟩) :
  wpAny (model prog w) A (Builtin.ObjectAttr.storeInDict a (.str name u) name v) Q E ⟨h,g,d,tk,os⟩:=by
 unfold Builtin.ObjectAttr.storeInDict Builtin.ObjectAttr.newKeyGuard
 have put:wpAny (model prog w) A (nsSet a name v) (fun _ s=>∃h' n,s=⟨h',g,d,n,os⟩/\h'.Ns1 a (fun z=>if z=name then some v else if z=f then some y else none)/\Heap.SameBut a h h') E ⟨h,g,d,tk,os⟩:=wpAny_nsSet1 n2 fun h' n3 s3=>⟨h',_,rfl,n3,s3⟩
 wp_walk using thn put
 rintro _ _ ⟨h',n,rfl,n3,s3⟩
 obtain ⟨o,es,ep,e1,e2,e3⟩:=n3.count (Within.cons name v (Within.cons f y Within.nil))
 have le:es.size<=sizeLine+1:=Nat.le_trans e3 (by simp [sizeLine_eq])
 refine δ (wpAny_lookBehind e1 (e2 ▸ pastItsLine_dict le) ?_)
 wp_walk
 exact k h' n n3 fun b o hb z=>(s3.2 b hb).trans z
theorem yL (X:K.In h) (q:x6 K C bmV "ValueError.__new__"=true) (hx:h.get? x=some (exN C t (some dx))) (hna:PySem.W.findIn K (.ref C) name=some none) (n2:h.Ns1 dx fun z=>if z=f then some y else none)
  (k:∀h' n,h'.Ns1 dx (fun z=>if z=name then some v else if z=f then some y else none)->(∀b o,b≠dx->h.get? b=some o->h'.get? b=some o)->Q (.done (.ret .none)) ⟨h',g,d,n,os⟩) :
  wpAny (model prog w) A (Builtin.«object.__setattr__» ⟨[.ref x,.str name u,v],[]⟩) Q E ⟨h,g,d,tk,os⟩:=by
 have L:=looks_findIn (M:=model prog w) X hna
 have st:∀b,wpAny (model prog w) A (Builtin.ObjectAttr.storeInOwnDict (.ref x) (.ref C) (.str name u) name v b) Q E ⟨h,g,d,tk,os⟩:=fun b=>by have go:=wW (prog:=prog) (w:=w) (A:=A) (E:=E) (g:=g) (d:=d) (tk:=tk) (os:=os) X q hx (Q:=fun o s=>wpAny (model prog w) A (match o with | some d=>Builtin.ObjectAttr.storeInDict d (.str name u) name v | none=>Builtin.ObjectAttr.noDictFor (.ref x) (.ref C) name b) Q E s) (xZ n2 k);unfold Builtin.ObjectAttr.storeInOwnDict;exact δ (ω (δ go))
 rw [PySem.W.osa_eq]
 refine δ (Tt X q hx ?_)
 wp_walk using wpAny_loadPart' hx,D6 L,st _
theorem vi (X:K.In h) (q:x6 K C bmV "ValueError.__new__"=true) (hob:mroIn K C (.type "object")=some true) (hsa:PySem.W.findIn K (.ref C) "__setattr__"=some (some (.builtin "object.__setattr__"))) (hna:PySem.W.findIn K (.ref C) name=some none) (hx:h.get? x=some (exN C t (some dx))) (n2:h.Ns1 dx fun z=>if z=f then some y else none)
  (k:∀h' n,h'.Ns1 dx (fun z=>if z=name then some v else if z=f then some y else none)->(∀b o,b≠dx->h.get? b=some o->h'.get? b=some o)->Q () ⟨h',g,d,n,os⟩) :
  wpAny (model prog w) A (setAttr (.ref x) name v) Q E ⟨h,g,d,tk,os⟩:=by
 obtain ⟨od,es,ep,ho,hdd,_⟩:=id n2
 have J:PySem.W.InstAt h x (exN C t (some dx)) C (some od):=⟨hx,rfl,rfl,ho⟩
 have S:=PySem.F.store_object
 have sub:Looks (model prog w) h (isInstance (.ref x) (.type "object")) true:=J.type.andThen (looks_mroIn X hob)
 refine PySem.W.set_plain (s:=⟨h,g,d,tk,os⟩) X J hsa (codeAny_call_builtin S.slot.plain S.entry ?_)
 refine PySem.W.check_slot (s:=⟨h,g,d,tk+1,os⟩) (i:="object.__setattr__") (owner:="object") (n:="__setattr__") (self:=.ref x) (rest:=[.str name tk,v]) (kw:=[]) S.kind S.split sub (S.args (.ref x) (.str name tk) v) ?_
 exact yL X q hx hna n2 fun h' n a b=>k h' n a b
end
end L2
namespace L2
open PySem PySem.Spec PyProof.Rows
section
open PySem.AutoSeq1 (wpAny_loadPart')
variable {prog:Program} {w:World} {A:Around} {E:Value->Shared->Prop} {h:Heap} {g:Array GenState} {d:Drawn} {tk:Nat} {os:OsState} {K:Frag} {C t:Addr} {v:Value}
theorem vh {rest:List Value} {fI:Addr} {Q:Fin->Shared->Prop} (X:K.In h) (q:x6 K C bmV "ValueError.__new__"=true) (hi:PySem.W.findIn K (.ref C) "__init__"=some (some (.ref fI))) (hfI:typeIn K (.ref fI)=some (.type "function")) (hrest:rest.length<=sizeLine)
  (k:∀h' e,Heap.MadeExcOf h h' e (.ref C) rest->wpAny (model prog w) A (call (.ref fI) (.ref e::rest)) (fun r s'=>r=.none/\Q (.done (.ret (.ref e))) s') E ⟨h',g,d,tk,os⟩) :
  wpAny (model prog w) A (Builtin.«type.__call__» ⟨.ref C::rest,[]⟩) Q E ⟨h,g,d,tk,os⟩:=by
 obtain ⟨bm,N,nm,qn,bs,sn,sub,ab,col,dd,k0,k1,k2,k3,k5,hC,T⟩:=K7 X q
 have F:=PySem.F.excBase_ValueError
 obtain ⟨h2,e2⟩:∃h2,h2=(h.push { cls:=.type "tuple",data:=.seq rest.toArray }).push (exN C h.objs.size none):=⟨_,rfl⟩
 have keep:∀b o,h.get? b=some o->h2.get? b=some o:=fun b o z=>by rw [e2];exact τ _ (τ _ z)
 have new:h2.get? (h.objs.size+1)=some (exN C h.objs.size none):=by have:=Ψ (h.push { cls:=.type "tuple",data:=.seq rest.toArray }) (o:=exN C h.objs.size none) rfl;rw [Heap.size_push] at this;rw [e2];exact this
 have X2:=X.keeps keep
 have L1:=looks_findIn (M:=model prog w) X2 hi
 have L2:=PySem.W.bind_fn (M:=model prog w) X2 (.ref (h.objs.size+1)) hfI
 have mx:Heap.MadeExcOf h h2 (h.objs.size+1) (.ref C) rest:=⟨keep,Heap.get?_none_of_le (Nat.le_succ _),h.objs.size,new,Heap.get?_none_of_le (ζ _),by rw [e2];exact τ _ (Ψ _ rfl)⟩
 have self:(Value.ref C::bm).contains (.ref C)=true:=by simp
 unfold Builtin.«type.__call__»
 wp_walk using wpAny_loadPart' hC,wpAny_madeBy_exc hC
 refine codeAny_call_builtin_code (Code.quiet_builtin _ F.quiet) (wpAny_check_new_subT F T hC (codeAny_exc_new_subT F T hC ?_ hrest))
 have isC:∀{Q:Bool->Shared->Prop},Q true ⟨h2,g,d,tk,os⟩->wpAny (model prog w) A (isInstance (.ref (h.objs.size+1)) (.ref C)) Q E ⟨h2,g,d,tk,os⟩:=fun {Q} z=>by
  unfold isInstance
  wp_walk using wpAny_loadPart' new
  exact wpAny_isSubtype_exc (keep _ _ hC) (by rw [self];exact z)
 have ini:∀{Q:Option Value->Shared->Prop},wpAny (model prog w) A (call (.ref fI) ([.ref (h.objs.size+1)]++rest)) (fun r=>Q (some r)) E ⟨h2,g,d,tk,os⟩->wpAny (model prog w) A (callSpecial? (.ref (h.objs.size+1)) "__init__" rest []) Q E ⟨h2,g,d,tk,os⟩:=fun {Q} z=>by
  unfold callSpecial? specialOf
  wp_walk using wpAny_loadPart' new,D6 L1,D6 L2,thn z
  exact fun _ _ y=>ω y
 unfold exN at e2
 rw [<-e2]
 refine δ (isC (δ (wpAny_holding (ini (wpAny_mono (k h2 _ mx) (fun r s' z=>?_) fun _ _ y=>y)))))
 obtain ⟨rfl,y⟩:=z
 wp_walk
 exact y
theorem vg {rest:List Value} {fI:Addr} {Q:Value->Shared->Prop} (X:K.In h) (q:x6 K C bmV "ValueError.__new__"=true) (hi:PySem.W.findIn K (.ref C) "__init__"=some (some (.ref fI))) (hfI:typeIn K (.ref fI)=some (.type "function")) (hrest:rest.length<=sizeLine)
  (k:∀h' e,Heap.MadeExcOf h h' e (.ref C) rest->wpAny (model prog w) (A.under (.builtin "type.__call__" ⟨.ref C::rest,[]⟩)) (call (.ref fI) (.ref e::rest)) (fun r s'=>r=.none/\Q (.ref e) s') E ⟨h',g,d,tk,os⟩) :
  wpAny (model prog w) A (call (.ref C) rest) Q E ⟨h,g,d,tk,os⟩:=by
 obtain ⟨bm,N,nm,qn,bs,sn,sub,ab,col,dd,k0,k1,k2,k3,k5,hC,T⟩:=K7 X q
 have t1:=tc_lookup
 have t2:=tc_bind (.ref C)
 have ty:(Shared.mk h g d tk os).TypeIs (.ref C) "type":=⟨_,hC,rfl⟩
 exact wpAny_call (codeAny_of_tree (by
  show wpAny (model prog w) _ (callAny (.ref C) ⟨rest,[]⟩) _ _ _;unfold callAny
  wp_walk using wpAny_loadPart' hC
  exact ⟨rfl,codeAny_call_builtin_at (Code.quiet_builtin _ (by decide +kernel)) entry_typeCall (wpAny_check_type_call_sub hC (vh X q hi hfI hrest fun h' e m=>k h' e m))⟩))
theorem wV (q:x6 K C bmV "ValueError.__new__"=true) (hh:A.handled=none)
  (k:wpAny (model prog w) A y (fun v s=>∃e t od,v=.ref e/\K.In s.heap/\s.heap.get? e=some (exN C t od)/\E (.ref e) s) E s):wpAny (model prog w) A (raiseStmt env (some y) none) Q E s:=by
 unfold raiseStmt
 refine δ (thn k fun v s1 z=>?_)
 obtain ⟨e,t,od,rfl,X,he,z⟩:=z
 obtain ⟨bm,N,nm,qn,bs,sn,sub,ab,col,dd,k0,k1,k2,k3,k5,hC,T⟩:=K7 X q
 have be:(Value.ref C::bm).contains (.type "BaseException")=true:=by rw [List.contains_cons,T.hasType (X:="BaseException") (b:=true) (by decide)];rfl
 obtain ⟨hp,g,d,tk,os⟩:=s1
 have isB:∀{Q:Bool->Shared->Prop},Q true ⟨hp,g,d,tk,os⟩->wpAny (model prog w) A (isSubtype (.ref C) (.type "BaseException")) Q E ⟨hp,g,d,tk,os⟩:=fun {Q} y=>wpAny_isSubtype_exc hC (by rw [be];exact y)
 wp_walk using wpAny_loadPart' he,wpAny_loadPart' hC,isB
 exact wpAny_raiseNew_none hh z
end
end L2
namespace L2
open PySem PySem.Spec PyProof.Rows
noncomputable def t9 (e C:Addr) (od:Option Addr):HO:=.ext fun h=>∃t,h.get? e=some { cls:=.ref C,dict:=od,data:=.fields #[.ref t,.none,.none,.none,.bool false,.none] }
theorem Rx (q:h.get? e=some { cls:=.ref C,dict:=od,data:=.fields #[.ref t,.none,.none,.none,.bool false,.none] }):ObjOk P w H h e (t9 e C od):=
 ⟨⟨t,q⟩,⟨_,q⟩,fun _ _ ⟨t,z⟩ k=>⟨t,k _ z⟩⟩
structure XI (K:Frag) (C:Addr) (f:Str):Prop where
 q:x6 K C bmV "ValueError.__new__"=true
 sa:PySem.W.findIn K (.ref C) "__setattr__"=some (some (.builtin "object.__setattr__"))
 na:PySem.W.findIn K (.ref C) f=some none
 ob:mroIn K C (.type "object")=some true
def spI (C:Addr) (fn:List Str):Sp:=fun vs H Q _=>∃e ys,vs=.ref e::ys/\ys.length=fn.length/\H e=some (t9 e C none)/\∀dx ob,H dx=none->Q .non (upd (upd H dx (.frz ob (.xd (fn.zip ys)))) e (t9 e C (some dx)))
section
variable {X:Cx} {A:Around} {E:Value->Shared->Prop} {pins:List (Addr×Obj)} {U:St} {H:Hp} {s:Shared} {a C:Addr} {f f2:Str} {y y2:V}
theorem Oa (ry:RelV y u) (z:Str):RelO (List.lookup z [(f,y)]) (if z=f then some u else none):=by
 by_cases hy:z=f
 . subst hy;have hb:(z==z)=true:=beq_self_eq_true z;simp only [List.lookup,hb,if_true];exact ry
 . have hb:(z==f)=false:=beq_eq_false_iff_ne.mpr hy;simp only [List.lookup,hb,ψ hy];trivial
theorem y04 (hne:f2≠f) (ry:RelV y u) (ry2:RelV y2 u2) (z:Str):RelO (List.lookup z [(f,y),(f2,y2)]) (if z=f2 then some u2 else if z=f then some u else none):=by
 by_cases hy:z=f
 . subst hy;have hb:(z==z)=true:=beq_self_eq_true z;simp only [List.lookup,hb,if_true,ψ (Ne.symm hne)];exact ry
 . have hb:(z==f)=false:=beq_eq_false_iff_ne.mpr hy;by_cases hy2:z=f2
   . subst hy2;have hb2:(z==z)=true:=beq_self_eq_true z;simp only [List.lookup,hb,hb2,if_true];exact ry2
   . have hb2:(z==f2)=false:=beq_eq_false_iff_ne.mpr hy2;simp only [List.lookup,hb,hb2,ψ hy,ψ hy2];trivial
theorem zj {u:Value} {Q:Unit->Shared->Prop} {F:Obj->HO} (hF:(∀ob,F ob=.frz ob (.xd [(f,y)]))\/∀ob,F ob=.xd [(f,y)]) (I:Inv X pins U H s) (e:H a=some (t9 a C none)) (Z:XI X.K C f) (ry:RelV y u)
  (h:∀dx ob s',H dx=none->Inv X pins U (upd (upd H dx (F ob)) a (t9 a C (some dx))) s'->Q () s'):wpAny (model X.prog X.w) A (setAttr (.ref a) f u) Q E s:=by
 obtain ⟨⟨t,ho⟩,_⟩:=I.hok a _ e
 have hn:H s.heap.objs.size=none:=I.hok.fresh (ζ _)
 obtain ⟨hp,g,d,tk,os⟩:=s
 refine jR I.kIn Z.q Z.ob Z.sa Z.na ho fun h' tk' h1 h2 h3=>?_
 obtain ⟨ob,es,ep,hob,hrest⟩:=id h2
 refine h hp.objs.size ob _ hn (I.un (h':=h') (t':=tk') ⟨fun b o q n hb hx=>h3 b o (fun z=>?_) q,fun b o q n hb hx=>⟨o.slots,h3 b o (fun z=>?_) q⟩,fun b o q n hx=>?_,fun b o q hx=>?_,fun b xs q=>?_,fun b o u q=>?_,fun b ps q=>⟨#[],?_⟩⟩ fun b o q=>?_)
 . rw [z,e] at n;cases n
 . rw [z,e] at n;cases n
 . rw [b8 (fun z=>by rw [z,e] at n;cases n),b8 (Nat.ne_of_lt (π q))];exact n
 . by_cases hb:b=a
   . subst hb;exact ⟨_,h1⟩
   . exact ⟨o,h3 b o hb q⟩
 . rw [b8 (fun z=>by rw [z,e] at q;cases q),b8 (fun z=>by rw [z,hn] at q;cases q)];exact q
 . rw [b8 (fun z=>by rw [z,e] at q;cases q),b8 (fun z=>by rw [z,hn] at q;cases q)];exact q
 . rw [b8 (fun z=>by rw [z,e] at q;cases q),b8 (fun z=>by rw [z,hn] at q;cases q)];simpa using q
 . by_cases hb:b=a
   . subst hb;rw [i8] at q;cases q;exact Rx h1
   . rw [b8 hb] at q;by_cases hd:b=hp.objs.size
     . subst hd;rw [i8] at q;cases q;rcases hF with hF | hF<;>rw [hF]
       . exact ⟨hob,_,h2,Oa ry⟩
       . exact ⟨_,h2,Oa ry⟩
     . rw [b8 hd] at q;refine (I.hok b o q).stay (fun c v hc z=>h3 c v (fun y=>?_) z) (fun c z=>?_) fun c xs z=>?_
       . rcases hc with rfl | hc
         . exact hb y
         . rw [y,e] at hc;cases hc
       . rw [b8 (fun y=>by rw [y,e] at z;cases z),b8 (fun y=>by rw [y,hn] at z;cases z)];exact z
       . rw [b8 (fun y=>by rw [y,e] at z;cases z),b8 (fun y=>by rw [y,hn] at z;cases z)];exact z
theorem zy (I:Inv X pins U H s) (e:H a=some (t9 a C (some dx))) (ed:H dx=some (.xd [(f,y)])) (hne:f2≠f) (Z:XI X.K C f2) (ry:RelV y2 u)
  (h:∀ob s',Inv X pins U (upd H dx (.frz ob (.xd [(f,y),(f2,y2)]))) s'->Q () s'):wpAny (model X.prog X.w) A (setAttr (.ref a) f2 u) Q E s:=by
 obtain ⟨⟨t,ho⟩,_⟩:=I.hok a _ e
 obtain ⟨mA,hns,hrel⟩:=I.hok dx _ ed
 obtain ⟨hp,g,d,tk,os⟩:=s
 have hf:=hrel f
 have hb:(f==f)=true:=beq_self_eq_true f
 simp only [List.lookup,hb] at hf
 cases q':mA f with
 | none=>rw [q'] at hf;exact hf.elim
 | some v=>
  rw [q'] at hf
  have hf:RelV y v:=hf
  have em:mA=fun z=>if z=f then some v else none:=by
   funext z;by_cases hz:z=f
   . rw [hz,q',ξ rfl]
   . rw [ψ hz];have:=hrel z;have hb:(z==f)=false:=beq_eq_false_iff_ne.mpr hz;simp only [List.lookup,hb] at this;cases q2:mA z with
     | none=>rfl
     | some w=>rw [q2] at this;exact this.elim
  rw [em] at hns
  refine vi I.kIn Z.q Z.ob Z.sa Z.na ho hns fun h' tk' h2 h3=>?_
  obtain ⟨ob,es,ep,hob,hrest⟩:=id h2
  refine h ob _ (I.un (h':=h') (t':=tk') ⟨fun b o q n hb hx=>h3 b o (fun z=>?_) q,fun b o q n hb hx=>⟨o.slots,h3 b o (fun z=>?_) q⟩,fun b o q n hx=>?_,fun b o q hx=>?_,fun b xs q=>?_,fun b o u q=>?_,fun b ps q=>⟨#[],?_⟩⟩ fun b o q=>?_)
  . rw [z,ed] at n;cases n
  . rw [z,ed] at n;cases n
  . rw [b8 (fun z=>by rw [z,ed] at n;cases n)];exact n
  . by_cases hb:b=dx
    . subst hb;exact ⟨_,hob⟩
    . exact ⟨o,h3 b o hb q⟩
  . rw [b8 (fun z=>by rw [z,ed] at q;cases q)];exact q
  . rw [b8 (fun z=>by rw [z,ed] at q;cases q)];exact q
  . rw [b8 (fun z=>by rw [z,ed] at q;cases q)];simpa using q
  . by_cases hb:b=dx
    . subst hb;rw [i8] at q;cases q;exact ⟨hob,_,h2,y04 hne hf ry⟩
    . rw [b8 hb] at q;refine (I.hok b o q).stay (fun c v hc z=>h3 c v (fun y=>?_) z) (fun c z=>?_) fun c xs z=>?_
      . rcases hc with rfl | hc
        . exact hb y
        . rw [y,ed] at hc;cases hc
      . rw [b8 (fun y=>by rw [y,ed] at z;cases z)];exact z
      . rw [b8 (fun y=>by rw [y,ed] at z;cases z)];exact z
def y05 (C:Addr) (ta tv:TE) (f:Str) (F:V->Obj->HO):TS:=fun D U H=>tv U H fun y H1=>ta U H1 fun x H2=>∃a,x=.ref a/\H2 a=some (t9 a C none)/\∀dx ob,H2 dx=none->D.nx U (upd (upd H2 dx (F y ob)) a (t9 a C (some dx)))
theorem Rw (hF:(∀y ob,F y ob=.frz ob (.xd [(f,y)]))\/∀y ob,F y ob=.xd [(f,y)]) (Z:XI X.K C f) (ha:PE X o ta) (hv:PE X value tv) (hs:swapsWith value (some (.Attribute o f pos')) pos.line X.env=pure false):PS X (.Assign [.Attribute o f pos'] value pos) (y05 C ta tv f F):=by intro pins s U H D I h;refine plainObj_wpAny_Assign_Attribute (thn (hv pins s U H _ I h) fun u s1 ⟨y,H1,I1,ry,q⟩=>thn (ha pins s1 U H1 _ I1 q) fun ov s2 ⟨x,H2,I2,rx,a,ex,ea,q2⟩=>?_) hs;subst ex;obtain rfl:ov=Value.ref a:=rx;exact zj (F:=F y) (hF.imp (fun z=>z y) fun z=>z y) I2 ea Z ry fun dx ob s3 hd I3=>⟨U,_,I3,q2 dx ob hd⟩
def jQ (C:Addr) (ta tv:TE) (f f2:Str):TS:=fun D U H=>tv U H fun y2 H1=>ta U H1 fun x H2=>∃a dx y,x=.ref a/\H2 a=some (t9 a C (some dx))/\H2 dx=some (.xd [(f,y)])/\∀ob,D.nx U (upd H2 dx (.frz ob (.xd [(f,y),(f2,y2)])))
theorem wU (hne:f2≠f) (Z:XI X.K C f2) (ha:PE X o ta) (hv:PE X value tv) (hs:swapsWith value (some (.Attribute o f2 pos')) pos.line X.env=pure false):PS X (.Assign [.Attribute o f2 pos'] value pos) (jQ C ta tv f f2):=by intro pins s U H D I h;refine plainObj_wpAny_Assign_Attribute (thn (hv pins s U H _ I h) fun u s1 ⟨y,H1,I1,ry,q⟩=>thn (ha pins s1 U H1 _ I1 q) fun ov s2 ⟨x,H2,I2,rx,a,dx,y1,ex,ea,ed,q2⟩=>?_) hs;subst ex;obtain rfl:ov=Value.ref a:=rx;exact zy I2 ea ed hne Z ry fun ob s3 I3=>⟨U,_,I3,q2 ob⟩
theorem vf {P:Program} {w:World} {K:Frag} {mg:Str->Option Value} {base:Heap} {qual:Str} {st:Stmt} {fI:Addr} {fd:FuncData} {se p:Str} {p1 p2 p3 p4:Pos} {k:Nat} (F:Fun K "__init__" qual st fI fd) (S:FnScope [se,p] [se,p] (d8 st)) (Z:XI K C f)
  (hb:x8 st=[.Assign [.Attribute (.Name se p1) f p2] (.Name p p3) p4]) (h1:Vis (d8 st) se) (h2:Vis (d8 st) p)
  (d1:(se==("__debug__":Str))=false:=by decide) (d2:(se==("__classdict__":Str))=false:=by decide) (d3:(p==("__debug__":Str))=false:=by decide) (d4:(p==("__classdict__":Str))=false:=by decide)
  (hs:∀env:Env,swapsWith (.Name p p3) (some (.Attribute (.Name se p1) f p2)) p4.line env=pure false:=by intro _;rfl):FnOk P w K mg base (CX1 P w) (k+1) fI fd [se,p] (spI C [f]):=by
 refine Fun.okX F S (fun vs H Q E ⟨e,ys,h,hl,_⟩=>by rw [h,List.length_cons,hl];rfl) fun cdv A outer s H vs Q E hr ⟨e,ys,hv,hl,he,hq⟩=>?_
 subst hv
 match ys,hl with
 | [y],_=>
  rw [hb]
  refine ⟨_,Ar (Rw (F:=fun y ob=>.frz ob (.xd [(f,y)])) (.inl fun _ _=>rfl) Z (K4 (i:=0) rfl h1 d1 d2) (K4 (i:=1) rfl h2 d3 d4) (hs _)) pss_nil,?_⟩
  exact ⟨_,rfl,_,rfl,e,rfl,he,fun dx ob hd=>hq dx ob hd⟩
theorem wT {P:Program} {w:World} {K:Frag} {mg:Str->Option Value} {base:Heap} {qual:Str} {st:Stmt} {fI:Addr} {fd:FuncData} {se p r:Str} {p1 p2 p3 p4 r1 r2 r3 r4:Pos} {k:Nat} (F:Fun K "__init__" qual st fI fd) (S:FnScope [se,p,r] [se,p,r] (d8 st)) (hne:f2≠f) (Z:XI K C f) (Z2:XI K C f2)
  (hb:x8 st=[.Assign [.Attribute (.Name se p1) f p2] (.Name p p3) p4,.Assign [.Attribute (.Name se r1) f2 r2] (.Name r r3) r4]) (h1:Vis (d8 st) se) (h2:Vis (d8 st) p) (h3:Vis (d8 st) r)
  (d1:(se==("__debug__":Str))=false:=by decide) (d2:(se==("__classdict__":Str))=false:=by decide) (d3:(p==("__debug__":Str))=false:=by decide) (d4:(p==("__classdict__":Str))=false:=by decide) (d5:(r==("__debug__":Str))=false:=by decide) (d6:(r==("__classdict__":Str))=false:=by decide)
  (hs:∀env:Env,swapsWith (.Name p p3) (some (.Attribute (.Name se p1) f p2)) p4.line env=pure false:=by intro _;rfl) (hs2:∀env:Env,swapsWith (.Name r r3) (some (.Attribute (.Name se r1) f2 r2)) r4.line env=pure false:=by intro _;rfl):FnOk P w K mg base (CX1 P w) (k+1) fI fd [se,p,r] (spI C [f,f2]):=by
 refine Fun.okX F S (fun vs H Q E ⟨e,ys,h,hl,_⟩=>by rw [h,List.length_cons,hl];rfl) fun cdv A outer s H vs Q E hr ⟨e,ys,hv,hl,he,hq⟩=>?_
 subst hv
 match ys,hl with
 | [y,z],_=>
  rw [hb]
  refine ⟨_,Ar (Rw (F:=fun y _=>.xd [(f,y)]) (.inr fun _ _=>rfl) Z (K4 (i:=0) rfl h1 d1 d2) (K4 (i:=1) rfl h2 d3 d4) (hs _)) (Ar (wU (f:=f) hne Z2 (K4 (i:=0) rfl h1 d1 d2) (K4 (i:=2) rfl h3 d5 d6) (hs2 _)) pss_nil),?_⟩
  refine ⟨_,rfl,_,rfl,e,rfl,he,fun dx ob hd=>⟨_,rfl,_,rfl,e,dx,y,rfl,i8,?_,fun ob2=>?_⟩⟩
  . rw [b8 (fun z=>by rw [z,he] at hd;cases hd),i8]
  . have hde:dx≠e:=fun z=>by rw [z,he] at hd;cases hd
    have:=hq dx ob2 hd;rw [show upd (upd (upd H dx (HO.xd [(f,y)])) e (t9 e C (some dx))) dx (HO.frz ob2 (HO.xd [(f,y),(f2,z)]))=upd (upd H dx (HO.frz ob2 (HO.xd [(f,y),(f2,z)]))) e (t9 e C (some dx)) by
     funext b;by_cases h1:b=dx
     . subst h1;rw [i8,b8 hde,i8]
     . rw [b8 h1];by_cases h2:b=e
       . subst h2;rw [i8,i8]
       . rw [b8 h2,b8 h2,b8 h1,b8 h1]]
    exact this
end
theorem Un.drop (u:Un fs [] H H' h h') (hn:h.get? e=none) (he:H e=none):Un fs [] H (fun b=>if b=e then none else H' b) h h' where
 keep:=u.keep
 slot:=u.slot
 free:=fun b o q n hx=>by
  show (if b=e then none else H' b)=none;split
  . rfl
  . exact u.free b o q n hx
 there:=u.there
 tups:=fun b xs q=>by show (if b=e then none else H' b)=_;rw [ψ (fun z=>by rw [z,he] at q;cases q)];exact u.tups b xs q
 frzs:=fun b o v q=>by show (if b=e then none else H' b)=_;rw [ψ (fun z=>by rw [z,he] at q;cases q)];exact u.frzs b o v q
 tbls:=fun b ps q=>by obtain ⟨m,z⟩:=u.tbls b ps q;refine ⟨m,?_⟩;show (if b=e then none else H' b)=_;rw [ψ (fun y=>by rw [y,he] at q;cases q)];exact z
theorem wS (x:HOk P w H h) (he:H e=some (.ext φ)):HOk P w (fun b=>if b=e then none else H b) h:=fun b o q=>by
 have q:(if b=e then none else H b)=some o:=q;split at q
 . cases q
 . refine (x b o q).stay (fun _ _ _ z=>z) (fun c z=>?_) fun c xs z=>?_
   . show (if c=e then none else H c)=_;rw [ψ (fun y=>by rw [y,he] at z;cases z)];exact z
   . show (if c=e then none else H c)=_;rw [ψ (fun y=>by rw [y,he] at z;cases z)];exact z
theorem Un.addX (k:∀b u,h.get? b=some u->h'.get? b=some u) (hn:h.get? e=none) (he:H e=none):Un fs [] H (upd H e o) h h' where
 keep:=fun b o q _ _ _=>k b o q
 slot:=fun b o q _ _ _=>⟨o.slots,k b o q⟩
 free:=fun b o q n _=>by rw [b8 (fun z=>by rw [z,hn] at q;cases q)];exact n
 there:=fun b o q _=>⟨o,k b o q⟩
 tups:=fun b xs q=>by rw [b8 (fun z=>by rw [z,he] at q;cases q)];exact q
 frzs:=fun b o v q=>by rw [b8 (fun z=>by rw [z,he] at q;cases q)];exact q
 tbls:=fun b ps q=>⟨#[],by rw [b8 (fun z=>by rw [z,he] at q;cases q)];simpa using q⟩
theorem wR (x:HOk P w H h) (he:H e=none) (new:ObjOk P w (upd H e o) h e o):HOk P w (upd H e o) h:=fun b u q=>by
 by_cases hb:b=e
 . subst hb;rw [i8] at q;cases q;exact new
 . rw [b8 hb] at q;exact (x b u q).stay (fun _ _ _ z=>z) (fun c z=>by rw [b8 (fun y=>by rw [y,he] at z;cases z)];exact z) fun c xs z=>by rw [b8 (fun y=>by rw [y,he] at z;cases z)];exact z
structure Ini (P:Program) (w:World) (K:Frag) (mg:Str->Option Value) (base:Heap) (C:Addr) (fn:List Str) (k:Nat):Prop where
 h:∃fI fd ps,FnOk P w K mg base (CX1 P w) k fI fd ps (spI C fn)/\Binds K fd ps []/\PySem.W.findIn K (.ref C) "__init__"=some (some (.ref fI))/\typeIn K (.ref fI)=some (.type "function")/\ps.length=fn.length+1
section
variable {X:Cx} {x:Str} {C:Addr} {f:Str} {fn:List Str} {k j:Nat} {np cpos pos:Pos} {e:Expr} {es:List Expr} {t:TA} {EX:XW} {fr:Bool} {fs:DE->R (List D)}
theorem wQ (Z:XI X.K C f) (G:Ini X.prog X.w X.K X.mg X.base C fn k) (hr:Room (k+1) X.A) (I:Inv X pins U H s) (r:Vals ys us) (hys:ys.length=fn.length) (hf9:fn.length<=9)
  (hq:∀a dx t ob H2 s',H dx=none->H2=upd H dx (.frz ob (.xd (fn.zip ys)))->s'.heap.get? a=some { cls:=.ref C,dict:=some dx,data:=.fields #[.ref t,.none,.none,.none,.bool false,.none] }->MadeX s.heap s'.heap a C (some dx)->HOk X.prog X.w H2 s'.heap->Un (frs X.stack) [] H H2 s.heap s'.heap->H2 a=none->s'.os=s.os->AllBare s'.gens->X.K.In s'.heap->Q (.ref a) s') :
  wpAny (model X.prog X.w) X.A (call (.ref C) us) Q E s:=by
 have hus:us.length=fn.length:=by rw [<-hys];exact r.length.symm
 obtain ⟨fI,fd,ps,F,B,hi,hf,hl⟩:=G.h
 obtain ⟨hp,g,d,tk,os⟩:=s
 refine vg I.kIn Z.q hi hf (by rw [sizeLine_eq];omega) fun h' a hm=>?_
 have hHa:H a=none:=I.hok.none hm.new
 obtain ⟨t,ht,_,_⟩:=hm.there
 have U1:Un (frs X.stack) [] H (upd H a (t9 a C none)) hp h':=.addX hm.keeps hm.new hHa
 have K1:HOk X.prog X.w (upd H a (t9 a C none)) h':=wR (I.hok.kept hm.keeps) hHa (Rx ht)
 have I1:Inv X pins U (upd H a (t9 a C none)) ⟨h',g,d,tk,os⟩:=I.call' (s':=⟨h',g,d,tk,os⟩) (ch:=[]) rfl U1 K1 I.bare (fun _ z=>nomatch z)
 have r2:Vals (V.ref a::ys) (Value.ref a::us):=.cons rfl r
 have hb:=B ⟨h',g,d,tk,os⟩ (.ref a::us) I1.kIn (by rw [List.append_nil,List.length_cons,hus,hl])
 rw [List.append_nil] at hb
 refine wpAny_call (codeAny_mono (F.run _ X.stack _ _ ⟨.ref a::us,[]⟩ _ _ (fun v H'=>v=.non/\∃dx ob,upd H a (t9 a C none) dx=none/\H'=upd (upd (upd H a (t9 a C none)) dx (.frz ob (.xd (fn.zip ys)))) a (t9 a C (some dx))) (fun _ _ _=>False) (hr.make C us []) (I1.env0.make C us []) hb r2 ⟨a,ys,rfl,hys,i8,fun dx ob hd=>⟨rfl,dx,ob,hd,rfl⟩⟩) fun r s' hq'=>?_)
 cases r with
 | error e=>obtain ⟨_,_,_,_,_,_,z⟩:=hq';exact z.elim
 | ok fl=>
  cases fl with
  | ret v=>
   obtain ⟨y,H',I3,rv,ev,dx,ob,hdx,hH'⟩:=I1.after hq'
   obtain ⟨_,H'',ho2,hb2,U2,K2,_,ev2,dx2,ob2,hdx2,hH2⟩:=id hq'
   clear I3 hH' hdx H' dx ob
   subst ev
   refine ⟨rv,?_⟩
   have hne:dx2≠a:=fun z=>by rw [z,i8] at hdx2;cases hdx2
   have hHd:H dx2=none:=by rw [b8 hne] at hdx2;exact hdx2
   have hHa2:H'' a=some (t9 a C (some dx2)):=by rw [hH2,i8]
   have U3:=(U1.trans U2).drop hm.new hHa
   have K3:=wS K2 hHa2
   have eH:(fun b=>if b=a then none else H'' b)=upd H dx2 (.frz ob2 (.xd (fn.zip ys))):=by
    funext b;rw [hH2];by_cases hb:b=a
    . rw [ξ hb,hb,b8 (Ne.symm hne)];exact hHa.symm
    . rw [ψ hb,b8 hb];by_cases hd:b=dx2
      . rw [hd,i8,i8]
      . rw [b8 hd,b8 hd,b8 hb]
   rw [eH] at U3 K3
   obtain ⟨⟨t2,hx2⟩,_⟩:=K2 a _ hHa2
   have hnd:hp.get? dx2=none:=by
    cases q:hp.get? dx2 with
    | none=>rfl
    | some o=>
     have:=U3.free dx2 o q hHd (by simp)
     rw [i8] at this;cases this
   have KX:X.K.In s'.heap:=(I.call' (s':=s') (ch:=[]) ho2 U3 K3 hb2 (fun _ z=>nomatch z)).kIn
   exact hq a dx2 t2 ob2 _ s' hHd rfl hx2 ⟨hm.new,fun dx e=>(by cases e;exact hnd),_,_,_,hx2,rfl,rfl,rfl,rfl,rfl⟩ K3 U3 (by rw [b8 (Ne.symm hne)];exact hHa) ho2 hb2 KX
  | next=>exact False.elim hq'
  | brk=>exact False.elim hq'
  | cont=>exact False.elim hq'
theorem xY (hcalm:X.calm=true) (hg:Gl X x) (hm:X.mg x=some (.ref C)) (Z:XI X.K C f) (G:Ini X.prog X.w X.K X.mg X.base C fn k) (hf9:fn.length<=9) (hr:Room j X.A) (ha:PA X (e::es) t) (EE:List V->Hp->Prop)
  (hE:∀(pins:List (Addr×Obj)) (U:St) (H H2:Hp) (s:Shared) (a dx:Addr) (ob:Obj) (s':Shared) (ys:List V),Inv X pins U H s->H dx=none->H2=upd H dx (.frz ob (.xd (fn.zip ys)))->MadeX s.heap s'.heap a C (some dx)->HOk X.prog X.w H2 s'.heap->Un (frs X.stack) [] H H2 s.heap s'.heap->H2 a=none->s'.os=s.os->AllBare s'.gens->EE ys H->X.xe (.ref a) s')
  (hkj:k+1<=j:=by omega) (hdb:(x==("__debug__":Str))=false:=by decide) (he:starEach (e::es) X.env=(false,eval e X.env)::starEach es X.env:=by rfl) (ho:(backTo cpos ((false,eval e X.env)::starEach es X.env)).any (fun x=>x.fst)=false:=by rfl) :
  PS X (.Raise (some (.Call (.Name x np) (e::es) [] cpos)) none pos) (fun _ U H=>t U H fun vs H1=>vs.length=fn.length/\EE vs H1):=by
 intro pins s U H D I h
 have hh:=I.ok.hd hcalm
 rw [arm_exec_Raise]
 have main:wpAny (model X.prog X.w) X.A (eval (.Call (.Name x np) (e::es) [] cpos) X.env) (fun v s=>∃e t od,v=.ref e/\X.K.In s.heap/\s.heap.get? e=some (exN C t od)/\X.xe (.ref e) s) X.xe s:=by
  refine wpAny_Call_ofName (V0 I hg hm ?_ hdb);have go:=ha cpos pins s U H _ I h;rw [he] at go ⊢;unfold callWith;refine δ (wpAny_holding (Calls.evalArgs_plain (wpAny_mono go (fun us s2 ⟨vs,H1,I1,r,hl,hE1⟩=>?_) fun _ _ y=>y)));obtain ⟨bm,N,nm,qn,bs,sn,sub,ab,col,dd,k0,k1,k2,k3,k5,hC,T⟩:=K7 I1.kIn Z.q;refine δ (wpAny_standAt ?_);obtain ⟨hp,g,d,tk,os⟩:=s2;refine δ (wpAny_keeperOf_exc hC ?_);have hz:((backTo cpos ((false,eval e X.env)::starEach es X.env)).any (fun x=>x.fst)||(backToKw cpos (keywordEach [] X.env)).any fun x=>x.fst.isNone)=false:=by rw [ho];rfl
  rw [hz];show wpAny _ _ (call (.ref C) us >>= _) _ _ _;refine δ (wQ Z G (hr.mono hkj) I1 r hl hf9 fun a dx t ob H2 s' q1 q2 q3 q4 q5 q6 q7 q8 q9 q10=>δ (wpAny_holding (wpAny_point (ω ?_))));exact ⟨a,t,some dx,rfl,q10,q3,hE pins U H1 H2 _ a dx ob s' vs I1 q1 q2 q4 q5 q6 q7 q8 q9 hE1⟩
 exact δ (wpAny_standAt (wV (K:=X.K) (C:=C) Z.q hh (δ (wpAny_mono main (fun v s₃ h₃=>δ (wpAny_standAt (ω h₃))) fun _ _ x=>x))))
def N3 (c:String) (fs:DE->R (List D)):DS->SR:=fun ρ=>(fs (see ρ)).toS fun ds=>if ds.length=(B5 c).length/\g9 ds=true/\pls ds=true then .er ⟨c,ds⟩ else .st
theorem Rv {K:Frag} {H:Hp}:∀{ds:List D} {xs:List V},RDs K H ds xs->xs.length=ds.length
 | [],_,h=>by simp only [RDs] at h;rw [h];rfl
 | d::ds,_,h=>by simp only [RDs] at h;obtain ⟨x,r,rfl,_,h2⟩:=h;rw [List.length_cons,List.length_cons,Rv h2]
theorem wP {K:Frag} {De:Ends} {U:St} {H:Hp} {c:String} (h:TSd K EX fr (N3 c fs) De U H):TAd K EX fs U H fun vs H1=>vs.length=(B5 c).length/\∃ds H0,(g9 ds=true/\pls ds=true)/\Same H0 H1/\RDs K H0 ds vs/\∀H2,Same H1 H2->EX.p ⟨c,ds⟩ H2:=by
 obtain ⟨Hc,Hb,H0,ρ,sb,R,h⟩:=h;unfold N3 at h;rw [SK.toS] at h;refine ⟨sb.trans R.sb,see ρ,HeOf (List.replicate ρ.length true) ρ U H0 H,R.heH _,by rw [<-U8];exact R.re _,h.mono fun ds z vs H' H0' s e r=>?_⟩;split at z
 . rename_i hc;exact ⟨by rw [Rv r];exact hc.1,ds,H0',hc.2,e.2.1,r,fun H2 s2=>z H2 (((sb.trans R.sb).trans s).trans s2)⟩
 . exact z.elim
theorem Ts {c:String} (L:Lnd X EX) (hcalm:X.calm=true) (hg:Gl X (c:Str)) (hm:X.mg (c:Str)=some (.ref C)) (hn:B5 c=fn) (hf9:fn.length<=9) (Z:XI X.K C f) (G:Ini X.prog X.w X.K X.mg X.base C fn k) (hr:Room j X.A) (ha:QA X EX (e::es) fs)
  (hkj:k+1<=j:=by omega) (hdb:(((c:Str))==("__debug__":Str))=false:=by decide) (he:starEach (e::es) X.env=(false,eval e X.env)::starEach es X.env:=by rfl) (ho:(backTo cpos ((false,eval e X.env)::starEach es X.env)).any (fun x=>x.fst)=false:=by rfl) :
  QS X EX fr (.Raise (some (.Call (.Name (c:Str) np) (e::es) [] cpos)) none pos) (N3 c fs):=
 ⟨(xY hcalm hg hm Z G hf9 hr ha.h (fun vs H1=>∃ds H0,(g9 ds=true/\pls ds=true)/\Same H0 H1/\RDs X.K H0 ds vs/\∀H2,Same H1 H2->EX.p ⟨c,ds⟩ H2) (fun pins U H H2 s a dx ob s' ys I hd eH mx hok un hHa ho hb ⟨ds,H0,hp1,hs,r,hp⟩=>
  have s12:Same H H2:=by rw [eH];exact Same.upd_new hd
  L.md pins U H H2 s a C (some dx) s' ⟨c,ds⟩ I mx hok un hHa ho hb hm (hp H2 s12) (.inr ⟨dx,ys,ob,rfl,by rw [eH,i8,hn],hp1,r.mono (hs.trans s12)⟩)) hkj hdb he ho).imp fun _ _ _ q=>by subst hn;exact wP q⟩
end
end L2
namespace L2
open PySem PySem.Spec PyProof.Rows
open PySem.Calls
open Builtin Builtin.ObjectAttr
section
open PySem.AutoSeq1 (wpAny_loadPart')
variable {prog:Program} {w:World} {A:Around} {E:Value->Shared->Prop} {h:Heap} {g:Array GenState} {d:Drawn} {t:Nat} {os:OsState} {K:Frag} {C a dx:Addr} {o:Obj} {f:Str} {v:Value} {mA:Str->Option Value}
variable {nm q:Str} {N:Addr} {bs bm:List Value} {sn:List Str} {sub:List Value} {ab:Bool} {col:Option Bool} {dd:Option Addr} {k0 k1 k2 k3 k5:Option Value} {newId:String}
theorem wO (X:K.In h) (hC:h.get? C=some (excClassObj nm q C N bs bm true sn sub ab col dd k0 k1 k2 k3 k5 newId)) (hx:h.get? a=some o) (hc:o.cls=.ref C) (hnc:o.data=.fields vs) (hd:o.dict=some dx) (hns:h.Ns1 dx mA) (hv:mA f=some v)
  (hna:PySem.W.findIn K (.ref C) f=some none) (hq:Q (.done (.ret v)) ⟨h,g,d,t,os⟩) :
  wpAny (model prog w) A (Builtin.«object.__getattribute__» ⟨[.ref a,.str f tk],[]⟩) Q E ⟨h,g,d,t,os⟩:=by
 have L:=looks_findIn (M:=model prog w) X hna
 have G:∀{Q:Option Value->Shared->Prop},Q (some v) ⟨h,g,d,t,os⟩->wpAny (model prog w) A (nsGet dx f) Q E ⟨h,g,d,t,os⟩:=fun {Q} z=>wpAny_nsGet hns.ns (by rw [hv];exact z)
 obtain ⟨oc,od,odt,osl⟩:=o
 dsimp only at hc hd hnc
 subst hc hd hnc
 wp_walk using wpAny_loadPart' hx,D6 L,wpAny_loadPart' hC,G
 exact hq
theorem y06 (X:K.In h) (hC:h.get? C=some (excClassObj nm q C N bs bm true sn sub ab col dd k0 k1 k2 k3 k5 newId)) (hx:h.get? a=some o) (hc:o.cls=.ref C) (hnc:o.data=.fields vs) (hd:o.dict=some dx) (hns:h.Ns1 dx mA) (hv:mA f=some v)
  (hna:PySem.W.findIn K (.ref C) f=some none) (hB:mroIn K C (.type "BaseException")=some true) (hga:PySem.W.findIn K (.ref C) "__getattribute__"=some (some (.builtin "BaseException.__getattribute__"))) (hgt:PySem.W.findIn K (.ref C) "__getattr__"=some none) (hh:handedOut v=pure v) (hq:Q v ⟨h,g,d,t,os⟩) :
  wpAny (model prog w) A (getAttrBy (.ref a) (.str f tk) true ex) Q E ⟨h,g,d,t,os⟩:=by
 have L1:=looks_findIn (M:=model prog w) X hga
 have L2:=looks_findIn (M:=model prog w) X hgt
 have f3:=(PySem.F.attr_ValueError).ga.bind (.ref a)
 have far:(onTheHeap (.ref C)&&(Value.builtin "BaseException.__getattribute__"==.builtin "object.__getattribute__"))=false:=(congrArg (onTheHeap (.ref C)&&·) (by decide +kernel)).trans (Bool.and_false _)
 repeat (any_goals (first | assumption | (with_reducible refine wpAny_loadPart_at hx ?_;rw [hc]) | with_reducible refine D6 L1 ?_ | with_reducible refine D6 L2 ?_ | wp_step))
 rw [ψ (show ¬(ex&&onTheHeap (Value.builtin "BaseException.__getattribute__"))=true by cases ex<;>exact η)]
 repeat (any_goals (first | assumption | wp_step))
 refine codeAny_call_builtin PySem.F.attr_ValueError.ga.plain PySem.F.entry_bexc_ga (Ry X hx hc hB (wO X hC hx hc hnc hd hns hv hna ?_))
 show wpAny _ _ (handedOut v) _ _ _
 rw [hh]
 exact ω hq
theorem jP (X:K.In h) (hC:h.get? C=some (excClassObj nm q C N bs bm true sn sub ab col dd k0 k1 k2 k3 k5 newId)) (hx:h.get? a=some o) (hc:o.cls=.ref C) (hnc:o.data=.fields vs) (hd:o.dict=some dx) (hns:h.Ns1 dx mA) (hv:mA f=some v)
  (hna:PySem.W.findIn K (.ref C) f=some none) (hB:mroIn K C (.type "BaseException")=some true) (hga:PySem.W.findIn K (.ref C) "__getattribute__"=some (some (.builtin "BaseException.__getattribute__"))) (hgt:PySem.W.findIn K (.ref C) "__getattr__"=some none) (hh:handedOut v=pure v) (hq:Q v ⟨h,g,d,t+1,os⟩) :
  wpAny (model prog w) A (getAttr (.ref a) f ex) Q E ⟨h,g,d,t,os⟩:=by
 unfold getAttr
 refine δ (wpAny_mkText ?_)
 exact y06 X hC hx hc hnc hd hns hv hna hB hga hgt hh hq
end
def Nz (K:Frag) (ta:TE) (f:Str):TE:=fun U H Q=>ta U H fun x H1=>∃a C dx ob fs v,x=.ref a/\H1 a=some (B0 a C (some dx))/\H1 dx=some (.frz ob (.xd fs))/\fs.lookup f=some v/\XI K C f/\XF K C/\Q v H1
def G8 (f:Str):D->Option D
 | .exc c fs=>((B5 c).zip fs).lookup f
 | _=>none
theorem Tr {K:Frag} {H:Hp} {f:Str}:∀{ns:List Str} {fs:List D} {vs:List V} {d:D},RDs K H fs vs->(ns.zip fs).lookup f=some d->f∈ns/\d∈fs/\∃v,(ns.zip vs).lookup f=some v/\RD K H d v
 | [],_,_,_,_,h=>by simp at h
 | _::_,[],_,_,_,h=>by simp at h
 | n::ns,e::fs,_,d,r,h=>by
  simp only [RDs] at r;obtain ⟨x,xs,rfl,r1,r2⟩:=r;simp only [List.zip_cons_cons,List.lookup] at h ⊢;by_cases hb:(f==n)=true
  . rw [hb] at h ⊢;cases h;exact ⟨by rw [eq_of_beq hb];simp,by simp,x,rfl,r1⟩
  . have hb:(f==n)=false:=by simpa using hb
    rw [hb] at h ⊢;obtain ⟨q1,q2,q3⟩:=Tr r2 h;exact ⟨List.mem_cons_of_mem _ q1,List.mem_cons_of_mem _ q2,q3⟩
section
variable {X:Cx} {EX:XW} {e:Expr} {f:Str} {pos:Pos} {ta:TE} {fd:DE->R D}
theorem ve (he:PE X e ta) (hb:attributeBase e f X.env (eval e X.env)=eval e X.env):PE X (.Attribute e f pos) (Nz X.K ta f):=by
 intro pins s U H Q I h;refine vT hb (thn (he pins s U H _ I h) fun u s1 ⟨x,H1,I1,rx,a,C,dx,ob,fs,y,ex,ea,ed,lk,Z,F,q⟩=>?_);subst ex;obtain rfl:u=Value.ref a:=rx;obtain ⟨⟨oe,h1,h2,⟨vs,h3⟩,h4⟩,_⟩:=I1.hok a _ ea;obtain ⟨hob,mA,hns,hrel⟩:=I1.hok dx _ ed;obtain ⟨bm,N,nm,qn,bs,sn,sub,ab,col,dd,k0,k1,k2,k3,k5,hC,T⟩:=K7 I1.kIn Z.q;have hf:=hrel f;rw [lk] at hf;cases q':mA f with
 | none=>rw [q'] at hf;exact hf.elim
 | some v=>
  rw [q'] at hf
  have hf:RelV y v:=hf
  obtain ⟨hp,g,d,tk,os⟩:=s1
  exact jP I1.kIn hC h1 h2 h3 h4 hns q' Z.na F.be F.ga F.gt (PySem.W.handedOut_of (yq hf)) ⟨y,H1,I1.tok _,hf,q⟩
theorem jO {K:Frag} {U:St} {H:Hp} {Q:VK} (Z:∀c,f∈B5 c->∃C,nsIn K mainGlobals (Str.ofString c)=some (some (.ref C))/\XI K C f/\XF K C) (h:TEd K EX false (eUn (G8 f) fd) U H Q):Nz K (TEd K EX false fd) f U H Q:=by
 obtain ⟨sx,ρ,H0,s,e,h⟩:=h;unfold eUn at h;rw [Rk.bind] at h;refine TEd.go sx s e h fun d h v H1 H1' s1 e1 r1=>?_
 obtain ⟨z,hz,hk⟩:=h.of;unfold G8 at hz;split at hz
 . rename_i c fs;obtain ⟨a,C,od,rfl,hn,ha,hx⟩:=r1.exc;rcases hx with hx | ⟨dx,vs,ob,q1,q2,q3,q4⟩
   . have hx:fs=[]:=hx;subst hx;simp at hz
   . subst q1;obtain ⟨m1,_,y,ly,ry⟩:=Tr q4 hz;obtain ⟨C',z1,z2,z3⟩:=Z c m1;rw [hn] at z1;cases z1;exact ⟨a,C,dx,ob,_,y,rfl,e1.2.1 _ _ ha,e1.2.1 _ _ q2,ly,z2,z3,hk y H1 (.val s1 e1 ry)⟩
 . cases hz
theorem Hq (ha:QE X EX false e fd) (hb:attributeBase e f X.env (eval e X.env)=eval e X.env) (Z:∀c,f∈B5 c->∃C,nsIn X.K mainGlobals (Str.ofString c)=some (some (.ref C))/\XI X.K C f/\XF X.K C) :
 QE X EX false (.Attribute e f pos) (eUn (G8 f) fd):=⟨(ve ha.h hb).imp fun _ _ _ q=>jO Z q⟩
end
noncomputable def Ru (s:Stmt):List Stmt:=match s with
 | .ClassDef _ _ _ b _ _ _ _ _ _ _=>b
 | _=>[]
end L2
namespace L2
open PySem PySem.Spec PyProof.Rows
section
variable {prog:Program} {w:World} {A:Around} {R:Result->Shared->Prop} {I:Addr} {fp wr:List Addr} {n:Nat} {P:Nat->Value->Prop} {St:Nat->Heap->Prop}
theorem y07 (kw:List (Str×Value)) (W:Walks prog w A.in1 I fp wr n P St) (bt:Nat->Nat->Bool) (cm:CmpOf prog w A.in1 .Gt P bt) (S:Addr) (nf:S∉fp) :
  ∀(k j:Nat) (s:Shared) (vb:Value) (c:Nat),n - (j+1)=k->j+1<=n->St (j+1) s.heap->P (argBest bt j) vb->s.heap.get? S=some { cls:=.type "list",dict:=none,data:=.seq #[vb,vb] c,slots:=#[] } ->
  (∀v h' tk,P (argBest bt (n - 1)) v->(∀b o,b∉wr->b≠S->s.heap.get? b=some o->h'.get? b=some o)->R (.ok (.ret v)) { s with heap:=h',toks:=tk })->codeAny (model prog w) A (.builtin "max.loop" ⟨[.ref I,.none,.ref S],kw⟩) R s:=by
 have nw:S∉wr:=fun h=>nf (W.sub _ h)
 have nm:(toString "max"++toString ".loop":String)="max.loop":=by decide
 intro k
 induction k with
 | zero=>
  intro j s vb c ek ej st pb eS fin
  have jn:j+1=n:=by omega
  refine codeAny_builtin PySem.F.entry_max_loop ?_
  rw [Around.under_plainId PySem.F.plain_max_loop _]
  show wpAny _ A.in1 (seqItems? (.ref S) >>= _) _ _ _
  refine δ (wpAny_seqItems eS rfl ?_)
  show wpAny _ A.in1 (tryCatch (pyNext (.ref I)) _ >>= _) _ _ _
  refine δ (wpAny_tryCatch (W.done s _ _ (jn ▸ st) fun h' tk kp=>?_))
  have eS':=kp S _ nw eS
  show wpAny _ A.in1 (updateSeq S (fun _=>#[]) >>= _) _ _ _
  refine δ ?_
  refine wpAny_updateSeq eS' rfl (δ (wpAny_letGo (ω ?_)))
  exact fin vb _ tk (by rw [<-jn];exact pb) fun b o hbw hbS e=>(Heap.get?_update_other _ _ (Ne.symm hbS)).trans (kp b o hbw e)
 | succ k ih=>
  intro j s vb c ek ej st pb eS fin
  have jl:j+1<n:=by omega
  refine codeAny_builtin PySem.F.entry_max_loop ?_
  rw [Around.under_plainId PySem.F.plain_max_loop _]
  show wpAny _ A.in1 (seqItems? (.ref S) >>= _) _ _ _
  refine δ (wpAny_seqItems eS rfl ?_)
  show wpAny _ A.in1 (tryCatch (pyNext (.ref I)) _ >>= _) _ _ _
  refine δ (wpAny_tryCatch (W.item (j+1) s _ _ jl st fun v h' tk pv st' kp=>?_))
  have eS':=kp S _ nw eS
  show wpAny _ A.in1 (tryCatch (holding [v,v] (richCompare .Gt v vb >>= _)) _ >>= _) _ _ _
  refine δ (wpAny_tryCatch (wpAny_holding (δ (cm (j+1) (argBest bt j) v vb _ _ _ pv pb ?_))))
  refine δ (wpAny_holding (wpAny_truthy_bool ?_))
  refine δ (wpAny_letGo (ω ?_))
  cases hb:bt (j+1) (argBest bt j) with
  | true=>
   rw [ξ rfl]
   refine δ ?_
   refine wpAny_updateSeq eS' rfl (δ (wpAny_letGo ?_))
   rw [nm]
   refine ω ⟨plainId_quiet PySem.F.plain_max_loop _,ih (j+1) _ v _ (by omega) jl (W.frame _ _ _ st' fun b hbf o e=>?_) (by simp only [argBest,hb,if_true];exact pv) (Heap.get?_update_self _ eS' rfl) fun v' h'' tk'' pv' kp'=>?_⟩
   . exact (Heap.get?_update_other _ _ (fun z:S=b=>nf (by rw [z];exact hbf))).trans e
   . exact fin v' h'' tk'' pv' fun b o hbw hbS e=>kp' b o hbw hbS ((Heap.get?_update_other _ _ (Ne.symm hbS)).trans (kp b o hbw e))
  | false=>
   rw [ψ η]
   refine δ (wpAny_letGo ?_)
   rw [nm]
   exact ω ⟨plainId_quiet PySem.F.plain_max_loop _,ih (j+1) _ vb c (by omega) jl st' (by simp only [argBest,hb,Bool.false_eq_true,if_false];exact pb) eS' fun v' h'' tk'' pv' kp'=>fin v' h'' tk'' pv' fun b o hbw hbS e=>kp' b o hbw hbS (kp b o hbw e)⟩
theorem wN (kw:List (Str×Value)) (W:Walks prog w A.in1 I fp wr n P St) (bt:Nat->Nat->Bool) (cm:CmpOf prog w A.in1 .Gt P bt) (S:Addr) (nf:S∉fp) (n0:0<n) (st:St 0 s.heap)
  (eS:s.heap.get? S=some { cls:=.type "list",dict:=none,data:=.seq #[] c,slots:=#[] }) (fin:∀v h' tk,P (argBest bt (n - 1)) v->(∀b o,b∉wr->b≠S->s.heap.get? b=some o->h'.get? b=some o)->R (.ok (.ret v)) { s with heap:=h',toks:=tk }) :
  codeAny (model prog w) A (.builtin "max.loop" ⟨[.ref I,.none,.ref S],kw⟩) R s:=by
 have nw:S∉wr:=fun h=>nf (W.sub _ h)
 have nm:(toString "max"++toString ".loop":String)="max.loop":=by decide
 refine codeAny_builtin PySem.F.entry_max_loop ?_
 rw [Around.under_plainId PySem.F.plain_max_loop _]
 show wpAny _ A.in1 (seqItems? (.ref S) >>= _) _ _ _
 refine δ (wpAny_seqItems eS rfl ?_)
 show wpAny _ A.in1 (tryCatch (pyNext (.ref I)) _ >>= _) _ _ _
 refine δ (wpAny_tryCatch (W.item 0 s _ _ n0 st fun v h' tk pv st' kp=>?_))
 have eS':=kp S _ nw eS
 show wpAny _ A.in1 (updateSeq S (fun _=>#[v,v]) >>= _) _ _ _
 refine δ ?_
 refine wpAny_updateSeq eS' rfl ?_
 rw [nm]
 refine ω ⟨plainId_quiet PySem.F.plain_max_loop _,y07 kw W bt cm S nf _ 0 _ v _ rfl n0 (W.frame _ _ _ st' fun b hbf o e=>?_) pv (Heap.get?_update_self _ eS' rfl) fun v' h'' tk'' pv' kp'=>?_⟩
 . exact (Heap.get?_update_other _ _ (fun z:S=b=>nf (by rw [z];exact hbf))).trans e
 . exact fin v' h'' tk'' pv' fun b o hbw hbS e=>kp' b o hbw hbS ((Heap.get?_update_other _ _ (Ne.symm hbS)).trans (kp b o hbw e))
theorem vd (q:Str) (dv:Value) (W:Walks prog w A.in1 I fp wr n P St) (S:Addr) (nf:S∉fp) (n0:n=0) (st:St 0 s.heap)
  (eS:s.heap.get? S=some { cls:=.type "list",dict:=none,data:=.seq #[] c,slots:=#[] }) (fin:∀h' tk,(∀b o,b∉wr->b≠S->s.heap.get? b=some o->h'.get? b=some o)->R (.ok (.ret dv)) { s with heap:=h',toks:=tk }) :
  codeAny (model prog w) A (.builtin "max.loop" ⟨[.ref I,.none,.ref S],[(q,dv)]⟩) R s:=by
 refine codeAny_builtin PySem.F.entry_max_loop ?_
 rw [Around.under_plainId PySem.F.plain_max_loop _]
 show wpAny _ A.in1 (seqItems? (.ref S) >>= _) _ _ _
 refine δ (wpAny_seqItems eS rfl ?_)
 show wpAny _ A.in1 (tryCatch (pyNext (.ref I)) _ >>= _) _ _ _
 refine δ (wpAny_tryCatch (W.done s _ _ (n0 ▸ st) fun h' tk kp=>?_))
 show wpAny _ A.in1 (rule _ >>= _) _ _ _
 exact δ (wpAny_rule (ω (fin h' tk fun b o hb _ e=>kp b o hb e)))
end
theorem qZ (a v:Value):argsOk "max" ⟨[a],[(Str.ofString "default",v)]⟩:=by unfold argsOk;kernel_rfl
section
variable {prog:Program} {w:World} {A:Around} {E:Value->Shared->Prop} {s:Shared}
theorem qY
  (h:wpAny (model prog w) A.in1 (pyIter x) (fun it s₂=>∃I fp wr n P St bt,it=.ref I/\Walks prog w A.in1 I fp wr n P St/\St 0 s₂.heap/\(∀b∈fp,b<s₂.heap.objs.size)/\CmpOf prog w A.in1 .Gt P bt /\
   ∀v h' tk,((0<n/\P (argBest bt (n - 1)) v)\/(n=0/\v=dv))->(∀b o,b∉wr->s₂.heap.get? b=some o->h'.get? b=some o)->Q v { s₂ with heap:=h',toks:=tk }) E s) :
  wpAny (model prog w) A (call (.builtin "max") [x] [(Str.ofString "default",dv)]) Q E s:=by
 have nm:(toString "max"++toString ".loop":String)="max.loop":=by decide
 refine kmk_tree PySem.F.kind_max PySem.F.plain_max PySem.F.entry_max (qZ _ _) ?_
 show wpAny _ A.in1 (Builtin.Builtins.bindParams "max" ["key","default"] 0 ⟨[],[(Str.ofString "default",dv)]⟩ >>= _) _ _ s
 refine δ (wpAny_of_eq (show Builtin.Builtins.bindParams "max" ["key","default"] 0 ⟨[],[(Str.ofString "default",dv)]⟩=pure [none,some dv] from rfl) ?_)
 refine δ (ω ?_)
 refine δ (wpAny_mono h (fun it s₂ g=>?_) fun _ _ e=>e)
 obtain ⟨I,fp,wr,n,P,St,bt,rfl,W,st,bd,cm,hQ⟩:=g
 refine δ (wpAny_newObj_type ?_)
 have nf:s₂.heap.objs.size∉fp:=fun hm=>χ _ (bd _ hm)
 rw [nm]
 refine ω ⟨plainId_quiet PySem.F.plain_max_loop _,?_⟩
 by_cases n0:0<n
 . exact wN _ W bt cm s₂.heap.objs.size nf n0 (W.frame _ _ _ st fun b _ o e=>τ _ e) (Ψ _ rfl) fun v h' tk pv kp=>
    hQ v h' tk (.inl ⟨n0,pv⟩) fun b o hbw e=>kp b o hbw (Nat.ne_of_lt (π e)) (τ _ e)
 . exact vd _ dv W s₂.heap.objs.size nf (by lia) (W.frame _ _ _ st fun b _ o e=>τ _ e) (Ψ _ rfl) fun h' tk kp=>
    hQ dv h' tk (.inr ⟨by lia,rfl⟩) fun b o hbw e=>kp b o hbw (Nat.ne_of_lt (π e)) (τ _ e)
variable {h₀:Heap} {L:Addr} {m:Str->Option Value} {news:List (Addr×Obj)}
theorem qX (hh:A.handled=none) (F:Fr h₀ L s.heap m) (N:News h₀ L s.heap news) (hl:s.heap.IsList l vs.toArray) (hi:IntsAre vs ns)
  (h:∀v h' tk,Fr h₀ L h' m->News h₀ L h' news->((ns=[]/\v=dv)\/∃M t,v=.int M t/\M∈ns/\∀a,a∈ns->a<=M)->Q v { s with heap:=h',toks:=tk }) :
  wpAny (model prog w) A (call (.builtin "max") [.ref l] [(Str.ofString "default",dv)]) Q E s:=by
 obtain ⟨xs,e⟩:=hi.allInts.items
 have en:ns=xs.toList.map (·.1):=by rw [<-hi.numsOf,<-nums_intItems,<-e]
 have el:ns.length=xs.size:=by rw [en,List.length_map,Array.length_toList]
 rw [e] at hl
 refine qY (iter_intList hl fun s₂ e st bd lI=>?_)
 subst e
 refine ⟨_,_,_,_,_,_,_,rfl,Walks.list (A:=A.in1) hh _ l lI (intItems xs),st,bd,CmpOf.ints_gt (numAt xs) (fun _ _=>intItems_at),fun v h' tk pv kp=>?_⟩
 have kp':=old_kept kp
 refine h v h' tk (F.grownK kp') (N.grown kp') ?_
 rcases pv with ⟨n0,pv⟩ | ⟨n0,rfl⟩
 . right;have n0':0<xs.size:=by simpa [intItems] using n0
   have pv':(intItems xs)[argBest (fun i j=>decide (numAt xs i > numAt xs j)) (xs.size - 1)]?=some v:=by simpa [intItems] using pv
   obtain ⟨t,rfl⟩:=intItems_at pv';obtain ⟨h1,h2⟩:=argBest_gt (numAt xs) (xs.size - 1);refine ⟨_,t,rfl,?_,fun a ha=>?_⟩
   . rw [en,numAt_eq];exact G5 (by rw [List.length_map,Array.length_toList];lia)
   . rw [en] at ha;obtain ⟨j,hj,rfl⟩:=mem_getD ha;rw [List.length_map,Array.length_toList] at hj;rw [<-numAt_eq];exact h2 j (by lia)
 . left;have:xs.size=0:=by simpa [intItems] using n0
   exact ⟨List.length_eq_zero_iff.mp (by lia),rfl⟩
end
def mxD (d:Int):List Int->Int
 | []=>d
 | n::ns=>o6 n ns
def S0:List D->Option D
 | [.lst ds,.int d]=>(v9 ds).map fun ns=>.int (mxD d ns)
 | _=>none
def Gh:List V->Hp->VK->Prop:=fun xs H Q=>∃p ns d,xs=[.ref p,.int d]/\H p=some (.lst (ns.map V.int))/\Q (.int (mxD d ns)) H
theorem TEd.mono' {K:Frag} {EX:XW} {fr:Bool} {f:DE->R D} {U:St} {H:Hp} {Q Q':VK} (h:TEd K EX fr f U H Q) (hq:∀v H',Q v H'->Q' v H'):TEd K EX fr f U H Q':=by obtain ⟨sx,ρ,H0,s,e,h⟩:=h;exact ⟨sx,ρ,H0,s,e,h.mono fun a k v H' o=>hq _ _ (k v H' o)⟩
section
variable {X:Cx} {EX:XW} {e d:Expr} {p kp pos:Pos} {x:Str} {t1 t2:TE} {f1 f2:DE->R D}
theorem qW (hc:X.calm=true) (hg:Gl X x) (hm:X.mg x=none) (hv:bootBuiltins x=some (.builtin "max")) (ha:PE X e t1) (hd:PE X d t2) (hn:x≠"__name__":=by decide) (hdb:(x==("__debug__":Str))=false:=by decide)
  (hs:starEach [e] X.env=(false,eval e X.env)::starEach [] X.env:=by rfl) :
  PE X (.Call (.Name x p) [e] [⟨some (Str.ofString "default"),d,kp⟩] pos) (tCB Gh (G1 t1 (G1 t2 X7))):=by
 intro pins s U H Q I h
 refine wpAny_Call_Name_kw (U5 I hg hm hv ?_ hn hdb)
 refine callWith_kw ?_ (by rw [hs];rfl) (by rw [hs];rfl)
 refine thn (P6 ha pa_nil hs pos pins s U H (fun vs H1=>t2 U H1 fun u H2=>Gh (vs++[u]) H2 Q) I h) fun us s1 ⟨vs,H1,I1,r1,q1⟩=>?_
 refine kws_cons (thn (hd pins s1 U H1 _ I1 q1) fun u s2 ⟨y,H2,I2,r2,q2⟩=>kws_nil ?_)
 obtain ⟨a,ns,i,e1,ea,q⟩:=q2
 obtain ⟨rfl,rfl⟩:vs=[.ref a]/\y=.int i:=by
  cases vs with
  | nil=>cases e1
  | cons b r=>
   cases r with
   | nil=>cases e1;exact ⟨rfl,rfl⟩
   | cons c r=>cases r<;>cases e1
 obtain ⟨u1,rfl,ru⟩:=x4 r1
 cases ru
 obtain ⟨t,rfl⟩:=r2
 obtain ⟨its,rv,pl,_⟩:=I2.list (.of ea)
 obtain ⟨m,hnn,_⟩:=id I2.loc
 refine qX (I2.ok.hd hc) (Att.fr_all hnn) (V3 (g:=Att.noObjs s2.heap) (L:=X.env.locals)) pl.isList (Ei rv) fun v h' tk F N hM=>?_
 rcases hM with ⟨rfl,rfl⟩ | ⟨M,t,rfl,hM,hle⟩
 . exact ⟨.int i,H2,I2.frn hnn F N,⟨_,rfl⟩,q⟩
 . cases ns with
   | nil=>cases hM
   | cons n ns=>
    obtain ⟨a1,a2⟩:=U7 ns n
    have e:M=o6 n ns:=Int.le_antisymm (a2 M hM) (hle _ a1)
    exact ⟨.int M,H2,I2.frn hnn F N,⟨t,rfl⟩,by rw [e];exact q⟩
theorem qV {K:Frag}:x3 K false S0 Gh:=by
 intro H0 H xs ds z Q s r ho k;unfold S0 at ho;split at ho<;>first | cases ho | skip
 rename_i es i;cases hq:v9 es with
 | none=>rw [hq] at ho;cases ho
 | some ns=>
  rw [hq] at ho
  cases ho
  simp only [RDs] at r
  obtain ⟨x1,r1,rfl,q1,x2,r2,rfl,q2,rfl⟩:=r
  obtain ⟨a,ys,rfl,ha,ra⟩:=q1.lst
  have e:=V6 hq ra
  subst e
  cases q2.int
  exact ⟨a,ns,i,rfl,s _ _ ha,k _ H (.pure s (.mkInt _))⟩
theorem jN (hc:X.calm=true) (hg:Gl X x) (hm:X.mg x=none) (hv:bootBuiltins x=some (.builtin "max")) (ha:QE X EX false e f1) (hd:QE X EX false d f2) (hn:x≠"__name__":=by decide) (hdb:(x==("__debug__":Str))=false:=by decide)
  (hs:starEach [e] X.env=(false,eval e X.env)::starEach [] X.env:=by rfl) :
  QE X EX false (.Call (.Name x p) [e] [⟨some (Str.ofString "default"),d,kp⟩] pos) (eCB S0 (a6 f1 (a6 f2 a8))):=
 ⟨(qW hc hg hm hv ha.h hd.h hn hdb hs).imp fun _ _ _ q=>(Hz (Fh qV q)).mono' fun _ _ q=>(Hz q).mono' fun _ _ q=>Ol q⟩
end
noncomputable def SR.thn (r:SR) (g:DS->SR):SR:=match r with
 | .nx ρ'=>g ρ'
 | r=>r
noncomputable def SR.out (fr:Bool) (r:SR):R D:=match r with
 | .rt d=>.ok d
 | .nx _=>if fr=true then .st else .ok .non
 | .er x=>.er x
 | _=>.st
theorem Je (g1 g2:DS->SR) (ρ:DS):b7 g1 g2 ρ=(g1 ρ).thn g2:=rfl
theorem we (ρ:DS) (g:DS->SR):(SR.nx ρ).thn g=g ρ:=rfl
theorem zvk (d:D) (g:DS->SR):(SR.rt d).thn g=.rt d:=rfl
theorem zvl (x:Ex) (g:DS->SR):(SR.er x).thn g=.er x:=rfl
theorem zvm (ρ:DS) (g:DS->SR):(SR.bk ρ).thn g=.bk ρ:=rfl
theorem zvn (ρ:DS) (g:DS->SR):(SR.ct ρ).thn g=.ct ρ:=rfl
theorem zvo (g:DS->SR):(SR.st).thn g=.st:=rfl
theorem zqo (c:Prop) [Decidable c] (a b:SR) (g:DS->SR):(if c then a else b).thn g=if c then a.thn g else b.thn g:=by split<;>rfl
theorem Pf (fr:Bool) (n k:Nat) (g:DS->SR) (ds:List D):mOf fr n k g ds=if ds.length=n then (g (ds.map .im++List.replicate k .em)).out fr else .st:=rfl
theorem zvp (fr:Bool) (d:D):(SR.rt d).out fr=.ok d:=rfl
theorem zvq (ρ:DS):(SR.nx ρ).out false=.ok .non:=rfl
theorem zvr (fr:Bool) (x:Ex):(SR.er x).out fr=.er x:=rfl
theorem zvs (fr:Bool):(SR.st).out fr=.st:=rfl
theorem zqq (fr:Bool) (c:Prop) [Decidable c] (a b:SR):(if c then a else b).out fr=if c then a.out fr else b.out fr:=by split<;>rfl
theorem zvt (m:List Bool) (f:DE->R D) (ρ:DS):e7 m f ρ=(f (vis m ρ)).toS fun d=>.rt d:=rfl
theorem zvu (fr:Bool) (i:Nat) (m:List Bool) (f:DE->R D) (ρ:DS):b9 fr i m f ρ=(f (vis m ρ)).toS fun d=>.nx (J0 fr i d (l7 (keeps fr d) m ρ)):=rfl
theorem jM (t:DE->R Bool) (g1 g2:DS->SR) (ρ:DS):sIf t g1 g2 ρ=(t (see ρ)).toS fun b=>if b=true then g1 ρ else g2 ρ:=rfl
theorem Jd (a:α) (k:α->SR):R.toS (.ok a) k=k a:=rfl
theorem zvw (x:Ex) (k:α->SR):R.toS (.er x:R α) k=.er x:=rfl
theorem zvx (k:α->SR):R.toS (.st:R α) k=.st:=rfl
theorem zqr (c:Prop) [Decidable c] (a b:R α) (k:α->SR):R.toS (if c then a else b) k=if c then R.toS a k else R.toS b k:=by split<;>rfl
theorem zqs (x:Ex) (k:α->R β):R.bind (.er x:R α) k=.er x:=rfl
theorem Df (a:α):(R.ok a).noE=.ok a:=rfl
theorem y08 (m:List Bool):vis m []=[]:=by cases m<;>rfl
theorem y09 (s:Sl) (r:DS):vis [] (s::r)=s.see false::vis [] r:=rfl
theorem y0a (b:Bool) (m:List Bool) (s:Sl) (r:DS):vis (b::m) (s::r)=s.see b::vis m r:=rfl
theorem Pe:see []=[]:=rfl
theorem Pd (s:Sl) (r:DS):see (s::r)=s.see true::see r:=rfl
theorem zvy (b:Bool):Sl.see b .em=none:=rfl
theorem Rt (b:Bool) (d:D):Sl.see b (.im d)=some d:=rfl
theorem Ui (d:D):Sl.see true (.ow d)=some d:=rfl
theorem zqv (d:D):Sl.see false (.ow d)=none:=rfl
theorem zvz (m:List Bool) (ρ:DS):l7 true m ρ=ρ:=rfl
theorem zm0 (fr:Bool) (i:Int):keeps fr (.int i)=true:=by cases fr<;>rfl
theorem zqw (fr:Bool) (i:Bool):keeps fr (.bl i)=true:=by cases fr<;>rfl
theorem zm1 (fr:Bool):keeps fr .non=true:=by cases fr<;>rfl
theorem zm2 (fr:Bool) (x:PySem.Str):keeps fr (.str x)=true:=by cases fr<;>rfl
theorem zm3 (fr:Bool) (ds:List D):keeps fr (.tup ds)=g9 ds:=by cases fr<;>simp only [keeps,D.noL,D.shal,if_true,Bool.false_eq_true,if_false]
theorem Vk (ds:List D):keeps true (.lst ds)=g9 ds:=rfl
theorem zw0:g9 []=true:=by simp only [g9]
theorem zw1 (d:D) (r:List D):g9 (d::r)=(d.noL&&g9 r):=by simp only [g9]
theorem Uh (i:Int):(D.int i).noL=true:=by simp only [D.noL]
theorem zw2 (i:Bool):(D.bl i).noL=true:=by simp only [D.noL]
theorem zqx (i:PySem.Str):(D.str i).noL=true:=by simp only [D.noL]
theorem zqy:(D.non).noL=true:=by simp only [D.noL]
theorem zqz (ds:List D):(D.tup ds).noL=g9 ds:=by simp only [D.noL]
theorem zr0 (ds:List D):(D.lst ds).noL=false:=by simp only [D.noL]
theorem Pc (i:Nat) (d:D) (ρ:DS):J0 false i d ρ=ρ.set i (.im d):=rfl
theorem y0b (i:Nat) (d:D) (ρ:DS):J0 true i d ρ=ρ.set i (.ow d):=rfl
theorem y0c (ρ:DE):sel [] ρ=[]:=rfl
theorem y0d (j:Nat) (r:List Nat) (ρ:DE):sel (j::r) ρ=(ρ[j]?).getD none::sel r ρ:=rfl
theorem y3d (d:D) (r:DE):a5 0 (some d::r)=.ok d:=rfl
theorem y3e (i:Nat) (d:Option D) (r:DE):a5 (i+1) (d::r)=a5 i r:=rfl
theorem y0e (g:Int->Int->D) (i j:Int):dI g (.int i) (.int j)=some (g i j):=rfl
theorem Ct (C:Int->Int->Prop) [∀i j,Decidable (C i j)] (g:Int->Int->D) (i j:Int):dIC C g (.int i) (.int j)=if C i j then some (g i j) else none:=rfl
theorem y0f (b:Bool):asB (.bl b)=some b:=rfl
theorem znx (b:Bool):j9 (.bl b)=some b:=rfl
theorem zw3 (ds:List D):j9 (.lst ds)=some (!ds.isEmpty):=rfl
theorem zw4 (i:Int):j9 (.int i)=some (i != 0):=rfl
theorem Aj (i j:Int):(i==j)=decide (i=j):=by rw [Bool.eq_iff_iff];simp
theorem zw5 (i j:Int):dEq (.int i) (.int j)=some (.bl (decide (i=j))):=by unfold dEq;rw [ξ (by simp [D.pl,D.dep])];simp only [eqD,Aj]
theorem zw6 (i j:Int):dNe (.int i) (.int j)=some (.bl (!decide (i=j))):=by unfold dNe;rw [ξ (by simp [D.pl,D.dep])];simp only [eqD,Aj]
theorem zw7 (i j:Bool):dEq (.bl i) (.bl j)=some (.bl (i==j)):=by unfold dEq;rw [ξ (by simp [D.pl,D.dep])];simp only [eqD]
theorem wd (a b c e:Int):dEq (.tup [.int a,.int b]) (.tup [.int c,.int e])=some (.bl (decide (a=c)&&decide (b=e))):=by unfold dEq;rw [ξ (by simp [D.pl,D.dep,pls,i9])];simp only [eqD,m9,Aj,Bool.and_true]
theorem zw8 (a b c e:Int):dNe (.tup [.int a,.int b]) (.tup [.int c,.int e])=some (.bl (!(decide (a=c)&&decide (b=e)))):=by unfold dNe;rw [ξ (by simp [D.pl,D.dep,pls,i9])];simp only [eqD,m9,Aj,Bool.and_true]
theorem P5 (a:D) (r:List D):dIx (.tup (a::r)) (.int 0)=some a:=by simp only [dIx,dOr,y8,Yh]
theorem wc (a b:D) (r:List D):dIx (.tup (a::b::r)) (.int 1)=some b:=by simp only [dIx,dOr,y8,Yg]
theorem wb (a b c:D) (r:List D):dIx (.tup (a::b::c::r)) (.int 2)=some c:=by simp only [dIx,dOr,y8,show atI (a::b::c::r) 2=some c from U9 (j:=2) rfl]
theorem zw9 (a:D) (r:List D):dIx (.lst (a::r)) (.int 0)=some a:=by simp only [dIx,dOr,y8,Yh]
theorem zwa (a b:D) (r:List D):dIx (.lst (a::b::r)) (.int 1)=some b:=by simp only [dIx,dOr,y8,Yg]
theorem Qa {ds:List D} {j:Nat} {d:D} (h:ds[j]?=some d):dIx (.lst ds) (.int (j:Int))=some d:=by simp only [dIx,dOr,y8,U9 h]
theorem qU (h0:0<=k) (h1:k<ns.length):dIx (.scr ns) (.int k)=some (.int (ns.getD k.toNat 0)):=by
 have hk:k.toNat<ns.length:=by lia
 have e:atI ns k=some (ns.getD k.toNat 0):=by have:=U9 (xs:=ns) (j:=k.toNat) (v:=ns.getD k.toNat 0) (by rw [List.getD_eq_getElem?_getD,List.getElem?_eq_getElem hk];rfl);rwa [show ((k.toNat:Nat):Int)=k by lia] at this
 simp only [dIx,dOr,y8,e,Option.map_some]
theorem zwb (ns:List Int):j4 [.scr ns]=some (.int ns.length):=rfl
theorem Rs (ns:List D):j4 [.lst ns]=some (.int ns.length):=rfl
theorem wa (ns:List D):j4 [.tup ns]=some (.int ns.length):=rfl
theorem y0g (b c:Bool):(if b=true then R.ok true else R.ok c)=R.ok (b||c):=by cases b<;>rfl
theorem zwc (b c:Bool):(if b=true then R.ok c else R.ok false)=R.ok (b&&c):=by cases b<;>rfl
theorem zwd (b c:Bool):(if b=true then R.ok (D.bl true) else R.ok (D.bl c))=R.ok (D.bl (b||c)):=by cases b<;>rfl
theorem zr3 (b c:Bool):(if b=true then R.ok (D.bl c) else R.ok (D.bl false))=R.ok (D.bl (b&&c)):=by cases b<;>rfl
theorem zwe (i:Int):k9 "int" (.int i)=some (.bl true):=by simp [k9,C6,E6,E4]
theorem zwf (i:Int):k9 "bool" (.int i)=some (.bl false):=by simp [k9,C6,E6,E4]
theorem zwg (i:Bool):k9 "bool" (.bl i)=some (.bl true):=by simp [k9,C6,E6,E4]
theorem Rr (ds:List D):k9 "tuple" (.tup ds)=some (.bl true):=by simp [k9,C6,E6,E4]
theorem vZ (ds:List D):k9 "list" (.lst ds)=some (.bl true):=by simp [k9,C6,E6,E4]
theorem zwh (tg:Tg) (g:DS->SR) (ρ:DS):j8 tg g [] ρ=.nx ρ:=rfl
noncomputable def SR.itr (r:SR) (k:DS->SR):SR:=match r with
 | .nx ρ2=>k ρ2
 | .ct ρ2=>k ρ2
 | .bk ρ2=>.nx ρ2
 | .rt d=>.rt d
 | .er x=>.er x
 | .st=>.st
theorem K5 (ρ:DS) (k:DS->SR):(SR.nx ρ).itr k=k ρ:=rfl
theorem zwi (ρ:DS) (k:DS->SR):(SR.ct ρ).itr k=k ρ:=rfl
theorem zwj (ρ:DS) (k:DS->SR):(SR.bk ρ).itr k=.nx ρ:=rfl
theorem zwk (d:D) (k:DS->SR):(SR.rt d).itr k=.rt d:=rfl
theorem zr4 (c:Prop) [Decidable c] (a b:SR) (g:DS->SR):(if c then a else b).itr g=if c then a.itr g else b.itr g:=by split<;>rfl
theorem T7 (i:Nat) (g:DS->SR) (d:D) (ds:List D) (ρ:DS):j8 (.n i) g (d::ds) ρ=(g (ρ.set i (.im d))).itr (j8 (.n i) g ds):=by simp only [j8,J2,Pc,SR.itr]<;>cases g (List.set ρ i (Sl.im d))<;>rfl
theorem Rq (i j:Nat) (g:DS->SR) (a b:D) (ds:List D) (ρ:DS):j8 (.t [i,j]) g (.tup [a,b]::ds) ρ=(g ((ρ.set i (.im a)).set j (.im b))).itr (j8 (.t [i,j]) g ds):=by simp only [j8,J2,Pc,items,Option.bind_some,List.length_cons,List.length_nil,if_true,Dg,SR.itr]<;>cases g ((List.set ρ i (Sl.im a)).set j (Sl.im b))<;>rfl
theorem zr5 (bn:D->Option (List D)) (t:DE->R Bool) (f:DE->R D) (cs:DE):C0 bn t f cs []=.ok []:=rfl
theorem xX (f:DE->R D) (cs:DE) (d:D) (ds:List D):C0 b1 u7 f cs (d::ds)=(f (some d::cs)).noE.bind fun y=>(C0 b1 u7 f cs ds).bind fun ys=>.ok (y::ys):=rfl
theorem Ax {bn:D->Option (List D)} {f:DE->R D} {cs:DE} {α:Type} {en:α->D} {bs:α->List D} {g:α->D} (xs:List α) (hb:∀x∈xs,bn (en x)=some (bs x)) (hf:∀x∈xs,f ((bs x).map some++cs)=.ok (g x)):C0 bn u7 f cs (xs.map en)=.ok (xs.map g):=by
 induction xs with
 | nil=>rfl
 | cons x xs ih=>
  simp only [List.map_cons,C0,hb x (by simp),u7,R.of_some,R.bind_ok,Df,if_true,hf x (by simp),ih (fun y hy=>hb y (by simp [hy])) (fun y hy=>hf y (by simp [hy]))]
theorem Uw {bn:D->Option (List D)} {t:DE->R Bool} {f:DE->R D} {cs:DE} {α:Type} {en:α->D} {bs:α->List D} {p:α->Bool} {g:α->D} (xs:List α) (hb:∀x∈xs,bn (en x)=some (bs x)) (ht:∀x∈xs,t ((bs x).map some++cs)=.ok (p x)) (hf:∀x∈xs,p x=true->f ((bs x).map some++cs)=.ok (g x)):C0 bn t f cs (xs.map en)=.ok ((xs.filter p).map g):=by
 induction xs with
 | nil=>rfl
 | cons x xs ih=>
  have ih':=ih (fun y hy=>hb y (by simp [hy])) (fun y hy=>ht y (by simp [hy])) (fun y hy=>hf y (by simp [hy]))
  simp only [List.map_cons,C0,hb x (by simp),ht x (by simp),R.of_some,R.bind_ok,Df,ih']
  cases e:p x with
  | true=>simp only [if_true,hf x (by simp) e,Df,R.bind_ok,List.filter_cons,e,List.map_cons]
  | false=>simp only [Bool.false_eq_true,if_false,List.filter_cons,e]
theorem wM {tg:Tg} {g:DS->SR} {α:Type} {en:α->D} (P:List α->DS->Prop) (xs:List α) (ρ:DS) (h0:P xs ρ) (hs:∀x r ρ,P (x::r) ρ->∃ρ1 ρ2,J2 tg (en x) ρ=some ρ1/\(g ρ1=.nx ρ2\/g ρ1=.ct ρ2)/\P r ρ2):∃ρ',j8 tg g (xs.map en) ρ=.nx ρ'/\P [] ρ':=by
 induction xs generalizing ρ with
 | nil=>exact ⟨ρ,rfl,h0⟩
 | cons x r ih=>
  obtain ⟨ρ1,ρ2,e1,e2,q⟩:=hs x r ρ h0
  obtain ⟨ρ',e',p'⟩:=ih ρ2 q
  refine ⟨ρ',?_,p'⟩
  rcases e2 with e2 | e2<;>simp only [List.map_cons,j8,e1,e2,e']
noncomputable def L (ns:List Int):D:=.lst (ns.map .int)
theorem F5 (f:α->D) (xs:List α) (h:∀x∈xs,(f x).noL=true):g9 (xs.map f)=true:=by
 induction xs with
 | nil=>simp only [List.map_nil,g9]
 | cons a r ih=>simp only [List.map_cons,g9,h a (by simp),ih fun x hx=>h x (by simp [hx]),Bool.and_self]
theorem zwl (ns:List Int):keeps true (L ns)=true:=by unfold L;rw [Vk];exact F5 _ _ fun x _=>Uh x
theorem y0h (ns:List Int):j4 [L ns]=some (.int ns.length):=by unfold L;rw [Rs,List.length_map]
theorem zwm (ns:List Int):F9 [L ns]=some (L ns):=rfl
theorem y0i (ns:List Int):k9 "list" (L ns)=some (.bl true):=vZ _
theorem zr6 (ns:List Int):items (L ns)=some (ns.map .int):=rfl
theorem Xu (h0:0<=x) (h1:x.toNat<ns.length):dIx (L ns) (.int x)=some (.int (ns.getD x.toNat 0)):=by
 have e:(ns.map D.int)[x.toNat]?=some (.int (ns.getD x.toNat 0)):=by rw [List.getElem?_map,List.getElem?_eq_getElem h1,List.getD_eq_getElem?_getD,List.getElem?_eq_getElem h1];rfl
 have:=Qa e;rwa [show ((x.toNat:Nat):Int)=x by lia] at this
theorem y3f {ns:List Int} {k:Nat} (h1:k<ns.length):dIx (L ns) (.int (k:Int))=some (.int (ns.getD k 0)):=Xu (x:=(k:Int)) (by lia) (by simpa using h1)
theorem Gg (h:ns.length<100000):F7 (L ns) [.int x]=some (L (ns++[x])):=by simp only [L,F7,List.length_map,h,if_true,List.map_append,List.map_cons,List.map_nil]
theorem y3g (ns:List Int) (lo hi:Option Int):dSl (L ns) lo hi=some (L (y0 ns lo hi)):=by simp only [L,dSl,y0,List.length_map,List.map_take,List.map_drop]
theorem zwn (ns:List Int) (lo hi:Option Int):dSl (.scr ns) lo hi=some (L (y0 ns lo hi)):=rfl
theorem y0j (ns:List Int):F8 [L ns]=some (.int ns.sum):=by simp only [L,F8,Lu,Option.map_some]
theorem all_map (xs:List α) (f:α->Bool):Q5 [.lst (xs.map fun x=>D.bl (f x))]=some (.bl (xs.all f)):=by
 have:xs.map (fun x=>D.bl (f x))=(xs.map f).map D.bl:=by rw [List.map_map];rfl
 rw [this];simp only [Q5,Md,Option.map_some,List.all_map];rfl
theorem any_map (xs:List α) (f:α->Bool):X1 [.lst (xs.map fun x=>D.bl (f x))]=some (.bl (xs.any f)):=by
 have:xs.map (fun x=>D.bl (f x))=(xs.map f).map D.bl:=by rw [List.map_map];rfl
 rw [this];simp only [X1,Md,Option.map_some,List.any_map];rfl
theorem R9 (ns:List Int):(L ns).dep<=1/\(L ns).pl=true:=by
 have:∀ns:List Int,i9 (ns.map D.int)=0/\pls (ns.map D.int)=true:=fun ns=>by
  induction ns with
  | nil=>simp only [List.map_nil,i9,pls,and_self]
  | cons a r ih=>simp only [List.map_cons,i9,pls,D.dep,D.pl,ih.1,ih.2,Bool.and_self,Nat.max_self,and_self]
 simp only [L,D.dep,D.pl,this];exact ⟨by lia,trivial⟩
theorem Ho:∀(a b:List Int),m9 (a.map D.int) (b.map D.int)=decide (a=b)
 | [],[]=>by simp [m9]
 | [],_::_=>by simp [m9]
 | _::_,[]=>by simp [m9]
 | x::a,y::b=>by simp only [List.map_cons,m9,eqD,Ho a b,List.cons.injEq,Bool.decide_and,Aj]
theorem y3h (a b:List Int):dEq (L a) (L b)=some (.bl (decide (a=b))):=by unfold dEq;rw [ξ ⟨(R9 a).2,(R9 b).2,by have:=(R9 a).1;lia⟩];simp only [L,eqD,Ho]
theorem y3i (a b:List Int):dNe (L a) (L b)=some (.bl (!decide (a=b))):=by unfold dNe;rw [ξ ⟨(R9 a).2,(R9 b).2,by have:=(R9 a).1;lia⟩];simp only [L,eqD,Ho]
theorem Tq {tg:Tg} {g:DS->SR} (n:Nat) (en:Nat->D) (P:Nat->DS->Prop) (ρ:DS) (h0:P 0 ρ)
  (hs:∀i,i<n->∀ρ,P i ρ->∃ρ1 ρ2,J2 tg (en i) ρ=some ρ1/\(g ρ1=.nx ρ2\/g ρ1=.ct ρ2)/\P (i+1) ρ2) :
  ∃ρ',j8 tg g ((List.range n).map en) ρ=.nx ρ'/\P n ρ':=by
 have key:∀k s ρ,s+k=n->P s ρ->∃ρ',j8 tg g ((List.range' s k).map en) ρ=.nx ρ'/\P n ρ':=by
  intro k;induction k with
  | zero=>intro s ρ e h;exact ⟨ρ,rfl,by rwa [<-e]⟩
  | succ k ih=>
   intro s ρ e h
   obtain ⟨ρ1,ρ2,e1,e2,q⟩:=hs s (by lia) ρ h
   obtain ⟨ρ',e',p'⟩:=ih (s+1) ρ2 (by lia) q
   refine ⟨ρ',?_,p'⟩
   rw [List.range'_succ,List.map_cons]
   rcases e2 with e2 | e2<;>simp only [j8,e1,e2,e']
 rw [List.range_eq_range']
 exact key n 0 ρ (by lia) h0
theorem wL (n:Nat) (g:Nat->D):((zD 0 ((List.range n).map g).length).zip ((List.range n).map g)).map (fun p=>D.tup [p.1,p.2])=(List.range n).map fun (i:Nat)=>D.tup [.int (i:Int),g i]:=by
 simp only [zD,List.length_map,List.length_range];have:∀(l:List Nat),((l.map fun (i:Nat)=>D.int (0+i)).zip (l.map g)).map (fun p=>D.tup [p.1,p.2])=l.map fun (i:Nat)=>D.tup [.int (i:Int),g i]:=fun l=>by
  induction l with
  | nil=>rfl
  | cons a r ih=>simp only [Int.zero_add] at ih ⊢;simp only [List.map_cons,List.zip_cons_cons,ih]
 exact this _
theorem jL (xs:List α) (d:α):xs=(List.range xs.length).map fun i=>xs.getD i d:=by
 apply List.ext_getElem?;intro i;by_cases h:i<xs.length
 . rw [List.getElem?_map,List.getElem?_range h,Option.map_some,List.getD_eq_getElem?_getD,List.getElem?_eq_getElem h];rfl
 . rw [List.getElem?_eq_none (by lia),List.getElem?_eq_none (by simp;lia)]
theorem y0k (ns:List Int):isT "list" (L ns)=true:=by simp only [L,isT,beq_self_eq_true]
theorem zwp (m:List Bool) (ρ:DS):l7 false m ρ=frz m ρ:=rfl
theorem y0l (ρ:DS):frz [] ρ=ρ:=by cases ρ<;>rfl
theorem y0m (m:List Bool):frz m []=[]:=by cases m<;>rfl
theorem y0n (b:Bool) (m:List Bool) (s:Sl) (r:DS):frz (b::m) (s::r)=s.frz b::frz m r:=rfl
theorem zwq (b:Bool) (d:D):Sl.frz b (.im d)=.im d:=rfl
theorem zwr (b:Bool):Sl.frz b .em=.em:=rfl
theorem zr8 (d:D):Sl.frz false (.ow d)=.ow d:=rfl
theorem zr9 (d:D):Sl.frz true (.ow d)=.im d:=rfl
theorem Y3 (h:-(2 ^ 64)<i/\i<2 ^ 64):p5 (.int i) (.int j)=some (.int (i * j)):=by unfold p5;rw [Ct,ξ (show CMul i j from Or.inl h)]
theorem Ny (h:-(2 ^ 64)<j/\j<2 ^ 64):p5 (.int i) (.int j)=some (.int (i * j)):=by unfold p5;rw [Ct,ξ (show CMul i j from Or.inr h)]
theorem j7 (h:0<j):g8 (.int i) (.int j)=some (.int (i % j)):=by unfold g8;rw [Ct,ξ h]
theorem Cn (h:0<j/\j<1073741824):L9 (.int i) (.int j)=some (.int (i / j)):=by unfold L9;rw [Ct,ξ (show O4 i j from h)]
theorem zwt (i:Int):R.of (match D.int i with | .int i=>some (some i) | _=>none)=R.ok (some i):=rfl
theorem qT (hj:-100000<=j/\j<=100000):-(2 ^ 62)<=j/\j<2 ^ 62:=by lia
theorem Gf (j:Int) (hj:-100000<=j/\j<=100000) (h:fs ρ=.ok [.int j]):L8 fs ρ=.ok (zD 0 j.toNat):=by unfold L8;rw [h,R.bind_ok];show R.of (if _ then _ else _)=_;rw [ξ (qT hj)];rfl
theorem zrc (ds:List D):items (.lst ds)=some ds:=rfl
theorem zrd (ds:List D):items (.tup ds)=some ds:=rfl
theorem zx (ds:List D):keeps false (.lst ds)=false:=by simp only [keeps,D.noL,Bool.false_eq_true,if_false]
theorem zre (ns:List Int):keeps false (L ns)=false:=zx _
noncomputable def T2 (p:Int×Int):D:=.tup [.int p.1,.int p.2]
noncomputable def T3 (p:Int×Int×Int):D:=.tup [.int p.1,.int p.2.1,.int p.2.2]
theorem Le (h:ois l'=true) (p:l.Perm l'):v7 l=v7 l':=
 Kk (Dz ((N6 l).trans p) h) (((N6 l).trans p).trans (N6 l').symm) (Ef (Dz p h)) (Ef h)
noncomputable def Q4 {α:Type} (lt:α->α->Bool) (d:α):List α->List α
 | []=>[d]
 | e::r=>if lt e d=true then e::Q4 lt d r else d::e::r
def J3 {α:Type} (lt:α->α->Bool):List α->List α
 | []=>[]
 | d::r=>Q4 lt d (J3 lt r)
section
variable {α:Type} (f:α->D)
theorem Tp (d:α):∀l:List α,G9 (f d) (l.map f)=(Q4 (fun a b=>ltT (f a) (f b)) d l).map f
 | []=>rfl
 | e::r=>by
  simp only [List.map_cons,G9,Q4];split
  . rw [List.map_cons,Tp d r]
  . rfl
theorem Aw:∀l:List α,v7 (l.map f)=(J3 (fun a b=>ltT (f a) (f b)) l).map f
 | []=>rfl
 | d::r=>by simp only [List.map_cons,v7,J3,Aw r,Tp]
variable (lt:α->α->Bool)
theorem Uv (d:α):∀l:List α,(Q4 lt d l).Perm (d::l)
 | []=>.refl _
 | e::r=>by
  unfold Q4;split
  . exact ((Uv d r).cons e).trans (.swap d e r)
  . exact .refl _
theorem Bg:∀l:List α,(J3 lt l).Perm l
 | []=>.refl _
 | d::r=>(Uv lt d (J3 lt r)).trans ((Bg r).cons d)
end
def so2 (ls:List (Int×Int)):List (Int×Int):=J3 (fun a b=>ltT (T2 a) (T2 b)) ls
def so3 (ls:List (Int×Int×Int)):List (Int×Int×Int):=J3 (fun a b=>ltT (T3 a) (T3 b)) ls
def soI (ls:List Int):List Int:=J3 (fun a b=>ltT (.int a) (.int b)) ls
theorem Dj (ls:List (Int×Int)):v7 (ls.map T2)=(so2 ls).map T2:=Aw _ _
theorem Rp (ls:List (Int×Int×Int)):v7 (ls.map T3)=(so3 ls).map T3:=Aw _ _
theorem qS (ls:List Int):v7 (ls.map D.int)=(soI ls).map D.int:=Aw _ _
theorem Ki (ls:List (Int×Int)):(so2 ls).Perm ls:=Bg _ _
theorem To (ls:List (Int×Int×Int)):(so3 ls).Perm ls:=Bg _ _
theorem wK (ls:List Int):(soI ls).Perm ls:=Bg _ _
theorem T6 (xs:List α) (f:α->D) (p:D->Bool) (h:∀x,p (f x)=true):(xs.map f).all p=true:=by rw [List.all_eq_true];intro d hd;obtain ⟨x,_,rfl⟩:=List.mem_map.mp hd;exact h x
theorem Z6 (xs:List α) (f:α->D) (h:∀x,(f x).oi=true):ois (xs.map f)=true:=
 ois_mem.mpr fun d hd=>by obtain ⟨x,_,rfl⟩:=List.mem_map.mp hd;exact h x
theorem Jo (xs:List α) (f:α->D) (n:Nat) (h:∀x,(f x).dep<=n):i9 (xs.map f)<=n:=by
 induction xs with
 | nil=>simp only [List.map_nil,i9,Nat.zero_le]
 | cons a r ih=>simp only [List.map_cons,i9];have:=h a;lia
theorem jK (xs:List α) (f:α->D) (h:∀x,(f x).pl=true):pls (xs.map f)=true:=by
 induction xs with
 | nil=>simp only [List.map_nil,pls]
 | cons a r ih=>simp only [List.map_cons,pls,h a,ih,Bool.and_self]
theorem Ge (p:Int×Int):(T2 p).oi=true:=by simp [T2,D.oi,ois]
theorem y0o (p:Int×Int×Int):(T3 p).oi=true:=by simp [T3,D.oi,ois]
theorem y3j (p:Int):(D.int p).oi=true:=by simp [D.oi]
theorem Z5 (p:Int×Int):(T2 p).dep<=1:=by simp [T2,D.dep,i9]
theorem Cm (p:Int×Int):(T2 p).pl=true:=by simp [T2,D.pl,pls]
theorem E9 (p:Int×Int):(T2 p).noL=true:=by simp [T2,D.noL,g9]
theorem vY (p:Int×Int×Int):(T3 p).noL=true:=by simp [T3,D.noL,g9]
theorem Pz (p q:Int×Int):(g7 (T2 p) (T2 q)).isSome=true:=by simp only [T2,g7,o8];repeat (first | rfl | split)
theorem xW (ls:List (Int×Int)) (h:ls.length<64):Hr (ls.map T2)=true:=by unfold Hr;rw [List.length_map,decide_eq_true h,Z6 _ _ Ge,decide_eq_true (Nat.le_trans (Jo ls T2 1 Z5) (by decide)),T6 ls T2 (fun d=>(ls.map T2).all fun e=>(g7 d e).isSome) (fun x=>T6 _ _ _ fun y=>Pz x y),T6 ls T2 E1 (fun x=>rfl)];simp
theorem sorted_T2 (ls:List (Int×Int)) (h:ls.length<64):Sf [.lst (ls.map T2)]=some (.lst ((so2 ls).map T2)):=by simp only [Sf,xW ls h,if_true,Dj]
theorem jJ (h:T3 p=T3 q):p=q:=by obtain ⟨a,b,c⟩:=p;obtain ⟨a',b',c'⟩:=q;simp only [T3,D.tup.injEq,List.cons.injEq,D.int.injEq,and_true] at h;simp only [Prod.mk.injEq];exact h
theorem jI (h:T2 p=T2 q):p=q:=by obtain ⟨a,b⟩:=p;obtain ⟨a',b'⟩:=q;simp only [T2,D.tup.injEq,List.cons.injEq,D.int.injEq,and_true] at h;simp only [Prod.mk.injEq];exact h
theorem Dy {α β:Type} {f:α->β} (hf:∀x y,f x=f y->x=y):∀{a b:List α},a.map f=b.map f->a=b
 | [],[],_=>rfl
 | [],_::_,h=>by simp at h
 | _::_,[],h=>by simp at h
 | x::a,y::b,h=>by simp only [List.map_cons,List.cons.injEq] at h;rw [hf _ _ h.1,Dy hf h.2]
theorem wJ (p:a.Perm b):so3 a=so3 b:=by have:=Le (Z6 b T3 y0o) (p.map T3);rw [Rp,Rp] at this;exact Dy (fun _ _=>jJ) this
theorem wI (p:a.Perm b):so2 a=so2 b:=by have:=Le (Z6 b T2 Ge) (p.map T2);rw [Dj,Dj] at this;exact Dy (fun _ _=>jI) this
theorem Py (h1:∀y∈ys,y<=m) (h2:m∈ys\/(ys=[]/\d=m)):mxD d ys=m:=by
 cases ys with
 | nil=>
  rcases h2 with h2 | h2
  . cases h2
  . exact h2.2
 | cons n ns=>
  rcases h2 with h2 | h2
  . obtain ⟨a,b⟩:=U7 ns n;exact Int.le_antisymm (h1 _ a) (b _ h2)
  . cases h2.1
theorem y0p (ds:List D):isT "list" (.lst ds)=true:=by simp only [isT,beq_self_eq_true]
theorem y0q (b:Bool):O2 [.bl b]=some (.int (if b then 1 else 0)):=rfl
theorem y0r (i:Int):O2 [.int i]=some (.int i):=rfl
theorem zwx (ds:List D):F9 [.tup ds]=some (.lst ds):=rfl
theorem zwy (ds:List D):F9 [.lst ds]=some (.lst ds):=rfl
theorem zrh (ds:List D):P4 [.lst ds]=some (.tup ds):=rfl
theorem zri (ds:List D):P4 [.tup ds]=some (.tup ds):=rfl
theorem zmb (ls:List (Int×Int)):g9 (ls.map T2)=true:=F5 _ _ fun x _=>E9 x
theorem zmc (ls:List (Int×Int×Int)):g9 (ls.map T3)=true:=F5 _ _ fun x _=>vY x
theorem Px (h:ls.length<100000):F7 (.lst (ls.map T2)) [.tup [.int a,.int b]]=some (.lst ((ls++[(a,b)]).map T2)):=by simp only [F7,List.length_map,h,if_true,List.map_append,List.map_cons,List.map_nil];rfl
theorem Kh (hp:d.pl=true) (hd:d.dep<=20):dEq d d=some (.bl true):=by unfold dEq;rw [ξ ⟨hp,hp,hd⟩,Eb d hp]
theorem zwz (t:Int×Int×Int):F8 [T3 t]=some (.int (t.1+(t.2.1+(t.2.2+0)))):=by simp only [T3,F8,v9,Option.map_some,List.sum_cons,List.sum_nil]
theorem zx0 (t:Int×Int):F8 [T2 t]=some (.int (t.1+(t.2+0))):=by simp only [T2,F8,v9,Option.map_some,List.sum_cons,List.sum_nil]
theorem zx1 (t:Int×Int×Int):k9 "tuple" (T3 t)=some (.bl true):=Rr _
theorem zx2 (t:Int×Int):k9 "tuple" (T2 t)=some (.bl true):=Rr _
theorem zx3 (t:Int×Int):j4 [T2 t]=some (.int 2):=rfl
theorem y0s (t:Int×Int):dIx (T2 t) (.int 0)=some (.int t.1):=P5 _ _
theorem y0t (t:Int×Int):dIx (T2 t) (.int 1)=some (.int t.2):=wc _ _ _
theorem zmd (t:Int×Int×Int):items (T3 t)=some [.int t.1,.int t.2.1,.int t.2.2]:=rfl
section
variable {K:Frag}
noncomputable def Q3:D->List D->Option D
 | .lst ds,[.int i]=>if 0<=i/\i<ds.length/\i<2 ^ 63 then some (.lst (ds.eraseIdx i.toNat)) else none
 | _,_=>none
theorem RDs.erase:∀{ds:List D} {xs:List V},RDs K H ds xs->∀k,RDs K H (ds.eraseIdx k) (xs.eraseIdx k)
 | ds,xs,r,k=>by rw [List.eraseIdx_eq_take_drop_succ,List.eraseIdx_eq_take_drop_succ];exact (r.take _).append (r.drop _)
theorem jH:I0 K Q3 Qr:=by
 intro H0 H a d d' ds vs Q s h0 ob r hm k;unfold Q3 at hm;split at hm<;>first | cases hm | skip
 split at hm<;>cases hm;rename_i es i hl;simp only [OB] at ob;obtain ⟨xs,hx,rx⟩:=ob;obtain ⟨y,rfl,q1⟩:=r.uno;cases q1.int;obtain ⟨l0,l1,l2⟩:=hl;have hlen:i.toNat<xs.length:=by rw [<-rx.length];lia
 refine ⟨a,xs,i,i.toNat,xs[i.toNat],rfl,rfl,hx,by lia,l2,?_,List.getElem?_eq_getElem hlen,k _ _ ?_⟩
 . unfold seqIndex?;have e:(if i<0 then i+(xs.length:Int) else i)=i:=ψ (by lia);simp only [e];rw [ξ];simp only [Bool.and_eq_true,decide_eq_true_eq]
   lia
 . simp only [OB];exact ⟨_,i8,rx.erase _⟩
end
def Nw (i j:Int):Prop:=0<j/\j<2 ^ 200
instance (i j:Int):Decidable (Nw i j):=by unfold Nw;infer_instance
noncomputable def hid (as:List Addr) (H:Hp):Hp:=fun b=>if b∈as then none else H b
theorem jG (h:a∈as):hid as H a=none:=ξ h
theorem Ro (h:a∉as):hid as H a=H a:=ψ h
theorem Jn {α:Type} {l:List α} {i j:Nat} {x y:α} (h:(l.set i x)[j]?=some y):(i=j/\x=y)\/(i≠j/\l[j]?=some y):=by
 by_cases e:i=j
 . subst e;by_cases hl:i<l.length
   . rw [List.getElem?_set_self hl] at h;exact .inl ⟨rfl,Option.some.inj h⟩
   . rw [List.getElem?_eq_none (by rw [List.length_set];lia)] at h;cases h
 . rw [List.getElem?_set_ne e] at h;exact .inr ⟨e,h⟩
noncomputable def z3 (qs:List (NK×Addr)) (vs:List Value):List (NK×Addr×Value):=(qs.zip vs).map fun q=>(q.1.1,q.1.2,q.2)
def Nv (i j:Int):Prop:=Builtin.Int.intBits i<=2 ^ 20/\Builtin.Int.intBits j<=2 ^ 20
instance (i j:Int):Decidable (Nv i j):=by unfold Nv;infer_instance
section
open PySem.SeqAt
open PySem.AutoSeq1 (wpAny_loadPart')
open PySem.MeetsSeq PySem.MeetsSeq2 PySem.MeetsSeq3
end
noncomputable def TuI (ns:List Int):D:=.tup (ns.map .int)
theorem Kg:∀ns:List Int,ois (ns.map D.int)=true/\i9 (ns.map D.int)=0
 | []=>by simp [ois,i9]
 | n::ns=>by have:=Kg ns;simp only [List.map_cons,ois,i9,D.oi,D.dep,this.1,this.2,Bool.and_self,Nat.max_self,and_self]
theorem jF (ns:List Int):(TuI ns).oi=true:=by simp only [TuI,D.oi];exact (Kg ns).1
theorem Uu:∀a b:List Int,∃r,o8 (a.map D.int) (b.map D.int)=some r
 | [],[]=>⟨_,rfl⟩
 | [],_::_=>⟨_,rfl⟩
 | _::_,[]=>⟨_,rfl⟩
 | x::a,y::b=>by
  simp only [List.map_cons,o8];split
  . exact Uu a b
  . exact ⟨_,rfl⟩
end L2
namespace L2
open PySem PySem.Spec PyProof.Rows
section
open PySem.SeqAt
open PySem.AutoSeq1 (wpAny_loadPart')
end
end L2
namespace L2
open PySem PySem.Spec PyProof.Rows
section
open PySem.SeqAt
open PySem.AutoSeq1 (wpAny_loadPart')
end
end L2
namespace L2
open PySem PySem.Spec PyProof.Rows
section
open PySem.SeqAt
open PySem.AutoSeq1 (wpAny_loadPart')
end
end L2
namespace L2
open PySem PySem.Spec PyProof.Rows
section
open PySem.SeqAt
open PySem.AutoSeq1 (wpAny_loadPart')
end
section
open PySem.SeqAt
open PySem.AutoSeq1 (wpAny_loadPart')
end
end L2
namespace L2
open PySem PySem.Spec PyProof.Rows
def y0u (i j:Int):Prop:=0<j/\j.natAbs<2 ^ 9000
noncomputable instance (i j:Int):Decidable (y0u i j):=Classical.propDecidable _
section
open PySem.SeqAt
open PySem.AutoSeq1 (wpAny_loadPart')
end
end L2
namespace L2
open PySem PySem.Spec PyProof.Rows
def Keep (h h':Heap):Prop:=∀b o,h.get? b=some o->h'.get? b=some o
theorem Keep.trans (x:Keep a b) (y:Keep b c):Keep a c:=fun q o e=>y q o (x q o e)
theorem Keep.tuple (x:Keep h h') (t:h.IsTuple a its):h'.IsTuple a its:=let ⟨o,e,c⟩:=t;⟨o,x a o e,c⟩
theorem Keep.list (x:Keep h h') (t:h.IsList a its):h'.IsList a its:=let ⟨o,e,c⟩:=t;⟨o,x a o e,c⟩
section
open HT
open PySem.SeqAt
open PySem.AutoSeq1 (wpAny_loadPart')
open PySem.MeetsSeq PySem.MeetsSeq2 PySem.MeetsSeq3
end
end L2
namespace L2
open PySem PySem.Spec PyProof.Rows
section
variable {K:Frag}
noncomputable def Y2:D->List D->Option D
 | .lst ds,[]=>if 0<ds.length then some (.lst ds.dropLast) else none
 | _,_=>none
theorem jE (r:RDs K H ds xs):RDs K H ds.dropLast xs.dropLast:=by rw [List.dropLast_eq_take,List.dropLast_eq_take,r.length];exact r.take _
theorem qR:I0 K Y2 Ym:=by
 intro H0 H a d d' ds vs Q s h0 ob r hm k;unfold Y2 at hm;split at hm<;>first | cases hm | skip
 split at hm<;>cases hm;rename_i es hl;simp only [OB] at ob;obtain ⟨xs,hx,rx⟩:=ob;have hn:vs=[]:=by have:=r.length;simp at this;exact List.eq_nil_of_length_eq_zero (by omega)
 have hlen:xs.length - 1<xs.length:=by rw [<-rx.length];omega
 refine ⟨a,xs,xs[xs.length - 1],rfl,hn,hx,List.getElem?_eq_getElem hlen,k _ _ ?_⟩;simp only [OB];exact ⟨_,i8,jE rx⟩
end
abbrev Kp (is:List Nat) (U σ':St):Prop:=∀i∈is,σ'[i]?=U[i]?
noncomputable def Gd (is:List Nat) (De:Ends) (U:St):Ends:={ De with nx:=fun σ' H'=>Kp is U σ'->De.nx σ' H',bk:=fun σ' H'=>Kp is U σ'->De.bk σ' H',ct:=fun σ' H'=>Kp is U σ'->De.ct σ' H' }
def TSk (K:Frag) (EX:XW) (is:List Nat) (g:DS->SR):TS:=fun De U H=>TSd K EX false g (Gd is De U) U H
structure QK (X:Cx) (EX:XW) (is:List Nat) (st:Stmt) (g:DS->SR):Prop where
 h:PS X st (TSk X.K EX is g)
structure QKB (X:Cx) (EX:XW) (is:List Nat) (sts:List Stmt) (g:DS->SR):Prop where
 h:PSs X sts (TSk X.K EX is g)
def TGk (K:Frag) (is:List Nat) (tt:Tg):TG:=fun v U H Q=>TGd K tt v U H fun σ' H'=>Kp is U σ'->Q σ' H'
structure QGk (X:Cx) (is:List Nat) (tg:Expr) (tt:Tg):Prop where
 h:PG X tg (TGk X.K is tt)
theorem SK.mon {K:Frag} {EX:XW} {fr:Bool} {Hc Hb:Hp} {D1 D2:Ends} {r:SR} (h:SK K EX fr Hc Hb D1 r) (hn:∀U H,D1.nx U H->D2.nx U H) (hb:∀U H,D1.bk U H->D2.bk U H) (hc:∀U H,D1.ct U H->D2.ct U H) (hr:∀v H,D1.rt v H->D2.rt v H):SK K EX fr Hc Hb D2 r:=by
 cases r with
 | nx ρ=>exact fun U H H0 R=>hn U H (h U H H0 R)
 | bk ρ=>exact fun U H H0 R=>hb U H (h U H H0 R)
 | ct ρ=>exact fun U H H0 R=>hc U H (h U H H0 R)
 | rt d=>exact fun v H o=>hr v H (h v H o)
 | er x=>exact h
 | st=>exact h
theorem TSd.mon {K:Frag} {EX:XW} {fr:Bool} {D1 D2:Ends} {g:DS->SR} {U:St} {H:Hp} (h:TSd K EX fr g D1 U H) (hn:∀U H,D1.nx U H->D2.nx U H) (hb:∀U H,D1.bk U H->D2.bk U H) (hc:∀U H,D1.ct U H->D2.ct U H) (hr:∀v H,D1.rt v H->D2.rt v H):TSd K EX fr g D2 U H:=by obtain ⟨Hc,Hb,H0,ρ,sb,R,h⟩:=h;exact ⟨Hc,Hb,H0,ρ,sb,R,h.mon hn hb hc hr⟩
theorem Kp.trans (h:Kp is a b) (k:Kp is b c):Kp is a c:=fun i hi=>(k i hi).trans (h i hi)
theorem Kp.set (h:i∉is):Kp is U (U.set i v):=fun j hj=>List.getElem?_set_ne (fun e:i=j=>h (by rw [e];exact hj))
section
variable {X:Cx} {EX:XW} {is:List Nat} {st:Stmt} {sts:List Stmt} {c e:Expr} {f:DE->R D} {t:DE->R Bool} {g g1 g2:DS->SR} {pos:Pos} {m:List Bool}
theorem T4:QKB X EX is [] sNx:=⟨pss_nil.imp fun _ _ _ q=>(Yc q) fun _ _=>rfl⟩
theorem M8 (h:QK X EX is st g):QKB X EX is [st] g:=⟨Sw h.h⟩
theorem N1 (h1:QK X EX is st g1) (h2:QKB X EX is sts g2):QKB X EX is (st::sts) (b7 g1 g2):=⟨(Ar h1.h h2.h).imp fun De U H q=>by
 have q:=Oj q;unfold Fu at q ⊢;refine TSd.mon q (fun σ1 H1 n k=>?_) (fun _ _ b=>b) (fun _ _ b=>b) fun _ _ b=>b
 exact TSd.mon n (fun σ2 H2 n2 k2=>n2 (k.trans k2)) (fun σ2 H2 n2 k2=>n2 (k.trans k2)) (fun σ2 H2 n2 k2=>n2 (k.trans k2)) fun _ _ b=>b⟩
theorem Q2 (hc:QT X EX c t) (ha:QKB X EX is x g1) (hb:QKB X EX is y g2):QK X EX is (.If c x y pos) (sIf t g1 g2):=⟨(Pa hc.h ha.h hb.h).imp fun _ _ _ q=>Oi q⟩
theorem Gc (hni:i∉is) (hN:X.N.Nodup) (hi:X.N[i]?=some x) (hx:Loc X.env.scope x) (he:QE X EX fr' e f) (hs:swapsWith e (some (.Name x pos')) pos.line X.env=pure false:=by rfl) (hf:X.fn x=true\/X.env.scope.names.lookup x=some .local:=by exact .inl rfl) :
  QK X EX is (.Assign [.Name x pos'] e pos) (b9 fr' i m f):=⟨(Jc hN hi hx he.h hs hf).imp fun De U H q=>by
 have q:=Y9 q
 unfold E5 x5 at q ⊢
 exact TEd.mono' q fun v H' n=>n (Kp.set hni)⟩
theorem y3k (hni:i∉is) (hN:X.N.Nodup) (hi:X.N[i]?=some x) (hx:Loc X.env.scope x) (hf:X.fn x=true\/X.env.scope.names.lookup x=some .local:=by exact .inl rfl):QGk X is (.Name x pos) (.n i):=⟨(Dv hN hi hx hf).imp fun _ U _ _ q=>(Yb q) (Kp.set hni)⟩
theorem y0v (hp:PassesOwn (model X.prog X.w) X.A X.env X.xe) (hc:X.calm=true) (hi:QI X EX kp tg iter fi) (hg:QGk X is tg tt) (hb:QKB X EX is body g)
  (hs:∀x,foldedSetIterable iter X.env x=pure x:=by intro _;rfl):QK X EX is (.For tg iter body [] pos) (B7 kp m fi tt g):=⟨(Sr hp hc hi.h hg.h hb.h hs).imp fun De U H q=>by
 obtain ⟨sx,ρ,H0,s,e,h⟩:=Og q
 refine ⟨sx,ρ,H0,s,e,h.mono fun ds z J H' H0' s' e' it=>?_⟩
 obtain ⟨W,⟨n,w0⟩,turn⟩:=z J H' H0' s' e' it
 refine ⟨fun i n σ1 H1=>W i n σ1 H1/\Kp is U σ1,⟨n,w0,fun _ _=>rfl⟩,fun i n σ1 H1 ⟨w,k⟩=>?_⟩
 rcases turn i n σ1 H1 w with ⟨a,b⟩ | ⟨go,N,hN,step⟩
 . exact .inl ⟨a,b k⟩
 . refine .inr ⟨go,fun σ' H'=>N σ' H'/\Kp is U σ',fun σ' H' ⟨a,b⟩=>?_,fun x H2 y=>?_⟩
   . obtain ⟨n',hl,w'⟩:=hN σ' H' a;exact ⟨n',hl,w',b⟩
   . obtain ⟨Hc,Hb,H3,ρ3,d,ρ4,I,r,e3,q3⟩:=step x H2 y;refine ⟨Hc,Hb,H3,ρ3,d,ρ4,I,r,e3,fun σ' I' k2=>?_⟩;have kk:=k.trans k2;exact TSd.mon (q3 σ' I') (fun σ5 H5 a k5=>⟨a,kk.trans k5⟩) (fun σ5 H5 a k5=>a (kk.trans k5)) (fun σ5 H5 a k5=>⟨a,kk.trans k5⟩) fun _ _ a=>a⟩
end
def spU (K:Frag) (mU:List D->R D) (n:Nat):Sp:=fun vs H Q _=>∃(d:D) (ds:List D) (a:Addr) (ws:List V) (H0:Hp),vs=.ref a::ws/\ds.length+1=n/\Same H0 H/\H0 a=none/\OB K H0 H a d/\RDs K H0 ds ws /\
 Rk (fun _=>False) (mU (d::ds)) fun d'=>∀H' H0',Same (hid [a] H) H'->Ext H0 (hid [a] H) H0' H'->H0' a=none->OB K H0' H' a d'->Q .non H'
noncomputable def Ng (n k:Nat) (g:DS->SR):List D->R D
 | d::r=>if r.length+1=n then (match g (.ow d::(r.map .im++List.replicate k .em)) with
  | .nx (.ow d'::_)=>.ok d'
  | _=>.st) else .st
 | []=>.st
theorem RDs.atR {K:Frag} {H:Hp}:∀{ds:List D} {ws:List V},RDs K H ds ws->∀(i:Nat) d,ds[i]?=some d->∃w,ws[i]?=some w/\RD K H d w
 | [],_,_,i,d,q=>by simp at q
 | e::es,_,r,i,d,q=>by
  simp only [RDs] at r;obtain ⟨y,ys,rfl,r1,r2⟩:=r;cases i with
  | zero=>cases q;exact ⟨y,rfl,r1⟩
  | succ i=>exact RDs.atR r2 i d q
theorem jD {K:Frag} {H0 H:Hp} {d:D} {ds:List D} {a:Addr} {ws:List V} (s:Same H0 H) (h0:H0 a=none) (ob:OB K H0 H a d) (r:RDs K H0 ds ws) (k:Nat) :
  RS K H0 (hid [a] H) H0 (.ow d::(ds.map .im++List.replicate k .em)) (some (.ref a)::(ws.map some++List.replicate k none)) H:=by
 have hl:=r.length
 have tail:∀(i:Nat) (s:Sl),(ds.map Sl.im++List.replicate k Sl.em)[i]?=some s->s=.em\/∃e,s=.im e/\ds[i]?=some e:=fun i s q=>by
  by_cases hi:i<ds.length
  . rw [List.getElem?_append_left (by simpa using hi),List.getElem?_map,List.getElem?_eq_getElem hi] at q;exact .inr ⟨ds[i],(Option.some.inj q).symm,List.getElem?_eq_getElem hi⟩
  . rw [List.getElem?_append_right (by simpa using hi)] at q;exact .inl (List.mem_replicate.mp (List.mem_of_getElem? q)).2
 have zero:∀(i:Nat) e,(Sl.ow d::(ds.map Sl.im++List.replicate k Sl.em))[i]?=some (.ow e)->i=0/\d=e:=fun i e q=>by
  cases i with
  | zero=>cases q;exact ⟨rfl,rfl⟩
  | succ i=>rcases tail i _ q with z | ⟨_,z,_⟩<;>cases z
 refine ⟨fun b o h=>?_,⟨Same.refl _,s,fun a ha e=>.inl e⟩,by simp [hl],fun i e q=>?_,fun i e q=>?_,fun i j e e' b qi qj si sj=>?_⟩
 . unfold hid at h;split at h
   . cases h
   . exact h
 . cases i with
   | zero=>cases q
   | succ i=>
    rcases tail i _ q with z | ⟨e',z,q'⟩
    . cases z
    . cases z;obtain ⟨w,hw,rw'⟩:=r.atR i e q';refine ⟨w,?_,rw'⟩;have hi:i<ws.length:=by apply Classical.byContradiction;intro hn;rw [List.getElem?_eq_none (by lia)] at hw;cases hw
      show (ws.map some++List.replicate k none)[i]?=_;rw [List.getElem?_append_left (by simpa using hi),List.getElem?_map,hw];rfl
 . obtain ⟨rfl,rfl⟩:=zero i e q;exact ⟨a,rfl,h0,jG (List.mem_singleton.mpr rfl),ob⟩
 . obtain ⟨rfl,_⟩:=zero i e qi;obtain ⟨rfl,_⟩:=zero j e' qj;rfl
theorem fnU {P:Program} {w:World} {K:Frag} {mg:Str->Option Value} {base:Heap} {x qual:Str} {st:Stmt} {f:Addr} {fd:FuncData} {N ps:List Str} {k n kk:Nat} {g:DS->SR} (F:Fun K x qual st f fd) (S:FnScope N ps (d8 st)) (hps:ps.length=n) (hN:N.length=n+kk)
  (hbody:∀(cdv:Value) (A:Around) (outer:List Env) (s:Shared) (H:Hp) (E:XK),Room k (A.deeper (envOfC qual (d8 st) s.heap.objs.size f cdv)) ->
   QKB (w8 (CX1 P w) P w K mg base N qual (d8 st) f cdv A outer s H E) F0 [0] (x8 st) g):FnOk P w K mg base (CX1 P w) (k+1) f fd ps (spU K (Ng n kk g) n):=by
 refine F.okX S (fun vs H Q E h=>?_) (fun cdv A outer s H vs Q E hr h=>?_)
 . obtain ⟨d,ds,a,ws,H0,rfl,hn,_,_,_,r,_⟩:=h;rw [List.length_cons,<-r.length,hn,hps]
 . refine ⟨_,(hbody cdv A outer s H E hr).h,?_⟩;obtain ⟨d,ds,a,ws,H0,rfl,hn,s0,h0,ob,r,h⟩:=h;have hl:=r.length;have e:C7 N (.ref a::ws)=some (.ref a)::(ws.map some++List.replicate kk none):=by unfold C7;rw [List.length_cons,hN,<-hl,show n+kk - (ds.length+1)=kk by omega];rfl
   rw [e];refine ⟨H0,hid [a] H,H0,Sl.ow d::(ds.map Sl.im++List.replicate kk Sl.em),F0.same _,(jD s0 h0 ob r kk:RS K H0 (hid [a] H) H0 (Sl.ow d::(ds.map Sl.im++List.replicate kk Sl.em)) (some (.ref a)::(ws.map some++List.replicate kk none)) H),?_⟩;unfold Ng at h;simp only at h;rw [ξ hn] at h;cases q:g (Sl.ow d::(ds.map Sl.im++List.replicate kk Sl.em)) with
   | nx ρ=>
    rw [q] at h
    intro σ' H' H0' RR kp
    match ρ,h,RR with
    | .ow d'::r',h,RR=>
     obtain ⟨a',z1,z2,z3,z4⟩:=RR.ow 0 d' rfl
     have:=kp 0 (List.mem_singleton.mpr rfl)
     rw [z1] at this
     cases this
     exact h H' H0' RR.sb RR.ext z2 z4
    | [],h,_=>exact h.elim
    | .im _::_,h,_=>exact h.elim
    | .em::_,h,_=>exact h.elim
   | rt d=>rw [q] at h;exact h.elim
   | er x=>rw [q] at h;exact h.elim
   | bk ρ=>rw [q] at h;exact h.elim
   | ct ρ=>rw [q] at h;exact h.elim
   | st=>rw [q] at h;exact h.elim
def Q1 (i:Nat) (m:List Bool) (mU:List D->R D) (n:Nat) (fs:DE->R (List D)):DS->SR:=fun ρ=>match ρ[i]? with
 | some (.ow _)=>(fs (vis m ρ)).toS fun ds=>match (l7 (g9 ds) m ρ)[i]? with
  | some (.ow d)=>if ds.length+1=n then (match mU (d::ds) with
   | .ok d'=>.nx ((l7 (g9 ds) m ρ).set i (.ow d'))
   | _=>.st) else .st
  | _=>.st
 | _=>.st
section
variable {K:Frag} {EX:XW} {fr:Bool} {De:Ends} {U:St} {H:Hp} {m:List Bool}
theorem RS.hidden (R:RS K Hc Hb H0 ρ U H) (q:ρ[i]?=some (.ow d)) (h1:U[i]?=some (some (.ref a))) (s':Same (hid [a] H) H') (e':Ext H0 (hid [a] H) H0' H') (n':H0' a=none) (ob:OB K H0' H' a d'):RS K Hc Hb H0' (ρ.set i (.ow d')) U H':=by
 obtain ⟨a',z1,z2,z3,z4⟩:=R.ow i d q;rw [h1] at z1;cases z1;have sbh:Same Hb (hid [a] H):=fun b o hb=>by rw [Ro fun hm=>by rw [List.mem_singleton.mp hm,z3] at hb;cases hb];exact R.sb b o hb
 refine ⟨sbh.trans s',⟨R.ext.1.trans e'.1,e'.2.1,fun b hb hc=>e'.nt (sbh.ne hb) (R.ext.2.2 b hb hc)⟩,by simp [R.len],fun j e qj=>?_,fun j e qj=>?_,fun j k e1 e2 b q1 q2 s1 s2=>?_⟩
 . rcases Jn qj with ⟨_,z⟩ | ⟨_,qj⟩
   . cases z
   . obtain ⟨v,v1,v2⟩:=R.im j e qj;exact ⟨v,v1,v2.mono e'.1⟩
 . rcases Jn qj with ⟨e0,z⟩ | ⟨ne,qj⟩
   . subst e0;cases z;exact ⟨a,h1,n',z3,ob⟩
   . obtain ⟨b,b1,b2,b3,b4⟩:=R.ow j e qj;have na:b∉[a]:=fun hm=>ne (R.ap i j _ _ _ q qj h1 (by rw [b1,List.mem_singleton.mp hm]))
     obtain ⟨o,ho,ni⟩:=b4.some;have hh:hid [a] H b=some o:=by rw [Ro na];exact ho
     refine ⟨b,b1,e'.no s' hh ni b2,b3,?_⟩;exact (b4.at (by rw [ho];exact s' b o hh)).mono e'.1 (Same.refl _)
 . have back:∀(j:Nat) e,(ρ.set i (.ow d'))[j]?=some (.ow e)->∃e0,ρ[j]?=some (.ow e0):=fun j e qj=>by
    rcases Jn qj with ⟨e0,_⟩ | ⟨_,qj⟩
    . subst e0;exact ⟨_,q⟩
    . exact ⟨_,qj⟩
   obtain ⟨x1,y1⟩:=back j e1 q1
   obtain ⟨x2,y2⟩:=back k e2 q2
   exact R.ap j k _ _ b y1 y2 s1 s2
theorem y0x (h:TSd K EX fr (Q1 i m mU n fs) De U H) :
  E7 (Ab (spU K mU n) E (G1 (u8 i) (TAd K EX fs))) De U H:=by
 obtain ⟨Hc,Hb,H0,ρ,sb,R,h⟩:=h
 unfold Q1 at h
 split at h
 . rename_i d0 q0;rw [SK.toS] at h;obtain ⟨a,h1,h2,h3,h4⟩:=R.ow i d0 q0;unfold E7 Ab G1 u8;rw [h1];refine ⟨sb.trans R.sb,vis m ρ,HeOf m ρ U H0 H,R.heH m,R.re m,h.mono fun ds h vs H' H0' s e rds=>?_⟩;obtain ⟨H0n,R',rd'⟩:=R.outs s e rds;split at h
   . rename_i d q;split at h
     . rename_i hn;split at h
       . rename_i d' qm;obtain ⟨a',z1,z2,z3,z4⟩:=R'.ow i d q;rw [h1] at z1;cases z1;refine ⟨d,ds,a,vs,H0n,rfl,hn,R'.ext.2.1,z2,z4,rd',?_⟩;rw [qm];exact fun H2 H02 s2 e2 n2 ob=>h U H2 H02 (R'.hidden q h1 s2 e2 n2 ob)
       . exact h.elim
     . exact h.elim
   . exact h.elim
 . exact h.elim
end
section
variable {X:Cx} {EX:XW} {fr:Bool}
theorem y0y (G:i6 X.prog X.w X.K X.mg X.base fn ps kl (spU X.K mU n)) (hr:Room jj X.A) (hg:Gl X fn) (h1:PE X e1 (u8 i)) (h2:QA X EX es fs) (hkj:kl<=jj:=by omega) (hdb:(fn==("__debug__":Str))=false:=by decide)
  (he:starEach (e1::es) X.env=(false,eval e1 X.env)::starEach es X.env:=by rfl) (hpl:(backTo cp (starEach es X.env)).any (·.1)=false:=by rfl)
  (hsw:swapsWith (.Call (.Name fn fp) (e1::es) [] cp) none pos.line X.env=pure false:=by rfl) :
  QS X EX fr (.Expr (.Call (.Name fn fp) (e1::es) [] cp) pos) (Q1 i m mU n fs):=
 ⟨(Am (Ju G (Q9 (X:=X)).on hr hg (P6 h1 h2.h he) hkj hdb he hpl) hsw).imp fun _ _ _ q=>y0x q⟩
end
section
variable {X:Cx} {EX:XW} {is:List Nat} {e:Expr} {pos:Pos} {m:List Bool}
theorem Cl {T id:String} {name:Str} {i:Nat} {x:Str} {xp apos cpos:Pos} {es:List Expr} {fs:DE->R (List D)} {mt:D->List D->Option D} {rr:V->List V->Hp->VK->Prop} (pa:PlainAttrs T) (slot:Slot T name id) (hty:typeOf (.builtin id)=pure (.type "method_descriptor")) (hm:MtM X id rr) (od:I0 X.K mt rr) (hT:TyD X.K T)
  (ho:PE X (.Name x xp) (u8 i)) (ha:QA X EX (e::es) fs)
  (hbase:attributeBase (.Name x xp) name X.env (eval (.Name x xp) X.env)=eval (.Name x xp) X.env:=by rfl)
  (hfew:((backTo cpos (starEach (e::es) X.env)).all (fun x=>!x.1)&&(backToKw cpos (keywordEach [] X.env)).all (fun x=>x.1.isSome)
   && decide ((e::es).length+([]:List Keyword).length+(if ([]:List Keyword).isEmpty then 0 else 1)<30))=true:=by rfl)
  (hline:(apos.endLine==cpos.line)=true:=by rfl) (hs:starEach (e::es) X.env=(false,eval e X.env)::starEach es X.env:=by rfl) (hplain:(backTo cpos (starEach es X.env)).any (·.1)=false:=by rfl)
  (hsw:swapsWith (.Call (.Attribute (.Name x xp) name apos) (e::es) [] cpos) none pos.line X.env=pure false:=by rfl) :
  QK X EX is (.Expr (.Call (.Attribute (.Name x xp) name apos) (e::es) [] cpos) pos) (u9 T mt i m fs):=⟨(Am (Ow pa slot hty hm ho ha.h hbase hfew hline hs hplain) hsw).imp fun De U H q=>by
 have q:=Oh od hT q
 unfold E7 Gd Kp at q
 unfold E7
 simp only [implies_true,true_implies] at q
 exact q⟩
end
def O0 (j i:Nat) (m:List Bool) (fe:DE->R D):DS->SR:=fun ρ=>match ρ[i]? with
 | some (.ow (.lst ds))=>(fe (vis m ρ)).toS fun k=>match k with
  | .int n=>(match atI ds n with
   | some d=>.nx (ρ.set j (.im d))
   | none=>.st)
  | _=>.st
 | _=>.st
theorem y0z {K:Frag} {EX:XW} {fr:Bool} {De:Ends} {U:St} {H:Hp} {i j:Nat} {m:List Bool} {fe:DE->R D} {Q:VK} (h:TSd K EX fr (O0 j i m fe) De U H) (hQ:∀v H',De.nx (U.set j (some v)) H'->Q v H'):tOp (Fo K) (u8 i) (TEd K EX false fe) U H Q:=by
 obtain ⟨Hc,Hb,H0,ρ,sb,R,h⟩:=h;unfold O0 at h;split at h
 . rename_i ds q;rw [SK.toS] at h;obtain ⟨a,h1,h2,h3,ob⟩:=R.ow i _ q;obtain ⟨xs,ha,rs⟩:∃xs,H a=some (.lst xs)/\RDs K H0 ds xs:=ob;unfold tOp u8;rw [h1];refine ⟨sb.trans R.sb,vis m ρ,HeOf m ρ U H0 H,R.heH m,R.re m,h.mono fun k z y H1 o=>?_⟩;obtain ⟨s1,H0',e1,r1⟩:=o.rd;split at z
   . rename_i n;cases r1.int;split at z
     . rename_i d hd;unfold atI at hd;obtain ⟨p,hp,hd⟩:=Option.bind_eq_some_iff.mp hd;obtain ⟨v,hv,rv⟩:=RDs.atR rs p d hd;have z2:=z _ H1 H0 ((R.grow s1).putI rv j);exact ⟨a,xs,n,v,rfl,rfl,.of (s1 _ _ ha),by unfold atI;rw [<-rs.length,hp];exact hv,hQ v H1 z2⟩
     . exact z.elim
   . exact z.elim
 . exact h.elim
section
variable {X:Cx} {EX:XW} {is:List Nat} {pos:Pos} {m:List Bool} {fe:DE->R D}
theorem y10 (hni:j∉is) (hN:X.N.Nodup) (hi:X.N[j]?=some v) (hx:Loc X.env.scope v) (ho:PE X (.Name x xp) (u8 i)) (hb:QE X EX false b fe) (hs:Du b:=by exact fun _ _=>rfl)
  (hsw:swapsWith (.Subscript (.Name x xp) b sp) (some (.Name v p')) pos.line X.env=pure false:=by rfl) (hf:X.fn v=true\/X.env.scope.names.lookup v=some .local:=by first | exact .inl rfl | exact .inr rfl | assumption) :
  QK X EX is (.Assign [.Name v p'] (.Subscript (.Name x xp) b sp) pos) (O0 j i m fe):=⟨(Jc hN hi hx (Ox ix_list ho hb.h hs) hsw hf).imp fun De U H q=>by
 show tOp _ _ _ U H _
 exact y0z q fun w H' n=>n (Kp.set hni)⟩
theorem jC {T id:String} {name:Str} {i:Nat} {x:Str} {xp apos cpos pos:Pos} {mt:D->List D->Option D} {rr:V->List V->Hp->VK->Prop} (pa:PlainAttrs T) (slot:Slot T name id) (hty:typeOf (.builtin id)=pure (.type "method_descriptor")) (hm:MtM X id rr) (od:I0 X.K mt rr) (hT:TyD X.K T)
  (ho:PE X (.Name x xp) (u8 i)) (hbase:attributeBase (.Name x xp) name X.env (eval (.Name x xp) X.env)=eval (.Name x xp) X.env:=by rfl) (hline:(apos.endLine==cpos.line)=true:=by rfl)
  (hsw:swapsWith (.Call (.Attribute (.Name x xp) name apos) [] [] cpos) none pos.line X.env=pure false:=by rfl) :
  QK X EX is (.Expr (.Call (.Attribute (.Name x xp) name apos) [] [] cpos) pos) (Z3 T mt i):=
 ⟨(Am (kN pa slot hty hm ho hbase hline) hsw).imp fun De U H q=>by
 have q:=ko od hT q
 unfold E7 Gd Kp at q
 simp only [implies_true,true_implies] at q
 exact q⟩
end
def eKK:D->D->Option Bool
 | .dk [] [],.dk [] []=>some true
 | d,e=>if d.pl=true/\e.pl=true/\d.dep<=19 then some (eqD d e) else none
def eKs:List D->List D->Option Bool
 | [],[]=>some true
 | d::ds,e::es=>(eKK d e).bind fun a=>(eKs ds es).map fun b=>a&&b
 | _,_=>none
def C2:D->D->Option D
 | .lst ds,.lst es=>if ds.length=es.length then (eKs ds es).map fun b=>.bl (!b) else some (.bl true)
 | _,_=>none
def Xs (K:Frag):R2:=fun x y H Q=>∃a b xs ys ds es r,x=.ref a/\y=.ref b/\H a=some (.lst xs)/\H b=some (.lst ys)/\RDs K H ds xs/\RDs K H es ys/\(eKs ds es=some r\/(ds.length≠es.length/\r=false))/\Q (.bl (!r)) H
theorem Hm {K:Frag}:OpD K false C2 (Xs K):=by
 intro H0 H x y d e z Q s rx ry ho k;unfold C2 at ho;split at ho
 . rename_i ds es;simp only [RD] at rx ry;obtain ⟨a,xs,rfl,h1,h2⟩:=rx;obtain ⟨b,ys,rfl,h3,h4⟩:=ry;split at ho
   . obtain ⟨r,hr,rfl⟩:=Option.map_eq_some_iff.mp ho;exact ⟨a,b,xs,ys,ds,es,r,rfl,rfl,s _ _ h1,s _ _ h3,h2.mono s,h4.mono s,.inl hr,k _ H (.pure s (.mkBl _))⟩
   . rename_i hne;cases ho;exact ⟨a,b,xs,ys,ds,es,false,rfl,rfl,s _ _ h1,s _ _ h3,h2.mono s,h4.mono s,.inr ⟨hne,rfl⟩,k _ H (.pure s (.mkBl _))⟩
 . cases ho
theorem Rn:∀{ds es:List D} {r:Bool},eKs ds es=some r->ds.length=es.length/\(∀j,j<ds.length->∃b,eKK (ds.getD j .non) (es.getD j .non)=some b)/\r=(List.range ds.length).all fun j=>(eKK (ds.getD j .non) (es.getD j .non)).getD false
 | [],[],r,h=>by cases h;exact ⟨rfl,fun j hj=>absurd hj (Nat.not_lt_zero _),rfl⟩
 | d::ds,e::es,r,h=>by
  unfold eKs at h;obtain ⟨a,ha,h⟩:=Option.bind_eq_some_iff.mp h;obtain ⟨b,hb,rfl⟩:=Option.map_eq_some_iff.mp h;obtain ⟨h1,h2,h3⟩:=Rn hb;refine ⟨by simp [h1],fun j hj=>?_,?_⟩
  . cases j with
    | zero=>exact ⟨a,ha⟩
    | succ j=>exact h2 j (by simpa using hj)
  . rw [List.length_cons,List.range_succ_eq_map,List.all_cons,List.all_map,h3];simp only [List.getD_cons_zero,ha,Option.getD_some];rfl
 | [],_::_,_,h=>by cases h
 | _::_,[],_,h=>by cases h
theorem Ut {P:Program} {w:World} {h:Heap} {a:Addr} {K:Type} [DecidableEq K] {knd:KeyKind P w K} (x:h.DictOf knd a []) (P':Program) (w':World):h.DictOf (E0 P' w') a []:=by
 obtain ⟨o,es,ep,ho,h1,h2,h3,h4,h5⟩:=x;have hs:es=#[]:=by have:=h4.length;simpa using this
 subst hs;exact ⟨o,#[],ep,ho,h1,h2,(fun e he=>by simp at he),.nil,List.nodup_nil⟩
section
variable {X:Cx}
theorem qQ {H:Hp} {s:Shared} {A:Around} {a b:Addr} {P:Program} {w:World} {H':Hp} (hu:A.units<cLine) (h1:ObjOk P w H s.heap a (.dK [])) (h2:ObjOk P w H s.heap b (.dK [])):SeqAt.EqAt A s (.ref a) (.ref b) true:=by
 obtain ⟨_,na,va,ka,da⟩:=h1;obtain ⟨_,nb,vb,kb,db⟩:=h2;have ea:va=[]:=by cases ka;rfl
 have eb:vb=[]:=by cases kb;rfl
 subst ea eb;by_cases hab:a=b
 . subst hab;exact .same _
 . refine .of_refs hab fun prog w' E Q hq=>?_
   exact PySem.W.keq_eq na nb (Ut da prog w') (Ut db prog w') hu (fun _=>.nil) hq
theorem Gb (hu:X.A.units+64<cLine):OpR X (compareOp .NotEq) (Xs X.K):=by
 intro pins s U H x y v u Q I rx ry h;obtain ⟨a,b,xs,ys,ds,es,r,rfl,rfl,ha,hb,rs,rt,hr,q⟩:=h;cases rx;cases ry;obtain ⟨its,rv,pl,_⟩:=I.list (.of ha);obtain ⟨its2,rv2,pl2,_⟩:=I.list (.of hb);have l1:=rs.length;have l2:=rt.length;have l3:=rv.length;have l4:=rv2.length;rcases hr with hr | ⟨hne,rfl⟩
 case inr=>
  exact SeqAt.RcNeAt.lists_lengths (A:=X.A) (s:=s) pl.isList pl2.isList (by simp;omega) (by omega) X.prog X.w X.xe _ ⟨.bl _,H,I,rfl,q⟩
 obtain ⟨hl,hj,he⟩:=Rn hr;have at':=SeqAt.RcNeAt.lists (A:=X.A) (s:=s) (e:=fun j=>(eKK (ds.getD j .non) (es.getD j .non)).getD false) pl.isList pl2.isList (by simp;omega) (by omega) (fun j h1 h2=>by
  have h1':j<its.length:=by simpa using h1
  have h2':j<its2.length:=by simpa using h2
  obtain ⟨u1,e1,q1⟩:=rv.get (i:=j) (x:=xs[j]'(by omega)) (by simp);obtain ⟨u2,e2,q2⟩:=rv2.get (i:=j) (x:=ys[j]'(by omega)) (by simp);obtain ⟨d1,g1,w1⟩:=rs.get (i:=j) (x:=xs[j]'(by omega)) (by simp);obtain ⟨d2,g2,w2⟩:=rt.get (i:=j) (x:=ys[j]'(by omega)) (by simp);have ea:its.toArray[j]=u1:=by rw [List.getElem?_eq_getElem h1'] at e1;simpa using e1
  have eb:its2.toArray[j]=u2:=by rw [List.getElem?_eq_getElem h2'] at e2;simpa using e2
  have ga:ds.getD j .non=d1:=by rw [List.getD_eq_getElem?_getD,g1];rfl
  have gb:es.getD j .non=d2:=by rw [List.getD_eq_getElem?_getD,g2];rfl
  obtain ⟨c,hc⟩:=hj j (by omega);rw [ea,eb,ga,gb] at *;rw [hc,Option.getD_some];unfold eKK at hc;split at hc
  . cases hc;simp only [RD] at w1 w2;obtain ⟨p,zs,z1,z2,z3,z4⟩:=w1;obtain ⟨p',zs',y1,y2,y3,y4⟩:=w2;rw [z1] at q1;rw [y1] at q2;cases q1;cases q2;exact qQ (H':=H) (show X.A.in1.units<cLine by show X.A.units+1<cLine;omega) (I.hok p _ (by simpa using z2)) (I.hok p' _ (by simpa using y2))
  . split at hc
    . rename_i hp;cases hc;exact Ac I 19 hp.1 hp.2.1 hp.2.2 (by show X.A.units+1+19<cLine;omega) w1 w2 q1 q2
    . cases hc)
 refine at' X.prog X.w X.xe _ ⟨.bl _,H,I,rfl,?_⟩;rw [show its.toArray.size=ds.length by simp;omega,<-he];exact q
end
section
variable {prog:Program} {w:World} {A:Around} {E:Value->Shared->Prop} {s:Shared} {l:Addr} {xs:Array (Int×Tok)}
theorem yK (hh:A.handled=none) (hl:s.heap.IsTuple l (intItems xs)) (hne:0<xs.size)
  (h:∀v h' tk,(intItems xs)[argBest (fun i j=>decide (numAt xs i > numAt xs j)) (xs.size - 1)]?=some v->(∀b o,s.heap.get? b=some o->h'.get? b=some o)->Q v { s with heap:=h',toks:=tk }) :
  wpAny (model prog w) A (call (.builtin "max") [.ref l]) Q E s:=by
 obtain ⟨o,ho,_⟩:=id hl
 refine call_max_walk (wpAny_pyIter_tuple hl ?_)
 refine ⟨_,[_,l],[_],_,_,_,_,rfl,Walks.tuple (A:=A.in1) hh _ l (Nat.ne_of_lt (π ho)) (intItems xs),
  ⟨⟨_,Ψ _ rfl,rfl,rfl⟩,hl.push _⟩,fun c hc=>?_,by simpa [intItems] using hne,CmpOf.ints_gt (numAt xs) (fun _ _=>intItems_at),fun v h' tk hP hk=>?_⟩
 . show c<(s.heap.push _).objs.size;rw [Heap.size_push];rcases List.mem_cons.mp hc with rfl | hc
   . exact Nat.lt_succ_self _
   . rw [List.mem_singleton.mp hc];exact Nat.lt_succ_of_lt (π ho)
 . exact h v h' tk (by simpa [intItems] using hP) (fun b o e=>hk b o (fun hm=>by rcases List.mem_cons.mp hm with e1 | hm;exact absurd (e1 ▸ π e) (χ _);cases hm) (τ _ e))
theorem yJ (hh:A.handled=none) (hl:s.heap.IsTuple l (intItems xs)) (hne:0<xs.size)
  (h:∀v h' tk,(intItems xs)[argBest (fun i j=>decide (numAt xs i<numAt xs j)) (xs.size - 1)]?=some v->(∀b o,s.heap.get? b=some o->h'.get? b=some o)->Q v { s with heap:=h',toks:=tk }) :
  wpAny (model prog w) A (call (.builtin "min") [.ref l]) Q E s:=by
 obtain ⟨o,ho,_⟩:=id hl
 refine call_min_walk (wpAny_pyIter_tuple hl ?_)
 refine ⟨_,[_,l],[_],_,_,_,_,rfl,Walks.tuple (A:=A.in1) hh _ l (Nat.ne_of_lt (π ho)) (intItems xs),
  ⟨⟨_,Ψ _ rfl,rfl,rfl⟩,hl.push _⟩,fun c hc=>?_,by simpa [intItems] using hne,CmpOf.ints_lt (numAt xs) (fun _ _=>intItems_at),fun v h' tk hP hk=>?_⟩
 . show c<(s.heap.push _).objs.size;rw [Heap.size_push];rcases List.mem_cons.mp hc with rfl | hc
   . exact Nat.lt_succ_self _
   . rw [List.mem_singleton.mp hc];exact Nat.lt_succ_of_lt (π ho)
 . exact h v h' tk (by simpa [intItems] using hP) (fun b o e=>hk b o (fun hm=>by rcases List.mem_cons.mp hm with e1 | hm;exact absurd (e1 ▸ π e) (χ _);cases hm) (τ _ e))
variable {h₀:Heap} {L:Addr} {m:Str->Option Value} {news:List (Addr×Obj)}
theorem xV (hh:A.handled=none) (F:Fr h₀ L s.heap m) (N:News h₀ L s.heap news)
  (hl:s.heap.IsTuple l vs.toArray) (hi:IntsAre vs ns) (hne:0<ns.length)
  (h:∀h' M (t:Tok) tk,Fr h₀ L h' m->News h₀ L h' news->M∈ns->(∀a,a∈ns->M<=a)->Q (.int M t) { s with heap:=h',toks:=tk }) :
  wpAny (model prog w) A (call (.builtin "min") [.ref l]) Q E s:=by
 obtain ⟨xs,e⟩:=hi.allInts.items
 have hns:ns=xs.toList.map (·.1):=by rw [<-hi.numsOf,<-nums_intItems,<-e]
 have hsz:0<xs.size:=by have h3:=hne;rw [hns,List.length_map,Array.length_toList] at h3;exact h3
 rw [e] at hl
 refine yJ hh hl hsz fun v h' tk hv hk=>?_
 obtain ⟨t,rfl⟩:=intItems_at hv
 obtain ⟨h1,h2⟩:=argBest_lt (numAt xs) (xs.size - 1)
 refine h _ _ t tk (F.grownK hk) (N.grown hk) ?_ fun a ha=>?_
 . rw [hns,numAt_eq];exact G5 (by rw [List.length_map,Array.length_toList];omega)
 . rw [hns] at ha;obtain ⟨j,hj,rfl⟩:=mem_getD ha;rw [List.length_map,Array.length_toList] at hj;rw [<-numAt_eq];exact h2 j (by omega)
theorem xU (hh:A.handled=none) (F:Fr h₀ L s.heap m) (N:News h₀ L s.heap news)
  (hl:s.heap.IsTuple l vs.toArray) (hi:IntsAre vs ns) (hne:0<ns.length)
  (h:∀h' M (t:Tok) tk,Fr h₀ L h' m->News h₀ L h' news->M∈ns->(∀a,a∈ns->a<=M)->Q (.int M t) { s with heap:=h',toks:=tk }) :
  wpAny (model prog w) A (call (.builtin "max") [.ref l]) Q E s:=by
 obtain ⟨xs,e⟩:=hi.allInts.items
 have hns:ns=xs.toList.map (·.1):=by rw [<-hi.numsOf,<-nums_intItems,<-e]
 have hsz:0<xs.size:=by have h3:=hne;rw [hns,List.length_map,Array.length_toList] at h3;exact h3
 rw [e] at hl
 refine yK hh hl hsz fun v h' tk hv hk=>?_
 obtain ⟨t,rfl⟩:=intItems_at hv
 obtain ⟨h1,h2⟩:=argBest_gt (numAt xs) (xs.size - 1)
 refine h _ _ t tk (F.grownK hk) (N.grown hk) ?_ fun a ha=>?_
 . rw [hns,numAt_eq];exact G5 (by rw [List.length_map,Array.length_toList];omega)
 . rw [hns] at ha;obtain ⟨j,hj,rfl⟩:=mem_getD ha;rw [List.length_map,Array.length_toList] at hj;rw [<-numAt_eq];exact h2 j (by omega)
end
def O6:List D->Option D
 | [.tup ds]=>match v9 ds with
  | some (n::ns)=>some (.int (o6 n ns))
  | _=>none
 | _=>none
def R8:List D->Option D
 | [.tup ds]=>match v9 ds with
  | some (n::ns)=>some (.int (p8 n ns))
  | _=>none
 | _=>none
def Nu:List V->Hp->VK->Prop:=fun xs H Q=>∃p n ns,xs=[.ref p]/\H p=some (.tup ((n::ns).map V.int))/\Q (.int (o6 n ns)) H
def Nt:List V->Hp->VK->Prop:=fun xs H Q=>∃p n ns,xs=[.ref p]/\H p=some (.tup ((n::ns).map V.int))/\Q (.int (p8 n ns)) H
section
variable {X:Cx} {K:Frag}
theorem Hl (hc:X.calm=true):CallR X (.builtin "max") Nu:=by
 intro pins s U H xs us Q I r h;obtain ⟨p,n,ns,rfl,hp,q⟩:=h;obtain ⟨u,rfl,ru⟩:=x4 r;cases ru;obtain ⟨its,rv,pl⟩:=I.tupA hp;obtain ⟨m,hn,_⟩:=id I.loc;refine xU (I.ok.hd hc) (Att.fr_all hn) (V3 (g:=Att.noObjs s.heap) (L:=X.env.locals)) pl (Ei rv) (by simp) fun h' M t tk F N hM hle=>?_
 obtain ⟨a1,a2⟩:=U7 ns n;have e:M=o6 n ns:=Int.le_antisymm (a2 M hM) (hle _ a1);exact ⟨.int M,H,I.frn hn F N,⟨t,rfl⟩,by rw [e];exact q⟩
theorem Pw (hc:X.calm=true):CallR X (.builtin "min") Nt:=by
 intro pins s U H xs us Q I r h;obtain ⟨p,n,ns,rfl,hp,q⟩:=h;obtain ⟨u,rfl,ru⟩:=x4 r;cases ru;obtain ⟨its,rv,pl⟩:=I.tupA hp;obtain ⟨m,hn,_⟩:=id I.loc;refine xV (I.ok.hd hc) (Att.fr_all hn) (V3 (g:=Att.noObjs s.heap) (L:=X.env.locals)) pl (Ei rv) (by simp) fun h' M t tk F N hM hle=>?_
 obtain ⟨a1,a2⟩:=Sc ns n;have e:M=p8 n ns:=Int.le_antisymm (hle _ a1) (a2 M hM);exact ⟨.int M,H,I.frn hn F N,⟨t,rfl⟩,by rw [e];exact q⟩
theorem Jm:x3 K false O6 Nu:=by
 intro H0 H xs ds z Q s r ho k;unfold O6 at ho;split at ho<;>first | cases ho | skip
 split at ho<;>cases ho;rename_i es n ns hq;obtain ⟨x,rfl,q1⟩:=r.uno;obtain ⟨a,ys,rfl,ha,ra⟩:=q1.tup;have e:=V6 hq ra;subst e;exact ⟨a,n,ns,rfl,s _ _ ha,k _ H (.pure s (.mkInt _))⟩
theorem Rl:x3 K false R8 Nt:=by
 intro H0 H xs ds z Q s r ho k;unfold R8 at ho;split at ho<;>first | cases ho | skip
 split at ho<;>cases ho;rename_i es n ns hq;obtain ⟨x,rfl,q1⟩:=r.uno;obtain ⟨a,ys,rfl,ha,ra⟩:=q1.tup;have e:=V6 hq ra;subst e;exact ⟨a,n,ns,rfl,s _ _ ha,k _ H (.pure s (.mkInt _))⟩
end
section
variable {X:Cx} {pins:List (Addr×Obj)} {U:List (Option V)} {H1 H2:Hp} {s1 s2:Shared} {h' B:Heap} {Z:List Addr} {C a:Addr} {a0:Value} {od:Option Addr}
theorem zi (I:Inv X pins U H1 s1) (hst:X.stack=X.env::X.outer) (hex:X.ex=[]) (hos:s2.os=s1.os) (hbare:AllBare s2.gens) (un:Un (frs X.stack) [] H1 H2 s1.heap s2.heap) (hok:HOk X.prog X.w H2 s2.heap)
  (hZ:∀b∈Z,X.s₀.heap.get? b=none/\H2 b=none) (ha:s1.heap.get? a=none) (hHa:H2 a=none) (keep:∀b o,s2.heap.get? b=some o->b∉Z->b∉frs X.stack->h'.get? b=some o)
  (slotF:∀b∈frs X.stack,∀o,s2.heap.get? b=some o->∃sl,h'.get? b=some { o with slots:=sl }) (hB:∀b,B.get? b=none->b∈frs X.stack\/(X.s₀.heap.get? b=none/\H2 b=none)) (hfl:Heap.FlyingW B X.outer a (.ref C) a0 h') (hdc:n6 a od h') (hnd:∀dx,od=some dx->s1.heap.get? dx=none) :
  XOut X.prog X.w X.outer X.H₀ X.s₀ C a od H2 { s2 with heap:=h' }:=by
 have base:Un X.fs [] X.H₀ H1 X.s₀.heap s1.heap:=hex ▸ I.base
 have F2:=I.stack2 un
 have sub:∀b∈frs X.outer,b∈frs X.stack:=fun b hb=>by
  rw [hst];unfold frs;cases q:X.env.frame with
  | none=>rw [List.filterMap_cons,q];exact hb
  | some L=>rw [List.filterMap_cons,q];exact List.mem_cons_of_mem _ hb
 have neL:∀b o,X.s₀.heap.get? b=some o->b≠X.env.locals:=fun b o e=>Nat.ne_of_lt (Nat.lt_of_lt_of_le (π e) I.ok.above)
 have nost:∀b o,X.s₀.heap.get? b=some o->b∉frs X.outer->b∉frs X.stack:=fun b o e hb z=>(List.mem_cons.mp (I.stkSub b z)).elim (neL b o e) hb
 have fresh0:∀b,s1.heap.get? b=none->X.s₀.heap.get? b=none:=fun b e=>by
  cases q:X.s₀.heap.get? b with
  | none=>rfl
  | some o=>
   obtain ⟨o',z⟩:=base.there b o q (by simp)
   rw [e] at z;cases z
 have noZ:∀b o,X.s₀.heap.get? b=some o->b∉Z:=fun b o e hb=>by rw [(hZ b hb).1] at e;cases e
 have frFree:∀b∈frs X.stack,H2 b=none:=fun b hb=>by obtain ⟨_,o,ho,_⟩:=I.stack.mem hb;exact un.free b o ho (I.stkFree b hb) (by simp)
 refine ⟨by show s2.os=_;rw [hos,I.os],hbare,⟨fun b o e n hb _=>?_,fun b o e n hb _=>?_,fun b o e n _=>?_,fun b o e _=>?_,fun b xs e=>un.tups b xs (base.tups b xs e),fun b o u e=>un.frzs b o u (base.frzs b o u e),fun b ps e=>?_⟩,fun b o e=>?_,?_⟩
 . exact keep b o (un.keep b o (base.keep b o e n hb (by simp)) (base.free b o e n (by simp)) (nost b o e hb) (by simp)) (noZ b o e) (nost b o e hb)
 . obtain ⟨sl,e1⟩:=base.slot b o e n hb (by simp);obtain ⟨sl2,e2⟩:=un.slot b _ e1 (base.free b o e n (by simp)) (sub b hb) (by simp);obtain ⟨sl3,e3⟩:=slotF b (sub b hb) _ e2;exact ⟨sl3,e3⟩
 . obtain ⟨o1,e1⟩:=base.there b o e (by simp);exact un.free b o1 e1 (base.free b o e n (by simp)) (by simp)
 . obtain ⟨o1,e1⟩:=base.there b o e (by simp);obtain ⟨o2,e2⟩:=un.there b o1 e1 (by simp);by_cases hb:b∈frs X.stack
   . obtain ⟨sl,e3⟩:=slotF b hb _ e2;exact ⟨_,e3⟩
   . exact ⟨o2,keep b o2 e2 (noZ b o e) hb⟩
 . obtain ⟨m1,e1⟩:=base.tbls b ps e;obtain ⟨m2,e2⟩:=un.tbls b _ e1;exact ⟨m1++m2,by rw [e2,Array.append_assoc]⟩
 . refine (hok b o e).stay (fun c v hc q=>keep c v q (fun hz=>?_) fun hf=>?_) (fun _ q=>q) fun _ _ q=>q
   . have:=(hZ c hz).2;rcases hc with rfl | hc
     . rw [e] at this;cases this
     . rw [hc] at this;cases this
   . have:=frFree c hf;rcases hc with rfl | hc
     . rw [e] at this;cases this
     . rw [hc] at this;cases this
 . obtain ⟨_,_,_,oe,vs,T,oT,ts,he,⟨hc,h0⟩,hd,h1,hnT,hTe,hT,hdT,h3⟩:=hfl;have hTn:X.s₀.heap.get? T=none/\H2 T=none:=by
    rcases hB T hnT with z | z
    . obtain ⟨_,o',ho',hd'⟩:=F2.mem z;obtain ⟨sl,e3⟩:=slotF T z o' ho';rw [hT] at e3;cases e3;exact absurd hdT (hd' ts)
    . exact z
   exact ⟨oe,vs,T,oT,ts,a0,he,hc,h0,hd,h1,hTe,hT,hdT,h3,fresh0 a ha,hTn.1,hHa,hTn.2,hdc _ he,fun dx e=>fresh0 dx (hnd dx e)⟩
end
section
variable {M:Model} {A:Around} {E:Value->Shared->Prop} {s:Shared} {base:Heap} {l:List Env} {e L:Addr} {cls a0:Value} {od:Option Addr}
theorem xT (R:Heap.HeldW base l e cls a0 L s.heap) (hf:env.frame=some L) (h:Q () s):wpAny M A (noteFrame (.ref e) env) Q E s:=by obtain ⟨hkb,hen,hl,oe,vs,T,oT,ts,he,hcls,hd,h1,hnT,hTe,hT,hdT,h3⟩:=R;unfold noteFrame;simp only [hf];refine δ (wpAny_field he hd h1 ?_);rw [ξ (Dn T)];refine δ (wpAny_field hT hdT h3 ?_);rw [ξ (by simp)];exact ω h
theorem zh (R:Heap.HeldW base l e cls a0 L s.heap) (d:n6 e od s.heap)
  (h:∀h',Heap.HeldW base l e cls a0 L h'->s.heap.UpToSlots h'->n6 e od h'->(∀b,base.get? b≠none->h'.get? b=s.heap.get? b)->Q () { s with heap:=h' }):wpAny M A (setFlight (.ref e) (some L)) Q E s:=by
 obtain ⟨hkb,hen,hl,oe,vs,T,oT,ts,he,hcls,hd,h1,hnT,hTe,hT,hdT,h3⟩:=R
 have hsz3:3<ts.size:=(Array.getElem?_eq_some_iff.mp h3).1
 have other:∀b,b≠T->(s.heap.update T (Obj.mapFields (·.setIfInBounds 3 ((some L).elim Value.none fun f=>rawInt f)))).get? b=s.heap.get? b:=
  fun b hb=>Heap.get?_update_other _ _ (Ne.symm hb)
 have noRecord:∀b o,s.heap.get? b=some o->(∀vs,o.data≠.fields vs)->b≠T:=fun b o hb hnf q=>by rw [q,hT] at hb;injection hb with hb;subst hb;exact hnf ts hdT
 unfold setFlight
 refine δ (wpAny_field he hd h1 ?_)
 rw [ξ (Dn T)]
 refine wpAny_setField hT hdT hsz3 (h _ ⟨fun b o hbo=>(other b fun q=>by rw [q,hnT] at hbo;cases hbo).trans (hkb b o hbo),hen,
  hl.of_keeps fun b o hb hnf=>⟨o,(other b (noRecord b o hb hnf)).trans hb,rfl⟩,?_⟩ (fun b o hb hnf=>⟨o.slots,(other b (noRecord b o hb hnf)).trans hb⟩) (fun o ho=>d o ((other e (Ne.symm hTe)).symm.trans ho)) fun b hb=>other b fun q=>hb (by rw [q];exact hnT))
 exact ⟨oe,vs,T,_,_,(other e (Ne.symm hTe)).trans he,hcls,hd,h1,hnT,hTe,Heap.get?_update_self _ hT (Obj.isFreed_of_fields (Obj.data_mapFields hdT _)),Obj.data_mapFields hdT _,by simp [hsz3]⟩
theorem wH (R:Heap.HeldW base l e cls a0 L h) (hn:base.get? Cc=none) (hc:∃m,h.Ns Cc m) (hl:Cc∉frs l) (sb:Heap.SameBut Cc h h'):Heap.HeldW base l e cls a0 L h':=by
 obtain ⟨hkb,hen,hfr,oe,vs,T,oT,ts,he,hcls,hd,h1,hnT,hTe,hT,hdT,h3⟩:=R;obtain ⟨m,oc,es,ep,hoc,hdc,_⟩:=hc;have ne:∀{b o vs},h.get? b=some o->o.data=.fields vs->b≠Cc:=fun {b o vs} q1 q2 z=>by rw [z,hoc] at q1;cases q1;rw [hdc] at q2;cases q2
 refine ⟨fun b o q=>(sb.2 b fun z=>by rw [z,hn] at q;cases q).trans (hkb b o q),hen,?_,oe,vs,T,oT,ts,(sb.2 e (ne he hd)).trans he,hcls,hd,h1,hnT,hTe,(sb.2 T (ne hT hdT)).trans hT,hdT,h3⟩;have all:∀k:List Env,(∀b∈frs k,b∈frs l)->h.FunFrames base k->h'.FunFrames base k:=by
  intro k;induction k with
  | nil=>intro _ _;trivial
  | cons env r ih=>
   rintro hs ⟨k1,⟨L',o,k2,k3,k4,k5⟩,k6⟩
   have m1:L'∈frs l:=hs L' (by unfold frs;rw [List.filterMap_cons,k2];exact List.mem_cons_self)
   exact ⟨k1,⟨L',o,k2,k3,(sb.2 L' fun z=>hl (z ▸ m1)).trans k4,k5⟩,ih (fun b hb=>hs b (by unfold frs;rw [List.filterMap_cons,k2];exact List.mem_cons_of_mem _ hb)) k6⟩
 exact all l (fun _ hb=>hb) hfr
end
section
variable {X:Cx} {pins:List (Addr×Obj)} {U:List (Option V)} {H1 H2:Hp} {s1 s2:Shared} {C a Cc:Addr} {od:Option Addr}
theorem qP (I:Inv X pins U H1 s1) (hst:X.stack=X.env::X.outer) (hex:X.ex=[]) (hf:X.env.frame=some X.env.locals) (x:XOut X.prog X.w X.stack H1 s1 C a od H2 s2)
  (c0:X.s₀.heap.get? Cc=none) (cn:H1 Cc=none) (cm:∃m,s1.heap.Ns Cc m) (cf:Cc∉frs X.stack) {E E':Value->Shared->Prop} {Q:Shared->Prop} {RE:Shared->Prop}
  (h:∀s',XOut X.prog X.w X.outer X.H₀ X.s₀ C a od H2 s'->Q s')
  (hR:∀s':Shared,(∃m,s'.heap.Ns Cc m)->(∀h',Heap.SameBut Cc s'.heap h'->∀cenv:Env,cenv.frame=X.env.frame->wpAny (model X.prog X.w) X.A (PySem.passOn "comprehension.variables-let-go" (.ref a) cenv:Sem Value) (fun _ _=>False) (fun ev s''=>ev=.ref a/\wpAny (model X.prog X.w) X.A (leaving X.env ev) (fun _ s3=>Q s3) E' s'') { s' with heap:=h' })->RE s') :
  wpAny (model X.prog X.w) X.A (noteFrame (.ref a) X.env) (fun _ s'=>RE s') E s2:=by
 obtain ⟨oe,vs,T,oT,ts,a0,he,hc,h0,hd,h1,hTe,hT,hdT,h3,na,nT,ha,hHT,hod,hnd⟩:=id x.fly
 have base:Un X.fs [] X.H₀ H1 X.s₀.heap s1.heap:=hex ▸ I.base
 have fresh0:∀b,s1.heap.get? b=none->X.s₀.heap.get? b=none:=fun b e=>by
  cases q:X.s₀.heap.get? b with
  | none=>rfl
  | some o=>
   obtain ⟨o',z⟩:=base.there b o q (by simp)
   rw [e] at z;cases z
 have F2:=I.stack2 x.un
 obtain ⟨m,oc,es,ep,hoc,hdc,hns⟩:=cm
 have hoc2:s2.heap.get? Cc=some oc:=x.un.keep Cc oc hoc cn cf (by simp)
 have hC2:H2 Cc=none:=x.un.free Cc oc hoc cn (by simp)
 have hin:∀env∈X.stack,∀b,env.frame=some b->b∈a::T::Cc::frs X.stack:=fun env he b hb=>List.mem_cons_of_mem _ (List.mem_cons_of_mem _ (List.mem_cons_of_mem _ (List.mem_filterMap.mpr ⟨env,he,hb⟩)))
 have hfr:X.A.frames=some (X.env::X.outer):=by rw [<-hst];exact I.ok.frames
 have hfl:Heap.FlyingW (hideAll s2.heap (a::T::Cc::frs X.stack)) (X.env::X.outer) a (.ref C) a0 s2.heap:=⟨fun b o q=>of_hideAll _ q,hideAll_none _ (.head _),hst ▸ funFrames_hide F2 hin,oe,vs,T,oT,ts,he,⟨hc,h0⟩,hd,h1,hideAll_none _ (.tail _ (.head _)),hTe,hT,hdT,h3⟩
 have bC:(hideAll s2.heap (a::T::Cc::frs X.stack)).get? Cc=none:=hideAll_none _ (.tail _ (.tail _ (.head _)))
 have cf':Cc∉frs (X.env::X.outer):=by rw [<-hst];exact cf
 have aC:a≠Cc:=fun z=>by rw [z,hoc2] at he;cases he;rw [hdc] at hd;cases hd
 refine Jv (od:=od) hfr hf hfl (fun o ho=>by rw [he] at ho;cases ho;exact hod) fun h4 hh up4 d4=>hR _ ?_ fun h5 sb cenv hcf=>?_
 . obtain ⟨sl,e4⟩:=up4 Cc oc hoc2 (fun vs z=>by rw [hdc] at z;cases z);exact ⟨m,_,es,ep,e4,hdc,hns⟩
 obtain ⟨sl4,e4⟩:=up4 Cc oc hoc2 (fun vs z=>by rw [hdc] at z;cases z)
 have hh5:=wH hh bC ⟨m,_,es,ep,e4,hdc,hns⟩ cf' sb
 have d5:n6 a od h5:=fun o ho=>d4 o ((sb.2 a aC).symm.trans ho)
 obtain ⟨_,_,_,oe5,vs5,T5,_,_,he5,_,hd5,h15,_⟩:=id hh5
 unfold PySem.passOn
 refine δ (wpAny_field (s:={ s2 with heap:=h5 }) he5 hd5 h15 ?_)
 rw [ψ (show ¬((Value.ref T5==Value.none)=true) from by simp),hcf,hf]
 refine δ (zh (s:={ s2 with heap:=h5 }) hh5 d5 fun h6 hh6 up6 d6 _=>?_)
 refine wpAny_throw ⟨rfl,?_⟩
 unfold leaving
 refine δ (xT (s:={ s2 with heap:=h6 }) hh6 hf (Dm (s:={ s2 with heap:=h6 }) hh6 d6 fun h7 f up7 d7=>h _ ?_))
 obtain ⟨k1,k2,⟨_,_,k3⟩,k4⟩:=f
 show XOut _ _ _ _ _ _ _ _ _ { s2 with heap:=h7 }
 refine zi (s2:=s2) (B:=hideAll s2.heap (a::T::Cc::frs X.stack)) (Z:=[a,T,Cc]) I hst hex x.os x.bare x.un x.hok (fun b hb=>?_) na ha (fun b o q hz hfs=>k1 b o (hideAll_get _ q ?_)) (fun b hb o q=>?_) (fun b q=>?_) ⟨k1,k2,k3,k4⟩ d7 hnd
 . simp only [List.mem_cons,List.not_mem_nil,or_false] at hb;rcases hb with rfl | rfl | rfl
   . exact ⟨fresh0 _ na,ha⟩
   . exact ⟨fresh0 _ nT,hHT⟩
   . exact ⟨c0,hC2⟩
 . intro z;simp only [List.mem_cons,List.not_mem_nil,or_false] at hz z;rcases z with z | z | z | z
   . exact hz (.inl z)
   . exact hz (.inr (.inl z))
   . exact hz (.inr (.inr z))
   . exact hfs z
 . obtain ⟨_,o',ho',hd'⟩:=F2.mem hb;rw [q] at ho';cases ho';obtain ⟨sl1,e1⟩:=up4 b o q hd';have e2:h5.get? b=_:=(sb.2 b fun z=>cf (z ▸ hb)).trans e1;obtain ⟨sl2,e3⟩:=up6 b _ e2 hd';obtain ⟨sl3,e5⟩:=up7 b _ e3 hd';exact ⟨sl3,e5⟩
 . rcases Lh q with z | z
   . simp only [List.mem_cons] at z;rcases z with rfl | rfl | rfl | z
     . exact .inr ⟨fresh0 _ na,ha⟩
     . exact .inr ⟨fresh0 _ nT,hHT⟩
     . exact .inr ⟨c0,hC2⟩
     . exact .inl z
   . refine .inr ⟨fresh0 b ?_,x.hok.none z⟩;cases q1:s1.heap.get? b with
     | none=>rfl
     | some o=>
      obtain ⟨o',e'⟩:=x.un.there b o q1 (by simp)
      rw [z] at e';cases e'
end
section
variable {M:Model} {A:Around} {E:Value->Shared->Prop} {s:Shared} {env:Env}
def Nr (M:Model) (A:Around) (E:Value->Shared->Prop) (u:Value->Sem Unit) (P:Shared->Prop) (sc:Scope) (env:Env) (acc:Value) (ce:Env):Result->Shared->Prop:=fun r t=>match r with
 | .ok _=>wpAny M A (u acc) (fun _ t'=>∃m,t'.heap.Ns ce.locals m/\∀h',Heap.SameBut ce.locals t'.heap h'->P { t' with heap:=h' }) E t
 | .error x=>∃m,t.heap.Ns ce.locals m/\∀h',Heap.SameBut ce.locals t.heap h'->wpAny M A (PySem.passOn "comprehension.variables-let-go" x { ce with scope:=relabel sc env }:Sem Value) (fun _ _=>False) E { t with heap:=h' }
theorem xS {e:Expr} {sc:Scope} {pos:Pos} {nl first:Sem Value} {g:Comprehension} {gs:List Comprehension} {cl:List (Str×Addr)} {u:Value->Sem Unit} {P:Shared->Prop}
  (k1:clausesOf e=g::gs) (k2:∀y,foldedSetIterable g.iter env y=pure y) (k3:closureFor sc env=pure cl) (k4:sc.kind=.function) (k5:∀y∈sc.names,y.2=.local->sc.names.lookup y.1=some .local)
  (h:wpAny M A first (fun y s₁=>wpAny M A (pyIter y) (fun it s₂=>wpAny M A nl (fun acc s₃=>wpAny M A (newFunctionEnv sc env.globals cl [] env.qual none .none (some env)) (fun ce s₄=>
   codeAny M A (.compStart e 0 it acc { ce with scope:=relabel sc env }) (Nr M A E u P sc env acc ce) s₄) E s₃) E s₂) E s₁) E s) :
  wpAny M A (comprehension e sc env pos nl false first (some u)) (fun _ t=>P t) E s:=by
 unfold comprehension
 rw [k3,k1]
 refine δ (thn h fun y s₁ a1=>δ (wpAny_standAt (δ (wpAny_of_eq (k2 y) (δ (wpAny_holding (thn a1 fun it s₂ a2=>wpAny_standIf (δ (thn a2 fun acc s₃ a3=>
  δ (ω (δ (thn a3 fun ce s₄ a4=>?_))))))))))))
 dsimp only
 have lc:∀y∈(sc.names.filter fun y=>(y.2==.local||y.2==.cell)&&y.1 != (".0":Str)).reverse,y.2=.local->Env.kindOf { ce with scope:=relabel sc env } y.1=some .local:=
  fun y hy hl=>lookup_relabel_local (k5 y (List.mem_filter.mp (List.mem_reverse.mp hy)).1 hl)
 refine wpAny_holding (δ (wpAny_attempt (wpAny_holding (wpAny_run (codeAny_mono a4 fun r t hr=>?_)))))
 cases r with
 | ok f=>
  refine δ (wpAny_rule (δ (wpAny_holding (thn hr fun _ t' hr'=>?_))))
  obtain ⟨m,hn,hp⟩:=hr'
  exact δ (wpAny_comp_letGo (cenv:={ ce with scope:=relabel sc env }) k4 _ t' m (fun y hy hl=>(List.mem_append.mp hy).elim (fun z=>lc y (List.mem_of_mem_drop z) hl) fun z=>lc y (List.mem_of_mem_take z) hl) hn fun h' m' _ sb=>ω (hp h' sb))
 | error x=>
  obtain ⟨m,hn,hp⟩:=hr
  exact δ (wpAny_holding (wpAny_comp_letGo (cenv:={ ce with scope:=relabel sc env }) k4 _ t m lc hn fun h' m' _ sb=>wpAny_mono (hp h' sb) (fun _ _ f=>f.elim) fun _ _ y=>y))
end
theorem yI {prog:Program} {w:World} {A:Around} {R:Result->Shared->Prop} {s:Shared} {elt target iter:Expr} {ifs:List Expr} {scope:Scope} {pos:Pos} {it acc:Value} {env:Env} (I:Nat->Shared->Prop)
  (turn:∀n s,I n s->wpAny (model prog w) A (pyNext it) (fun r s₁=>match r with
   | none=>R (.ok .next) s₁
   | some v=>wpAny (model prog w) A (letOwnedTupleGo target it v) (fun _ s₁'=>wpAny (model prog w) A (assign target env v) (fun _ s₂=>
    wpAny (model prog w) A (forIn ifs true fun c r=>if r=true then do let ok <-isTrue c env (eval c env);pure (ForInStep.yield ok) else pure (ForInStep.yield r)) (fun ok s₃=>
     if ok=true then wpAny (model prog w) A (eval elt env) (fun x s₄=>
      wpAny (model prog w) A (call (.builtin "list.append") [acc,x]) (fun _ s₅=>∃m,m<n/\I m s₅) (fun _ _=>False) s₄) (notedBy (model prog w) A env fun e s'=>R (.error e) s') s₃
     else ∃m,m<n/\I m s₃) (fun _ _=>False) s₂) (fun _ _=>False) s₁') (fun _ _=>False) s₁) (fun _ _=>False) s)
  (n:Nat) (h:I n s) :
  codeAny (model prog w) A (.compLoop (.ListComp elt [⟨target,iter,ifs,0⟩] scope pos) 0 it acc env) R s:=by
 refine codeAny_loop rfl I (fun n s hI=>?_) n h
 show wpAny _ A ((compTurn (.ListComp elt [⟨target,iter,ifs,0⟩] scope pos) 0 it acc env).onRaise (fun x=>do noteFrame x env;theTreesLotGoes x)) _ _ s
 refine wpAny_noted ?_
 rw [compTurn_list]
 refine δ (wpAny_standAt (δ (wpAny_mono (turn n s hI) (fun r s₁ h₁=>?_) fun _ _ h'=>h'.elim)))
 cases r with
 | none=>exact ω h₁
 | some v=>
  refine δ (wpAny_mono h₁ (fun _ s₁' h₁'=>?_) fun _ _ h'=>h'.elim)
  refine δ (wpAny_mono h₁' (fun _ s₂ h₂=>δ (wpAny_mono h₂ (fun ok s₃ h₃=>?_) fun _ _ h'=>h'.elim)) fun _ _ h'=>h'.elim)
  cases ok with
  | false=>exact ω ⟨rfl,h₃⟩
  | true=>
   exact δ (δ (wpAny_mono h₃ (fun x s₄ h₄=>δ (wpAny_mono h₄ (fun _ s₅ h₅=>ω (ω ⟨rfl,h₅⟩)) fun _ _ h'=>h'.elim)) fun _ _ h'=>h'))
def Xr (X:Cx) (Cc:Addr) (e:Value) (s':Shared):Prop:=(∃m,s'.heap.Ns Cc m)/\∀h',Heap.SameBut Cc s'.heap h'->∀ce:Env,ce.frame=X.env.frame->wpAny (model X.prog X.w) X.A (PySem.passOn "comprehension.variables-let-go" e ce:Sem Value) (fun _ _=>False) X.xe { s' with heap:=h' }
def U6 (X:Cx) (sc:Scope) (N':List Str) (fp:List Addr) (s₃:Shared) (H₃:Hp):Cx:=
 { j6 X sc N' fp s₃ H₃ with xe:=notedBy (model X.prog X.w) X.A X.env (Xr X s₃.heap.objs.size) }
theorem Inv.toE (I:Inv (j6 X sc N' fp s₃ H₃) pins U H s):Inv (U6 X sc N' fp s₃ H₃) pins U H s:=
 ⟨⟨I.ok.mod,I.ok.kind,I.ok.glob,I.ok.blt,I.ok.above,I.ok.inj,I.ok.has,I.ok.cab,I.ok.hd,I.ok.frames,I.ok.stk,I.ok.exf,I.ok.bs,I.ok.bsz,I.ok.noex,I.ok.exfs,I.ok.funs,I.ok.frf⟩,I.os,I.bare,I.base,I.loc,I.cell,I.free,I.freeC,I.pin,I.hok,I.len⟩
theorem Inv.ofE (I:Inv (U6 X sc N' fp s₃ H₃) pins U H s):Inv (j6 X sc N' fp s₃ H₃) pins U H s:=
 ⟨⟨I.ok.mod,I.ok.kind,I.ok.glob,I.ok.blt,I.ok.above,I.ok.inj,I.ok.has,I.ok.cab,I.ok.hd,I.ok.frames,I.ok.stk,I.ok.exf,I.ok.bs,I.ok.bsz,I.ok.noex,I.ok.exfs,I.ok.funs,I.ok.frf⟩,I.os,I.bare,I.base,I.loc,I.cell,I.free,I.freeC,I.pin,I.hok,I.len⟩
section
variable {X:Cx} {sc:Scope} {tgs caps:List Str} {ix:List Nat} {pins:List (Addr×Obj)} {U:St} {H:Hp} {s:Shared} {fp:List Addr}
variable {elt tg iter:Expr} {ifs:List Expr} {pos:Pos} {g:TG} {B:V->Hp->(List V->Hp->Prop)->Prop} {tt:TT} {te:TE}
theorem zg (C:CompOk X sc caps ix) (hg:∀fp s H,PG (j6 X sc (tgs++caps) fp s H) tg g)
  (hB:∀(x:V) (σt cs:St) (H:Hp) (Q:St->Hp->Prop),σt.length=tgs.length->B x H (fun vals H2=>Q (vals.map some++cs) H2)->g x (σt++cs) H fun σ2 H2=>(∃vals:List V,vals.length=tgs.length/\σ2=vals.map some++cs)/\Q σ2 H2)
  (ht:∀fp s H,PTs (j6 X sc (tgs++caps) fp s H) ifs tt) (he:∀fp s H pins U,Inv X pins U H s->(∀b∈fp,n9 X pins H b)->PE (U6 X sc (tgs++caps) fp s H) elt te)
  {J:It} {it:Addr} {tn:Nat->Heap->Prop} {Q:VK} {E:Value->Shared->Prop} (I2:Inv X pins U H s) (T:Turn X.prog X.w X.K tg J fp it tn) (st:tn 0 s.heap) (hf:∀b∈fp,n9 X pins H b)
  (hw:∀D,H D=none->Gx J D B (C4 ix U) tt te Q H) {RR:Value->Env->Result->Shared->Prop}
  (hRR:∀D ce H' s' m,s'.heap.Ns ce.locals m->Inv X pins U H' s'->n9 X pins H' ce.locals->Q (.ref D) H'->RR (.ref D) ce (.ok .next) s') (hRE:∀D ce e s',ce.frame=X.env.frame->Xr X ce.locals e s'->RR (.ref D) ce (.error e) s') :
  wpAny (model X.prog X.w) X.A (newList []) (fun acc s₃=>wpAny (model X.prog X.w) X.A (newFunctionEnv sc X.env.globals (p0 X.env.cells sc.names []) [] X.env.qual none .none (some X.env)) (fun cenv s₄=>
   codeAny (model X.prog X.w) X.A (.compStart (.ListComp elt [⟨tg,iter,ifs,0⟩] sc pos) 0 (.ref it) acc { cenv with scope:=relabel sc X.env }) (RR acc cenv) s₄) E s₃) E s:=by
 refine wpAny_newObj_type (wpAny_newFunctionEnv C.ncell (by intro y hy;simp at hy) (fun h₁ hns₁ hsb₁=>?_) C.kind)
 have I3:Inv X pins U (upd H s.heap.objs.size (.lst [])) { s with heap:=s.heap.push { cls:=.type "list",dict:=none,data:=.seq ([]:List Value).toArray } }:=I2.lnew (t':=s.toks) (its:=[]) .nil (Nat.zero_le _)
 have hD0:H s.heap.objs.size=none:=I2.fresh
 have lt0:∀b∈fp,b<s.heap.objs.size:=fun b hb=>by obtain ⟨o,e,_⟩:=T.obj _ _ st b hb;exact π e
 have hfD:∀b∈fp,b≠s.heap.objs.size:=fun b hb=>Nat.ne_of_lt (lt0 b hb)
 have hf3:∀b∈fp,n9 X pins (upd H s.heap.objs.size (.lst [])) b:=fun b hb=>⟨by rw [b8 (hfD b hb)];exact (hf b hb).1,(hf b hb).2⟩
 generalize hs3:({ s with heap:=s.heap.push { cls:=.type "list",dict:=none,data:=.seq ([]:List Value).toArray } }:Shared)=s₃ at I3 hns₁ hsb₁ ⊢
 have hs3h:s₃.heap=s.heap.push { cls:=.type "list",dict:=none,data:=.seq ([]:List Value).toArray }:=by rw [<-hs3]
 have st3:tn 0 s₃.heap:=T.keep _ _ _ st fun b _ o e=>by rw [hs3h];exact τ _ e
 have hl3:∀b∈fp,b<s₃.heap.objs.size:=fun b hb=>by rw [hs3h,Heap.size_push];exact Nat.lt_succ_of_lt (lt0 b hb)
 generalize hDD:s.heap.objs.size=D at *
 have hk1:∀b o,s₃.heap.get? b=some o->h₁.get? b=some o:=fun b o e=>hsb₁.extBut b o (Nat.ne_of_lt (π e)) (τ _ e)
 have I4:=Vy (tgs:=tgs) (t':=s₃.toks+([]:List (Str×Value)).length) C I3 hf3 hl3 hns₁ hk1
 have st4:tn 0 h₁:=T.keep _ _ _ st3 fun b _ o e=>hk1 b o e
 have fr4:∀b∈fp,(upd H D (.lst [])) b=none:=fun b hb=>(hf3 b hb).1
 generalize hXc:j6 X sc (tgs++caps) fp s₃ (upd H D (.lst []))=Xc at I4
 have hprog:Xc.prog=X.prog:=by rw [<-hXc];rfl
 have hww:Xc.w=X.w:=by rw [<-hXc];rfl
 have hKK:Xc.K=X.K:=by rw [<-hXc];rfl
 have hcalm:Xc.calm=true:=by rw [<-hXc];exact C.calm
 have hA:Xc.A=X.A:=by rw [<-hXc];rfl
 have henv:Xc.env=compEnvC sc (p0 X.env.cells sc.names []) s₃.heap.objs.size X.env:=by rw [<-hXc];rfl
 have hxe:Xc.xe=fun _ _=>False:=by rw [<-hXc];rfl
 have hg':=hg fp s₃ (upd H D (.lst []))
 have ht':=ht fp s₃ (upd H D (.lst []))
 have he':=he fp s₃ (upd H D (.lst [])) pins U I3 hf3
 rw [hXc] at hg' ht'
 obtain ⟨ce0,hce⟩:∃ce0:Env,ce0=newEnv sc s₃.heap.objs.size X.env.globals (p0 X.env.cells sc.names []) X.env.qual none Value.none (some X.env) builtinsNs:=⟨_,rfl⟩
 have hcl:ce0.locals=s₃.heap.objs.size:=by rw [hce];rfl
 have hcf:ce0.frame=X.env.frame:=by rw [hce];rfl
 obtain ⟨W,⟨m0,w0⟩,turn⟩:=hw D hD0
 have stat:∀{H':Hp},(∀b∈fp,H' b=none)->∀b∈fp,n9 Xc [] H' b:=fun {H'} hn b hb=>by
  refine ⟨hn b hb,?_,?_,.inl ?_,fun x c e z=>?_,fun p hp=>?_⟩
  . rw [henv];exact Nat.ne_of_lt (hl3 b hb)
  . rw [<-hXc];intro z;obtain ⟨_,h1,h2,_⟩:=hf b hb;rcases List.mem_cons.mp (I3.stkSub b z) with q | q
    . exact h1 q
    . exact h2 q
  . rw [<-hXc];exact hb
  . rw [henv] at e;exact (hf b hb).2.2.2.2.1 x c (C.sub I2 e) z
  . rw [<-hXc] at hp;exact absurd (show p∈([]:List (Addr×Obj)) from hp) (by simp)
 have loop:∀s₄:Shared,s₄={ s₃ with heap:=h₁,toks:=s₃.toks+([]:List (Str×Value)).length } ->
   codeAny (model X.prog X.w) X.A (.compLoop (.ListComp elt [⟨tg,iter,ifs,0⟩] sc pos) 0 (.ref it) (.ref D) (compEnvC sc (p0 X.env.cells sc.names []) s₃.heap.objs.size X.env)) (RR (.ref D) ce0) s₄:=by
  intro s₄ hs4
  rw [<-hprog,<-hww,<-hA,<-henv]
  refine yI (fun n s'=>∃(i:Nat) (ys:List V) (σt:St) (H':Hp),σt.length=tgs.length/\Inv Xc [] (σt++C4 ix U) H' s'/\tn i s'.heap/\(∀b∈fp,H' b=none)/\W i n ys H') ?_ m0
   ⟨0,[],List.replicate tgs.length none,upd H D (.lst []),by simp,by rw [hs4];exact I4,by rw [hs4];exact st4,fr4,w0⟩
  rintro n s5 ⟨i,ys,σt,H5,hσ,I5,st5,fr5,w5⟩
  obtain ⟨hD5,hturn⟩:=turn i n ys H5 w5
  rcases hturn with ⟨stop,q⟩ | ⟨go,step⟩
  . rw [hprog,hww];refine thn (T.done Xc hprog hww hKK hcalm i [] s5 _ H5 _ I5 (stat fr5) st5 stop) fun r s6 ⟨hr,I6⟩=>?_
    subst hr;obtain ⟨m6,hn6,_⟩:=I6.loc;rw [henv] at hn6;have hcb:∀b∈fp,(b∈X.ex\/X.s₀.heap.objs.size<=b)/\b≠X.env.locals/\(∀x c,X.env.cells.lookup x=some c->c≠b)/\∀p∈X.pn++pins,p.1≠b:=fun b hb=>⟨(hf b hb).2.2.2.1,(hf b hb).2.1,(hf b hb).2.2.2.2.1,(hf b hb).2.2.2.2.2⟩
    have hos:s6.os=s₃.os:=by have:=I6.os;rw [<-hXc] at this;exact this
    have un6:Un (frs X.stack) fp (upd H D (.lst [])) H5 s₃.heap s6.heap:=by have:=I6.base;rw [<-hXc] at this;exact this
    have hok6:HOk X.prog X.w H5 s6.heap:=by have:=I6.hok;rw [hprog,hww] at this;exact this
    have I7:Inv X pins U H5 s6:=I3.call' hos un6 hok6 I6.bare hcb;refine hRR D ce0 H5 s6 m6 (by rw [hcl];exact hn6) I7 ?_ q;rw [hcl];have hCn:H5 s₃.heap.objs.size=none:=by have:=I6.free;rw [henv] at this;exact this
    exact I3.fpOk (ζ _) hCn
  . rw [hprog,hww];refine thn (T.item Xc hprog hww hKK hcalm i [] s5 _ H5 _ I5 (stat fr5) st5 go) fun r s6 ⟨u,hr,h6⟩=>?_
    subst hr;refine thn h6 fun _ s7 ⟨x,H7,I7,r7,y7,st7,fr7⟩=>?_
    have I7':=I7.pinned (stat fr7) (T.obj _ _ st7);have hst:=hg' _ s7 _ H7 x u _ I7' r7 (hB x σt (C4 ix U) H7 (fun σ2 H2=>tt σ2 H2 fun b H3=>if b=true then te σ2 H3 fun y H4=>H4 D=some (.lst ys)/\ys.length<sizeLine/\∃m',m'<n/\W (i+1) m' (ys++[y]) (upd H4 D (.lst (ys++[y]))) else ∃m',m'<n/\W (i+1) m' ys H3) hσ (step x H7 y7));rw [hprog,hww,hxe] at hst;refine thn hst fun _ s8 ⟨σ8,H8,I8,⟨vals,hvl,hσ8⟩,q8⟩=>?_
    have again:∀{H9:Hp} {s9:Shared},Inv Xc ([]++U4 fp s7.heap) σ8 H9 s9->tn (i+1) s9.heap/\∀b∈fp,H9 b=none:=fun {H9 s9} I9=>
     ⟨T.keep _ _ _ st7 fun b hb o e=>(I9.pin (b,o) (List.mem_append_right _ (List.mem_append_right _ (W0 hb e)))).1,fun b hb=>by obtain ⟨o,e,d⟩:=T.obj _ _ st7 b hb;exact (I9.pin (b,o) (List.mem_append_right _ (List.mem_append_right _ (W0 hb e)))).2.1⟩
    subst hσ8;have hts:=ht'.run I8 q8;rw [hprog,hww,hxe] at hts;refine thn hts fun ok s9 ⟨H9,I9,q9⟩=>?_
    cases ok with
    | false=>
     rw [ψ η] at q9 ⊢
     obtain ⟨m',hm,w9⟩:=q9
     obtain ⟨a1,a2⟩:=again I9
     exact ⟨m',hm,i+1,ys,vals.map some,H9,by simpa using hvl,I9.unpinned,a1,a2,w9⟩
    | true=>
     rw [ξ rfl] at q9 ⊢
     have I9':=I9
     rw [<-hXc] at I9'
     have hev:=he' _ s9 _ H9 _ I9'.toE q9
     rw [hA,henv]
     refine wpAny_mono hev (fun uy s10 ⟨y,H10,I10,r10,hD10,hz10,m',hm,w10⟩=>?_) fun e' s' z=>?_
     rotate_left
     . exact wpAny_mono z (fun _ _ y=>hRE D ce0 _ _ hcf (by rw [hcl];exact y)) fun _ _ y=>hRE D ce0 _ _ hcf (by rw [hcl];exact y)
     have I10:=I10.ofE
     rw [hXc] at I10
     rw [<-hA]
     have hap:=V7 (X:=Xc) _ s10 _ H10 (.ref D) [y] (.ref D) [uy] (fun v H11=>v=.non/\H11=upd H10 D (.lst (ys++[y]))) I10 rfl (.cons r10 .nil) ⟨D,ys,y,rfl,rfl,hD10,hz10,rfl,rfl⟩
     rw [hprog,hww,hxe] at hap
     refine thn hap fun _ s11 ⟨v,H11,I11,_,_,e11⟩=>?_
     subst e11
     obtain ⟨a1,a2⟩:=again I11
     exact ⟨m',hm,i+1,ys++[y],vals.map some,_,by simpa using hvl,I11.unpinned,a1,a2,w10⟩
 subst hce
 refine codeAny_compStart_list (loop _ rfl) (T.self X.A 0 _ _ _ st4 (loop _ rfl))
theorem wG (hN:X.N.Nodup) (hk:X.N[k]?=some x) (hx:X.env.scope.names.lookup x=some .local) (C:CompOk X sc caps ix) (hi:PI X tg iter wi) (hg:∀fp s H,PG (j6 X sc (tgs++caps) fp s H) tg g)
  (hB:∀(x:V) (σt cs:St) (H:Hp) (Q:St->Hp->Prop),σt.length=tgs.length->B x H (fun vals H2=>Q (vals.map some++cs) H2)->g x (σt++cs) H fun σ2 H2=>(∃vals:List V,vals.length=tgs.length/\σ2=vals.map some++cs)/\Q σ2 H2)
  (ht:∀fp s H,PTs (j6 X sc (tgs++caps) fp s H) ifs tt) (he:∀fp s H pins U,Inv X pins U H s->(∀b∈fp,n9 X pins H b)->PE (U6 X sc (tgs++caps) fp s H) elt te)
  (hsw:swapsWith (.ListComp elt [⟨tg,iter,ifs,0⟩] sc pos) (some (.Name x px)) spos.line X.env=pure true:=by rfl)
  (hs:∀x,foldedSetIterable iter X.env x=pure x:=by intro _;rfl):PS X (.Assign [.Name x px] (.ListComp elt [⟨tg,iter,ifs,0⟩] sc pos) spos) (E5 (J7 wi B ix tt te) (x5 k)):=by
 intro pins s U H D0 I h
 rw [exec_Assign_Name_used _ _ _ _ hsw]
 refine δ (wpAny_standAt (δ ?_))
 show wpAny _ X.A (do let _ <-comprehension (.ListComp elt [⟨tg,iter,ifs,0⟩] sc pos) sc X.env _ (newList []) false (eval iter X.env) (some (assign (.Name x px) X.env))) _ _ s
 refine δ (wpAny_mono (xS (u:=assign (.Name x px) X.env) (P:=fun s'=>SP X pins D0 .next s') rfl hs (Mw (C.free_cell I)) C.kind C.names
  (thn (hi pins s U H _ I h) fun v s1 h1=>thn h1 fun itv s2 h2=>?_)) (fun _ s' hq=>ω (ω hq)) fun _ _ e=>e)
 obtain ⟨it,fp,tn,J,H2,e,I2,T,st2,f2,hw⟩:=h2
 subst e
 refine zg (RR:=fun acc ce=>Nr (model X.prog X.w) X.A X.xe (assign (.Name x px) X.env) (fun s'=>SP X pins D0 .next s') sc X.env acc ce) C hg hB ht he I2 T st2 f2 hw ?_ ?_
 . intro D ce H' s' m hn I' hfp q;show wpAny _ X.A (assign (.Name x px) X.env (.ref D)) _ _ _;refine wpAny_assign_Name (Lk I' hN hk (.inl hx) (v:=.ref D) rfl (fun s'' I'' hch=>?_) (.inr hx));obtain ⟨a,sb,ha⟩:=hch;have hne:ce.locals≠a:=by
    rcases ha with z | z
    . rw [z];exact hfp.2.1
    . exact fun e=>hfp.2.2.2.2.1 x a z e.symm
   refine ⟨m,hn.sameBut sb hne,fun h' sb'=>⟨_,H',?_,q⟩⟩;exact I''.turned (t':=s''.toks) (fun b o hb e=>sb'.extBut b o hb e) hfp.1 hfp.2.1 hfp.2.2.2.1 hfp.2.2.2.2.1 hfp.2.2.2.2.2
 . rintro D ce e s' hcf ⟨⟨m,hm⟩,hh⟩;exact ⟨m,hm,fun h' sb=>hh h' sb _ hcf⟩
end
theorem y11 {P:Program} {w:World} {K:Frag} {mg:Str->Option Value} {base:Heap} {N:List Str} {qual:Str} {sc0:Scope} {f:Addr} {cdv:Value} {A:Around} {outer:List Env} {s0:Shared} {H0:Hp} {E:XK} {sc:Scope} {N':List Str} {fp:List Addr} {s₃:Shared} {H₃:Hp} {pins₃:List (Addr×Obj)} {σ₃:St}
  (I3:Inv (w8 (CX1 P w) P w K mg base N qual sc0 f cdv A outer s0 H0 E) pins₃ σ₃ H₃ s₃) (hf:∀b∈fp,n9 (w8 (CX1 P w) P w K mg base N qual sc0 f cdv A outer s0 H0 E) pins₃ H₃ b) :
  T9 (CX1 P w) (U6 (w8 (CX1 P w) P w K mg base N qual sc0 f cdv A outer s0 H0 E) sc N' fp s₃ H₃) (eOf K ⟨H0,xNm K mg E⟩ mg):=by
 rintro pins U H s e s' Ie ⟨C,a,od,H2,rfl,xo,x,⟨C',hC',hE⟩,hmg,hx⟩
 have hmg:mg (x.cls:Str)=some (.ref C):=hmg
 rw [hC'] at hmg
 cases hmg
 have I':Inv (w8 (CX1 P w) P w K mg base N qual sc0 f cdv A outer s0 H0 E) pins₃ σ₃ H s:=I3.call' (ch:=fp) Ie.os Ie.base Ie.hok Ie.bare fun b hb=>⟨(hf b hb).2.2.2.1,(hf b hb).2.1,(hf b hb).2.2.2.2.1,(hf b hb).2.2.2.2.2⟩
 have c0:s0.heap.get? s₃.heap.objs.size=none:=by
  cases q:s0.heap.get? s₃.heap.objs.size with
  | none=>rfl
  | some o=>
   obtain ⟨o',z⟩:=I3.base.there _ o q (by simp [w8])
   exact absurd (π z) (χ _)
 have cf:s₃.heap.objs.size∉frs (w8 (CX1 P w) P w K mg base N qual sc0 f cdv A outer s0 H0 E).stack:=fun hb=>by obtain ⟨_,o,ho,_⟩:=I3.stack.mem hb;exact absurd (π ho) (χ _)
 obtain ⟨m,hn,_⟩:=Ie.loc
 exact qP (Cc:=s₃.heap.objs.size) I' rfl rfl rfl xo c0 Ie.free ⟨m,hn⟩ cf (Q:=fun s3=>CX1 P w outer H0 s0 E (.ref a) s3) (E':=fun e' s''=>CX1 P w outer H0 s0 E e' s'') (fun s'' y=>⟨_,a,od,H2,rfl,y,hE od hx⟩)
  (fun s'' m hh=>⟨m,fun h' sb ce hcf=>wpAny_mono (hh h' sb ce hcf) (fun _ _ z=>z) (fun ev t ⟨z1,z2⟩=>by subst z1;exact z2)⟩)
def P1 (bn:D->Option (List D)) (t:DE->R Bool) (f:DE->R D) (cs:DE):List D->R (List D)
 | []=>.ok []
 | d::ds=>(R.of (bn d)).bind fun bs=>(t (bs.map some++cs)).noE.bind fun b=>if b=true then (f (bs.map some++cs)).bind fun y=>(P1 bn t f cs ds).bind fun ys=>.ok (y::ys) else P1 bn t f cs ds
def M7 (fi:DE->R (List D)) (bn:D->Option (List D)) (ix:List Nat) (t:DE->R Bool) (f:DE->R D):DE->R D:=fun ρ=>(fi ρ).bind fun ds=>if ds.length<=100000 then (P1 bn t f (sel ix ρ) ds).bind fun ys=>.ok (.lst ys) else .st
section
variable {K:Frag} {EX:XW} {U:St} {H:Hp}
theorem qO (hB:BD K bn B) (htt:∀U H Q,TTd K F0 t U H Q->tt U H Q)
  (h:TEd K EX true (M7 fi bn ix t f) U H Q):J7 (TId K EX kp fi) B ix tt (TEd K EX false f) U H Q:=by
 obtain ⟨sx,ρ,H0,s,e,h⟩:=h
 unfold M7 at h
 rw [Rk.bind] at h
 refine ⟨sx,ρ,H0,s,e,h.mono fun ds h J H1 H1' s1 e1 it D hD=>?_⟩
 split at h
 . rename_i hsz;rw [Rk.bind] at h;have it':O3 K J H1' ds:=by
    cases kp with
    | true=>rw [ξ rfl] at it;exact ⟨fun i d q H H1 a b=>it.1 i d q H H1 (fun _ _ z=>nomatch z) b,fun H a=>it.2 H fun _ _ z=>nomatch z⟩
    | false=>rw [ψ η] at it;exact it
   have e':=e.mono e1.1;have hDn:H1' D=none:=e1.2.1.none hD;refine ⟨fun i mm ys H2=>mm=ds.length - i/\i<=ds.length/\ys.length<=i/\∃acc H2',Same H1 H2/\H2 D=some (.lst ys)/\Ext H1' H1 H2' H2/\H2' D=none/\RDs K H2' acc ys /\
    Rk EX.at (P1 bn t f (L2.sel ix ρ) (ds.drop i)) fun rest=>∀v H',Out K true H0 H (.lst (acc++rest)) v H'->Q v H',⟨ds.length,by simp,Nat.zero_le _,ζ _,[],H1',Same.upd_new hD,i8,(Ext.refl e1.2.1).grow (Same.upd_new hD),hDn,.nil,h⟩,?_⟩
   rintro i mm ys H2 ⟨rfl,hi,hys,acc,H2',s2,hd2,e2,hdn2,r2,h⟩;refine ⟨hd2,?_⟩;by_cases hlt:i<ds.length
   . have hd:ds[i]?=some ds[i]:=by simp [hlt]
     obtain ⟨hgo,hy⟩:=it'.1 i _ hd H2 H2' e2.1 e2.2.1;have hdr:ds.drop i=ds[i]::ds.drop (i+1):=List.drop_eq_getElem_cons hlt;rw [hdr] at h;unfold P1 at h;rw [Rk.bind] at h;obtain ⟨bs,hbs,h⟩:=h.of;rw [Rk.bind] at h;refine .inr ⟨hgo,fun x H3 y=>?_⟩;obtain ⟨s3,H3',e3,r3⟩:=hy x H3 y;refine hB H3' H3 x _ bs _ e3.2.1 r3 hbs fun vs rvs=>?_
     have en:=(e'.mono (e2.1.trans e3.1)).sel rvs ix;have e23:=e2.trans s2 e3;refine htt _ _ _ ⟨F0.same _,_,H3',e3.2.1,en,(Rk.noE h).mono fun b h H4 s4=>?_⟩;have s14:=s2.trans (s3.trans s4);have hd4:H4 D=some (.lst ys):=s4 _ _ (s3 _ _ hd2);have hdn3:H3' D=none:=e3.no s3 hd2 (fun z=>z) hdn2;have e14:Ext H1' H1 H3' H4:=e23.grow s4;cases b with
     | false=>
      rw [ψ η] at h
      dsimp only
      rw [ψ η]
      exact ⟨ds.length - (i+1),by omega,rfl,hlt,by omega,acc,H3',s14,hd4,e14,hdn3,r2.mono e3.1,h⟩
     | true=>
      rw [ξ rfl] at h
      dsimp only
      rw [ξ rfl]
      rw [Rk.bind] at h
      refine ⟨sx.trans (s1.trans s14),_,H3',e14.2.1,en,h.mono fun y h w H5 o5=>?_⟩
      obtain ⟨s5,H5',e5,r5⟩:=o5.rd
      have hd5:H5 D=some (.lst ys):=s5 _ _ hd4
      have hdn5:H5' D=none:=e5.no s5 hd4 (fun z=>z) hdn3
      have e15:=e14.trans s14 e5
      rw [Rk.bind] at h
      refine ⟨hd5,Eg (by omega),ds.length - (i+1),by omega,rfl,hlt,by rw [θ];show ys.length+1<=i+1;omega,acc++[y],H5',(s14.trans s5).upd_at hD,i8,⟨e15.1,e15.2.1.upd_at hdn5,e15.2.2⟩,hdn5,((r2.mono (e3.1.trans e5.1))).append (.one r5),?_⟩
      exact h.mono fun rest h v H' o=>h v H' (by simpa using o)
   . have ei:i=ds.length:=by omega
     subst ei;rw [List.drop_length] at h;refine .inl ⟨it'.2 H2 (e2.1.trans e2.2.1),h _ H2 ?_⟩;rw [List.append_nil];refine Out.after s1 e1 (.fresh s2 e2 hD hdn2 ?_);simp only [OB];exact ⟨ys,hd2,r2⟩
 . exact h.elim
end
section
variable {X:Cx} {EX:XW} {fr:Bool} {e:Expr} {es:List Expr} {x:Str} {p pos:Pos} {fs:DE->R (List D)}
theorem jB (nm:∀x H,EX.p x H->∃C,X.mg (Str.ofString (Ex.cls x))=some (.ref C)) (on:T9 (CX1 X.prog X.w) X (eOf X.K EX X.mg)) (G:i6 X.prog X.w X.K X.mg X.base x ps k (spD X.K X.mg fr (mOf fr n kk gg) n)) (hr:Room j X.A) (hg:Gl X x) (ha:QA X EX (e::es) fs) (hkj:k<=j:=by omega) (hdb:(x==("__debug__":Str))=false:=by decide)
 (he:starEach (e::es) X.env=(false,eval e X.env)::starEach es X.env:=by rfl) (hpl:(backTo pos (starEach es X.env)).any (·.1)=false:=by rfl):QE X EX fr (.Call (.Name x p) (e::es) [] pos) (e8 (mOf fr n kk gg) fs):=⟨(Ju G on hr hg ha.h hkj hdb he hpl).imp fun _ _ _ q=>Qn Do (fun x H z=>by obtain ⟨C,hC⟩:=nm x H z;exact ⟨C,hC,fun od xf=>⟨x,z,hC,xf⟩⟩) q⟩
end
section
variable {X:Cx} {EX:XW} {sc:Scope} {caps:List Str} {ix:List Nat} {x:Str} {px pos:Pos} {iter elt:Expr} {ifs:List Expr} {kp:Bool} {fi:DE->R (List D)} {t:DE->R Bool} {f:DE->R D}
theorem y12 {fr:Bool} {m:List Bool} {v:Str} {k:Nat} {spos pv:Pos} (hNX:X.N.Nodup) (hk:X.N[k]?=some v) (hv:X.env.scope.names.lookup v=some .local) (C:CompOk X sc caps ix) (hN:([x]++caps).Nodup) (hx:sc.names.lookup x=some .local) (hi:QI X EX kp (.Name x px) iter fi)
  (ht:PTq X sc ([x]++caps) ifs t) (he:∀fp s H pins U,Inv X pins U H s->(∀b∈fp,n9 X pins H b)->QE (U6 X sc ([x]++caps) fp s H) EX false elt f)
  (hsw:swapsWith (.ListComp elt [⟨.Name x px,iter,ifs,0⟩] sc pos) (some (.Name v pv)) spos.line X.env=pure true:=by rfl) (hs:∀x,foldedSetIterable iter X.env x=pure x:=by intro _;rfl) :
  QS X EX fr (.Assign [.Name v pv] (.ListComp elt [⟨.Name x px,iter,ifs,0⟩] sc pos) spos) (b9 true k m (M7 fi b1 ix t f)):=by
 obtain ⟨tt,h1,h2⟩:=ht.run
 exact ⟨(wG (tgs:=[x]) hNX hk hv C hi.h (fun fp s H=>X5 hN rfl hx fp s H) Fk h1 (fun fp s H pins U I hf=>(he fp s H pins U I hf).h) hsw hs).imp fun _ _ _ q=>Lg (fun _ _ _ q=>qO Fg h2 q) (Y9 q)⟩
end
theorem nmF {K:Frag} {mg:Str->Option Value} {E:XK} {H:Hp}:∀x H',(⟨H,xNm K mg E⟩:XW).p x H'->∃C,mg (Str.ofString (Ex.cls x))=some (.ref C):=fun x H' ⟨C,hC,_⟩=>⟨C,hC⟩
section
variable {prog:Program} {w:World} {A:Around} {E:Value->Shared->Prop} {s:Shared} {κ:SortKind} {a₀:Array Keyed} {rk:Keyed->Nat}
noncomputable def tk (rk:Keyed->Nat) (xs:Array Keyed) (i:Nat):Nat:=match xs[i]? with
 | some p=>rk p
 | none=>0
def R7 (prog:Program) (w:World) (A:Around) (E:Value->Shared->Prop) (s:Shared) (κ:SortKind) (a₀:Array Keyed) (rk:Keyed->Nat):Prop:=
 ∀x y,x∈a₀->y∈a₀->∀(st:SortSt) (Q:Option Bool->SortSt->Prop),kindOf st=κ->Q (some (decide (rk x<rk y))) st->wpS (model prog w) A E s (lt' x y) Q st
structure TBs (κ:SortKind) (a₀:Array Keyed) (st:SortSt):Prop where
 perm:(arrOf st).Perm a₀
 kind:kindOf st=κ
 ok:failedOf st=none
def TSo (rk:Keyed->Nat) (xs:Array Keyed) (lo hi:Nat):Prop:=∀i j,lo<=i->i<=j->j<hi->tk rk xs i<=tk rk xs j
theorem Ck (h:i<xs.size):tk rk xs i=rk xs[i]:=by unfold tk;rw [getElem?_pos xs i h]
theorem Dx (h:xs[i]?=ys[j]?):tk rk xs i=tk rk ys j:=by unfold tk;rw [h]
theorem TBs.size {st:SortSt} (B:TBs κ a₀ st):(arrOf st).size=a₀.size:=B.perm.size_eq
theorem TBs.mem {st:SortSt} (B:TBs κ a₀ st) {x:Keyed} (h:x∈arrOf st):x∈a₀:=Array.mem_def.mpr ((Array.perm_iff_toList_perm.mp B.perm).mem_iff.mp (Array.mem_def.mp h))
theorem TBs.set {st:SortSt} (B:TBs κ a₀ st) {xs:Array Keyed} (hp:xs.Perm (arrOf st)):TBs κ a₀ (setArr st xs):=⟨hp.trans B.perm,B.kind,B.ok⟩
theorem Pv {st:SortSt} {xs:Array Keyed} {i:Nat} {Q:Keyed->SortSt->Prop} (h:i<xs.size) (q:Q xs[i] st):wpS (model prog w) A E s (elem' xs i) Q st:=by rw [elem'_eq,getElem?_pos xs i h];exact wpS_pure q
theorem Q0 (hc:R7 prog w A E s κ a₀ rk) {st:SortSt} (B:TBs κ a₀ st) {i j:Nat} (hi:i<a₀.size) (hj:j<a₀.size) {Q:Option Bool->SortSt->Prop}
  (h:Q (some (decide (tk rk (arrOf st) i<tk rk (arrOf st) j))) st):wpS (model prog w) A E s (ltAt' i j) Q st:=by
 rw [ltAt'_eq]
 have hi':i<(arrOf st).size:=by rw [B.size];exact hi
 have hj':j<(arrOf st).size:=by rw [B.size];exact hj
 rw [Ck hi',Ck hj'] at h
 refine γ (wpS_get (γ (Pv hi' (γ (Pv hj' ?_)))))
 exact hc _ _ (B.mem (Array.getElem_mem _)) (B.mem (Array.getElem_mem _)) st Q B.kind h
theorem Ld (hj:j<=xs.size) (k:Nat):tk rk (mirror xs i j ((j - i) / 2)) k=if i<=k/\k<j then tk rk xs (i+j - 1 - k) else tk rk xs k:=by
 by_cases h:i<=k/\k<j<;>simp only [h,if_true,if_false]<;>refine Dx ?_<;>rw [getElem?_mirror_all hj]
 . rw [ξ h]
 . rw [ψ h]
theorem xR (hs:src<xs.size) (hd:d<=src) (k:Nat) :
  tk rk (bubble xs src d) k=if k=src - d then tk rk xs src else if src - d<k/\k<=src then tk rk xs (k - 1) else tk rk xs k:=by
 have e:=getElem?_bubble hs d hd k
 by_cases h1:k=src - d
 . rw [ξ h1] at e ⊢;exact Dx e
 . rw [ψ h1] at e ⊢;by_cases h2:src - d<k/\k<=src
   . rw [ξ h2] at e ⊢;exact Dx e
   . rw [ψ h2] at e ⊢;exact Dx e
theorem Kf (hj:j<=xs.size) (ha:∀k,i<=k->k<j->tk rk xs k=tk rk xs (j - 1)) (k:Nat):tk rk (mirror xs i j ((j - i) / 2)) k=tk rk xs k:=by
 rw [Ld hj];by_cases h:i<=k/\k<j
 . rw [ξ h,ha (i+j - 1 - k) (by omega) (by omega),ha k h.1 h.2]
 . rw [ψ h]
theorem TSo.step {xs:Array Keyed} {lo n:Nat} (h:TSo rk xs lo (lo+n)) (h1:1<=n) (hn:tk rk xs (lo+n - 1)<=tk rk xs (lo+n)):TSo rk xs lo (lo+(n+1)):=fun i j h0 h1' h2=>by
 by_cases hj:j=lo+n
 . subst hj;by_cases hi:i=lo+n
   . rw [hi];exact ζ _
   . exact Nat.le_trans (h i (lo+n - 1) h0 (by lia) (by lia)) hn
 . exact h i j h0 h1' (by lia)
theorem TSo.one (lo:Nat):TSo rk xs lo (lo+1):=fun i j h0 h1 h2=>by
 obtain rfl:i=j:=by lia
 exact ζ _
structure TL (st st':SortSt) (lo:Nat):Prop where
 low:∀k,k<lo->(arrOf st')[k]?=(arrOf st)[k]?
 pend:pendingOf st'=pendingOf st
theorem TL.refl (st:SortSt) (lo:Nat):TL st st lo:=⟨fun _ _=>rfl,rfl⟩
theorem TL.trans {a b c:SortSt} {lo:Nat} (h:TL a b lo) (k:TL b c lo):TL a c lo:=⟨fun i hi=>(k.low i hi).trans (h.low i hi),k.pend.trans h.pend⟩
theorem TL.mirror {st:SortSt} {lo i j:Nat} (hi:lo<=i) (hj:j<=(arrOf st).size):TL st (setArr st (mirror (arrOf st) i j ((j - i) / 2))) lo:=
 ⟨fun k hk=>by show (PyProof.Rows.mirror (arrOf st) i j ((j - i) / 2))[k]?=_;rw [getElem?_mirror_all hj,ψ (by lia)],rfl⟩
theorem Cj {st:SortSt} {i j:Nat} {Q:Unit->SortSt->Prop} (h:Q () (setArr st (mirror (arrOf st) i j ((j - i) / 2)))):wpS (model prog w) A E s (reverseSlice' i j) Q st:=by rw [reverseSlice'_eq];exact wpS_modify h
theorem TSo.ups' {xs:Array Keyed} {lo a:Nat} (h:TSo rk xs lo (lo+a)) (ha:1<=a):∀{n:Nat},a<=n->(∀i,a<=i->i<n->tk rk xs (lo+i - 1)<=tk rk xs (lo+i))->TSo rk xs lo (lo+n)
 | 0,z,_=>by lia
 | n+1,z,up=>by
  by_cases e:a=n+1
  . rw [<-e];exact h
  . exact (TSo.ups' h ha (n:=n) (by lia) fun i a b=>up i a (by lia)).step (by lia) (up n (by lia) (by lia))
theorem TSo.ups {xs:Array Keyed} {lo n:Nat} (h:TSo rk xs lo (lo+1)) (hn:1<=n) (up:∀i,1<=i->i<n->tk rk xs (lo+i - 1)<=tk rk xs (lo+i)):TSo rk xs lo (lo+n):=h.ups' (ζ _) hn up
theorem Pu {U:Type} {r:String} {Q:Unit->U->Prop} {st:U} (h:Q () st):wpS (model prog w) A E s (liftM (rule r):StateT U Sem Unit) Q st:=wpS_lift (wpAny_rule ⟨rfl,h⟩)
theorem Xq (mk:Nat->β) (st:U) (down:Nat->Bool) (hab:a<=b)
  (go:∀x n (Q:ForInStep β->U->Prop),a<=n->n<b->Q (if down n=true then .done (mk n) else .yield (mk (n+1))) st->wpS (model prog w) A E s (f x (mk n)) Q st)
  (h:∀n,a<=n->n<=b->(∀i,a<=i->i<n->down i=false)->(n<b->down n=true)->Q (mk n) st):wpS (model prog w) A E s (forIn [a:b] (mk a) f) Q st:=by
 refine wpS_forRange (I:=fun x c u=>u=st/\c=mk x/\∀i,a<=i->i<x->down i=false) (fun x c u hx hb hI=>?_) (fun c u hI=>?_) ⟨rfl,rfl,fun i y z=>by lia⟩
 . obtain ⟨rfl,rfl,up⟩:=hI;refine go x x _ hx hb ?_;cases hd:down x
   . exact ⟨rfl,rfl,fun i y z=>by
      by_cases e:i=x
      . rw [e];exact hd
      . exact up i y (by lia)⟩
   . exact h x hx (Nat.le_of_lt hb) up fun _=>hd
 . obtain ⟨rfl,rfl,up⟩:=hI;rw [Nat.max_eq_right hab] at up ⊢;exact h b hab (ζ _) up fun z=>absurd z (χ _)
theorem jA (mk:Nat->Nat->β) (st:U) (mid:Nat->Nat->Nat) (p:Nat->Bool) (hmid:∀l r,l<r->l<=mid l r/\mid l r<r)
  (go:∀x l r (Q:ForInStep β->U->Prop),l0<=l->l<r->r<=r0->Q (.yield (if p (mid l r)=true then mk (mid l r+1) r else mk l (mid l r))) st->wpS (model prog w) A E s (f x (mk l r)) Q st)
  (stop:∀x l (Q:ForInStep β->U->Prop),l<=r0->Q (.done (mk l l)) st->wpS (model prog w) A E s (f x (mk l l)) Q st)
  (mono:∀i j,l0<=i->i<=j->j<r0->p j=true->p i=true) (hl:l0<=r0) (hN:r0<=l0+N)
  (h:∀k,l0<=k->k<=r0->(∀i,l0<=i->i<k->p i=true)->(∀i,k<=i->i<r0->p i=false)->Q (mk k k) st):wpS (model prog w) A E s (forIn [0:N] (mk l0 r0) f) Q st:=by
 have key:∀l r,l0<=l->l<=r->r<=r0->(∀i,l0<=i->i<l->p i=true)->(∀i,r<=i->i<r0->p i=false)->l=r->Q (mk l r) st:=fun l r a b c d e z=>by subst z;exact h l a c d e
 refine wpS_forRange (I:=fun x c u=>u=st/\∃l r,(l0<=l/\l<=r/\r<=r0/\r+x<=l+N)/\c=mk l r/\(∀i,l0<=i->i<l->p i=true)/\∀i,r<=i->i<r0->p i=false)
  (fun x c u _ hb hI=>?_) (fun c u hI=>?_) ⟨rfl,l0,r0,⟨ζ _,hl,ζ _,by lia⟩,rfl,fun i a b=>by lia,fun i a b=>by lia⟩
 . obtain ⟨rfl,l,r,⟨b1,b2,b3,b4⟩,rfl,lt,gt⟩:=hI;by_cases e:l=r
   . subst e;exact stop x l _ b3 (key l l b1 b2 b3 lt gt rfl)
   . have hm:=hmid l r (by lia);refine go x l r _ b1 (by lia) b3 ?_;cases hp:p (mid l r)
     . exact ⟨rfl,l,mid l r,⟨b1,hm.1,by lia,by lia⟩,rfl,lt,fun i a b=>by
        cases hi:p i
        . rfl
        . rw [mono (mid l r) i (by lia) a b hi] at hp;cases hp⟩
     . exact ⟨rfl,mid l r+1,r,⟨by lia,by lia,b3,by lia⟩,rfl,fun i a b=>mono i (mid l r) a (by lia) (by lia) hp,gt⟩
 . obtain ⟨rfl,l,r,⟨b1,b2,b3,b4⟩,rfl,lt,gt⟩:=hI;exact key l r b1 b2 b3 lt gt (by simp only [Nat.zero_max] at b4;lia)
theorem Rj {α:Type} {Q:α->SortSt->Prop} {st:SortSt} {p:Prop} [Decidable p] {t g:StateT SortSt Sem α} (R:SortSt->Prop) (hg:∀u,R u->wpS (model prog w) A E s g Q u) (ht:p->(∀u,R u->wpS (model prog w) A E s g Q u)->wpS (model prog w) A E s t Q st) (hn:¬p->R st):wpS (model prog w) A E s (if p then t else g) Q st:=by
 split
 . exact ht ‹_› hg
 . exact hg _ (hn ‹_›)
theorem qN (hc:R7 prog w A E s κ a₀ rk) {st:SortSt} (B:TBs κ a₀ st) {lo nrem:Nat} (hz:lo+nrem<=a₀.size) (h1:1<=nrem) {Q:Option Nat->SortSt->Prop}
  (h:∀n st',1<=n->n<=nrem->TBs κ a₀ st'->TL st st' lo->TSo rk (arrOf st') lo (lo+n)->Q (some n) st'):wpS (model prog w) A E s (countRun' lo nrem) Q st:=by
 rw [countRun'_eq]
 refine γ (Xq (fun n=>(none,n)) st (fun n=>decide (tk rk (arrOf st) (lo+n)<tk rk (arrOf st) (lo+n - 1))) h1 (fun x n Q a b q=>γ (Q0 hc B (by lia) (by lia) ?_)) fun n hn1 hn2 up dn=>?_)
 . by_cases hl:tk rk (arrOf st) (lo+n)<tk rk (arrOf st) (lo+n - 1)
   . simp only [hl,decide_true,if_true] at q ⊢;exact wpS_pure q
   . simp only [hl,decide_false,Bool.false_eq_true,if_false] at q ⊢;exact wpS_pure q
 have hs:=TSo.ups (n:=n) (TSo.one (rk:=rk) (xs:=arrOf st) lo) hn1 fun i a b=>by have:=up i a b;simp only [decide_eq_false_iff_not] at this;lia
 have hd:n<nrem->tk rk (arrOf st) (lo+n)<tk rk (arrOf st) (lo+n - 1):=fun z=>by simpa using dn z
 dsimp only
 by_cases hnr:n=nrem
 . rw [ξ (by simp [hnr])];exact wpS_pure (h n _ hn1 hn2 B (.refl _ _) hs)
 rw [ψ (by simp [hnr])]
 have hd':=hd (by lia)
 have flat:∀(xs:Array Keyed),TSo rk xs lo (lo+n)->¬tk rk xs lo<tk rk xs (lo+n - 1)->∀k,lo<=k->k<lo+n->tk rk xs k=tk rk xs (lo+n - 1):=fun xs hs hr k h0 h1=>by
  have a:=hs lo k (ζ _) h0 h1;have b:=hs k (lo+n - 1) h0 (by lia) (by lia)
  lia
 have ni0:∀(xs:Array Keyed),(∀k,lo<=k->k<lo+n->tk rk xs k=tk rk xs (lo+n - 1))->tk rk xs (lo+n)<tk rk xs (lo+n - 1)->∀i j,lo<=i->i<=j->j<lo+(n+1)->tk rk xs j<=tk rk xs i:=fun xs fl hd i j h0 h1 h2=>by
  by_cases hj:j=lo+n
  . subst hj;by_cases hi:i=lo+n
    . rw [hi];exact ζ _
    . rw [fl i h0 (by lia)];lia
  . rw [fl i h0 (by lia),fl j (by lia) (by lia)];exact ζ _
 refine Rj (fun u=>TBs κ a₀ u/\TL st u lo/\∀i j,lo<=i->i<=j->j<lo+(n+1)->tk rk (arrOf u) j<=tk rk (arrOf u) i) (fun st1 z=>?_) (fun hn J=>?_) fun hn=>⟨B,.refl _ _,ni0 _ (flat _ hs (by rw [show lo+n - 1=lo by lia];exact χ _)) hd'⟩
 rotate_left
 . refine γ (Q0 hc B (by lia) (by lia) ?_);by_cases hr:tk rk (arrOf st) lo<tk rk (arrOf st) (lo+n - 1)
   . rw [decide_eq_true hr];dsimp only;rw [ξ rfl];exact wpS_pure (h n _ hn1 hn2 B (.refl _ _) hs)
   rw [decide_eq_false hr];dsimp only;rw [ψ η];have hz0:lo+n<=(arrOf st).size:=by rw [B.size];lia
   have fl:=flat _ hs hr;have ea:=Kf hz0 fl;exact γ (Cj (J _ ⟨B.set (mirror_perm _ _ _ _),.mirror (ζ _) hz0,fun i j h0 h1 h2=>by show tk rk (mirror (arrOf st) _ _ _) j<=tk rk (mirror (arrOf st) _ _ _) i;rw [ea,ea];exact ni0 _ fl hd' i j h0 h1 h2⟩))
 clear flat ni0 hd hd' hs up dn
 obtain ⟨B1,L1,ni⟩:=z
 refine γ (Pu ?_)
 refine γ (wpS_mono (wpS_forRange (I:=fun x c st2=>TBs κ a₀ st2/\TL st st2 lo/\∃q,c=(none,x,q)/\q+1<=x/\(∀i j,lo<=i->i<=j->j<lo+x->tk rk (arrOf st2) j<=tk rk (arrOf st2) i)/\∀k,lo+x - (q+1)<=k->k<lo+x->tk rk (arrOf st2) k=tk rk (arrOf st2) (lo+x - 1))
  (Q:=fun c st2=>TBs κ a₀ st2/\TL st st2 lo/\∃x q,c=(none,x,q)/\1<=x/\x<=nrem/\q+1<=x/\(∀i j,lo<=i->i<=j->j<lo+x->tk rk (arrOf st2) j<=tk rk (arrOf st2) i)/\∀k,lo+x - (q+1)<=k->k<lo+x->tk rk (arrOf st2) k=tk rk (arrOf st2) (lo+x - 1)) ?step ?fin ⟨B1,L1,0,rfl,by lia,ni,fun k h0 h1=>by rw [show k=lo+(n+1) - 1 by lia]⟩) ?post)
 case fin=>
  rintro c st2 ⟨B2,L2,q,rfl,hq,ni2,al⟩
  rw [show max (n+1) nrem=nrem by lia] at *
  exact ⟨B2,L2,nrem,q,rfl,h1,ζ _,hq,ni2,al⟩
 case post=>
  rintro c st2 ⟨B2,L2,x,q,rfl,hx1,hx2,hq,ni2,al⟩
  have hz2:lo+x<=(arrOf st2).size:=by rw [B2.size];lia
  dsimp only
  refine Rj (fun u=>TBs κ a₀ u/\TL st u lo/\∀i j,lo<=i->i<=j->j<lo+x->tk rk (arrOf u) j<=tk rk (arrOf u) i) (fun st3 z=>?_) (fun hq0 J=>?_) fun _=>⟨B2,L2,ni2⟩
  rotate_left
  . have ea:=Kf hz2 al;exact γ (Cj (J _ ⟨B2.set (mirror_perm _ _ _ _),L2.trans (.mirror (by lia) hz2),fun i j h0 h1 h2=>by show tk rk (mirror (arrOf st2) _ _ _) j<=tk rk (mirror (arrOf st2) _ _ _) i;rw [ea,ea];exact ni2 i j h0 h1 h2⟩))
  obtain ⟨B3,L3,ni3⟩:=z
  have hz3:lo+x<=(arrOf st3).size:=by rw [B3.size];lia
  refine γ (Cj ?_)
  obtain ⟨st4,e4⟩:∃st4,st4=setArr st3 (mirror (arrOf st3) lo (lo+x) ((lo+x - lo) / 2)):=⟨_,rfl⟩
  have B4:TBs κ a₀ st4:=e4 ▸ B3.set (mirror_perm _ _ _ _)
  have L4:TL st st4 lo:=e4 ▸ L3.trans (.mirror (ζ _) hz3)
  have s0:TSo rk (arrOf st4) lo (lo+x):=fun i j h0 h1 h2=>by rw [e4];show tk rk (mirror (arrOf st3) lo (lo+x) _) i<=tk rk (mirror (arrOf st3) lo (lo+x) _) j;rw [Ld hz3,Ld hz3,ξ (by lia),ξ (by lia)];exact ni3 _ _ (by lia) (by lia) (by lia)
  rw [<-e4]
  clear e4
  refine γ (Xq (fun n=>(none,n)) st4 (fun n=>decide (tk rk (arrOf st4) (lo+n)<tk rk (arrOf st4) (lo+n - 1))) hx2 (fun y m Q a b q=>γ (Q0 hc B4 (by lia) (by lia) ?_)) fun m hm1 hm2 up _=>?_)
  . by_cases hl:tk rk (arrOf st4) (lo+m)<tk rk (arrOf st4) (lo+m - 1)
    . simp only [hl,decide_true,if_true] at q ⊢;exact wpS_pure q
    . simp only [hl,decide_false,Bool.false_eq_true,if_false] at q ⊢;exact wpS_pure q
  . dsimp only;refine wpS_pure (h m _ (by lia) hm2 B4 L4 (s0.ups' hx1 hm1 fun i a b=>?_));have:=up i a b;simp only [decide_eq_false_iff_not] at this
    lia
 case step=>
  rintro x c st2 hnx hxr ⟨B2,L2,q,rfl,hq,ni2,al⟩
  have hz2:lo+x<=(arrOf st2).size:=by rw [B2.size];lia
  dsimp only
  refine γ (Q0 hc B2 (by lia) (by lia) ?_)
  have ext:∀(xs:Array Keyed),(∀i j,lo<=i->i<=j->j<lo+x->tk rk xs j<=tk rk xs i)->tk rk xs (lo+x)<=tk rk xs (lo+x - 1)->∀i j,lo<=i->i<=j->j<lo+(x+1)->tk rk xs j<=tk rk xs i:=fun xs nx hx i j h0 h1 h2=>by
   by_cases hj:j=lo+x
   . subst hj;by_cases hi:i=lo+x
     . rw [hi];exact ζ _
     . exact Nat.le_trans hx (nx i (lo+x - 1) h0 (by lia) (by lia))
   . exact nx i j h0 h1 (by lia)
  by_cases hl:tk rk (arrOf st2) (lo+x)<tk rk (arrOf st2) (lo+x - 1)
  . simp only [hl,decide_true,if_true];by_cases hq0:q > 0
    . rw [ξ hq0];have ea:=Kf hz2 al;refine γ (Cj (wpS_pure ⟨B2.set (mirror_perm _ _ _ _),L2.trans (.mirror (by lia) hz2),0,rfl,by lia,ext _ (fun i j h0 h1 h2=>?_) ?_,fun k h0 h1=>by rw [show k=lo+(x+1) - 1 by lia]⟩))
      . show tk rk (mirror (arrOf st2) _ _ _) j<=tk rk (mirror (arrOf st2) _ _ _) i;rw [ea,ea];exact ni2 i j h0 h1 h2
      . show tk rk (mirror (arrOf st2) _ _ _) _<=tk rk (mirror (arrOf st2) _ _ _) _;rw [ea,ea];exact Nat.le_of_lt hl
    . rw [ψ hq0];exact wpS_pure ⟨B2,L2,0,rfl,by lia,ext _ ni2 (Nat.le_of_lt hl),fun k h0 h1=>by rw [show k=lo+(x+1) - 1 by lia]⟩
  . simp only [hl,decide_false,Bool.false_eq_true,if_false];refine γ (Q0 hc B2 (by lia) (by lia) ?_);by_cases hg:tk rk (arrOf st2) (lo+x - 1)<tk rk (arrOf st2) (lo+x)
    . simp only [hg,decide_true,if_true];exact wpS_pure ⟨B2,L2,x,q,rfl,by lia,by lia,hq,ni2,al⟩
    . simp only [hg,decide_false,Bool.false_eq_true,if_false];refine wpS_pure ⟨B2,L2,q+1,rfl,by lia,ext _ ni2 (by lia),fun k h0 h1=>?_⟩;rw [show lo+(x+1) - 1=lo+x by lia];by_cases hk:k=lo+x
      . rw [hk]
      . rw [al k (by lia) (by lia)];lia
theorem TSo.down {xs:Array Keyed} {lo k l:Nat} (hz:lo+k<xs.size) (hl:l<=k) (hs:TSo rk xs lo (lo+k)) (below:∀i,i<l->tk rk xs (lo+i)<=tk rk xs (lo+k)) (above:∀i,l<=i->i<k->tk rk xs (lo+k)<tk rk xs (lo+i)) :
  TSo rk (bubble xs (lo+k) (lo+k - (lo+l))) lo (lo+(k+1)):=fun i j h0 hij hj=>by
 obtain ⟨i,rfl⟩:∃i',i=lo+i':=⟨i - lo,by lia⟩
 obtain ⟨j,rfl⟩:∃j',j=lo+j':=⟨j - lo,by lia⟩
 have val:∀m,m<=k->tk rk (bubble xs (lo+k) (lo+k - (lo+l))) (lo+m)=if m<l then tk rk xs (lo+m) else if m=l then tk rk xs (lo+k) else tk rk xs (lo+(m - 1)):=fun m hm=>by
  rw [xR hz (by lia)];by_cases a:m<l
  . rw [ψ (by lia),ψ (by lia),ξ a]
  . by_cases b:m=l
    . rw [ξ (by lia),ψ a,ξ b]
    . rw [ψ (by lia),ξ (by lia),ψ a,ψ b,show lo+m - 1=lo+(m - 1) by lia]
 have st:∀a b,a<=b->b<k->tk rk xs (lo+a)<=tk rk xs (lo+b):=fun a b u v=>hs _ _ (by lia) (by lia) (by lia)
 rw [val i (by lia),val j (by lia)]
 by_cases a:j<l
 . rw [ξ a,ξ (by lia)];exact st i j (by lia) (by lia)
 . rw [ψ a];by_cases b:i<l
   . rw [ξ b];by_cases c:j=l
     . rw [ξ c];exact below i b
     . rw [ψ c];exact st i (j - 1) (by lia) (by lia)
   . rw [ψ b];by_cases c:i=l
     . rw [ξ c];by_cases d:j=l
       . rw [ξ d];exact ζ _
       . rw [ψ d];exact Nat.le_of_lt (above _ (by lia) (by lia))
     . rw [ψ c,ψ (by lia)];exact st _ _ (by lia) (by lia)
theorem y13 (hc:R7 prog w A E s κ a₀ rk) {st:SortSt} (B:TBs κ a₀ st) {lo n ok:Nat} (hz:lo+n<=a₀.size) (h1:1<=ok) (hok:ok<=n) (hs:TSo rk (arrOf st) lo (lo+ok)) {Q:Bool->SortSt->Prop}
  (h:∀u,TBs κ a₀ u->TL st u lo->TSo rk (arrOf u) lo (lo+n)->Q true u):wpS (model prog w) A E s (binarySort' lo n ok) Q st:=by
 rw [binarySort'_eq,Nat.max_eq_left h1]
 refine γ (wpS_mono (wpS_forRange (I:=fun k c u=>c=(none,())/\TBs κ a₀ u/\TL st u lo/\TSo rk (arrOf u) lo (lo+k))
  (Q:=fun c u=>c=(none,())/\TBs κ a₀ u/\TL st u lo/\TSo rk (arrOf u) lo (lo+n)) (fun k c u ha hb hI=>?_) (fun c u hI=>by rwa [Nat.max_eq_right hok] at hI) ⟨rfl,B,.refl _ _,hs⟩) fun c u hI=>?_)
 . obtain ⟨rfl,B1,L1,hs⟩:=hI;have hz1:lo+k<(arrOf u).size:=by rw [B1.size];lia
   refine γ (jA (fun l r=>(none,l,r)) u (fun l r=>(l+r) / 2) (fun i=>decide (tk rk (arrOf u) (lo+i)<=tk rk (arrOf u) (lo+k))) (fun l r _=>by lia) (fun x l r Q a b c q=>?_) (fun x l Q _ q=>?_) (fun i j _ a b c=>?_) (Nat.zero_le _) (by lia) fun l _ hl lt gt=>?_)
   . dsimp only;rw [ψ (by lia)];refine γ (Q0 hc B1 (by lia) (by lia) ?_);by_cases z:tk rk (arrOf u) (lo+k)<tk rk (arrOf u) (lo+(l+r) / 2)
     . simp only [z,Nat.not_le.mpr z,decide_true,decide_false,Bool.false_eq_true,if_true,if_false] at q ⊢;exact wpS_pure q
     . simp only [z,Nat.not_lt.mp z,decide_true,decide_false,Bool.false_eq_true,if_true,if_false] at q ⊢;exact wpS_pure q
   . dsimp only;rw [ξ (ζ _)];exact wpS_pure q
   . simp only [decide_eq_true_eq] at c ⊢;exact Nat.le_trans (hs _ _ (by lia) (by lia) (by lia)) c
   . dsimp only;rw [moveDown'_eq];refine γ (wpS_modify (wpS_pure ⟨rfl,B1.set (bubble_perm _ _ _),L1.trans ⟨fun j hj=>?_,rfl⟩,?_⟩))
     . show (bubble (arrOf u) (lo+k) (lo+k - (lo+l)))[j]?=_;rw [getElem?_bubble hz1 _ (by lia),ψ (by lia),ψ (by lia)]
     . exact TSo.down hz1 hl hs (fun i a=>by simpa using lt i (Nat.zero_le _) a) fun i a b=>by simpa using gt i a b
 . obtain ⟨rfl,B1,L1,hs⟩:=hI;exact wpS_pure (h u B1 L1 hs)
end
abbrev Asc (rk:Keyed->Nat) (l:List Keyed):Prop:=l.Pairwise fun x y=>rk x<=rk y
section
variable {rk:Keyed->Nat}
theorem jz {xs:Array Keyed} (h:TSo rk xs 0 xs.size):Asc rk xs.toList:=by
 refine List.pairwise_iff_getElem.mpr fun i j hi hj hij=>?_
 simp only [Array.length_toList] at hi hj;have:=h i j (Nat.zero_le _) (Nat.le_of_lt hij) hj;rw [Ck hi,Ck hj] at this;simpa using this
theorem jy:∀n,n<64->minRun' n n 0=n:=by decide
end
section
variable {prog:Program} {w:World} {E:Value->Shared->Prop} {s:Shared} {A:Around} {κ:SortKind} {a₀:Array Keyed} {rk:Keyed->Nat}
theorem qM {α:Type} {Q:α->SortSt->Prop} {C:Nat->SortSt->Prop} {p:Nat->Prop} {dp:∀n,Decidable (p n)} {t g:Nat->StateT SortSt Sem α} (R:Nat->SortSt->Prop) (hg:∀m u,R m u->wpS (model prog w) A E s (g m) Q u) (ht:∀n u,C n u->p n->(∀m u,R m u->wpS (model prog w) A E s (g m) Q u)->wpS (model prog w) A E s (t n) Q u) (hn:∀n u,C n u->¬p n->R n u):∀n u,C n u->wpS (model prog w) A E s (if p n then t n else g n) Q u:=by
 intro n u c;by_cases h:p n
 . rw [ξ h];exact ht n u c h hg
 . rw [ψ h];exact hg _ _ (hn n u c h)
theorem jx (hc:R7 prog w A E s κ a₀ rk) {st:SortSt} (B:TBs κ a₀ st) (h2:2<=a₀.size) (h64:a₀.size<64) (hp:pendingOf st=#[]) {Q:Unit->SortSt->Prop} (h:∀u,TBs κ a₀ u->Asc rk (arrOf u).toList->Q () u):wpS (model prog w) A E s sortRuns' Q st:=by
 rw [sortRuns'_eq];refine γ (wpS_get ?_);dsimp only;rw [B.size];refine γ (wpS_mono (wpS_forRange (I:=fun x c u=>TBs κ a₀ u/\((x=0/\c=(none,0)/\pendingOf u=#[])\/(c=(none,a₀.size)/\TSo rk (arrOf u) 0 a₀.size/\(pendingOf u).size<=1)))
  (Q:=fun c u=>TBs κ a₀ u/\c=(none,a₀.size)/\TSo rk (arrOf u) 0 a₀.size/\(pendingOf u).size<=1) ?step ?fin ⟨B,.inl ⟨rfl,rfl,hp⟩⟩) ?post)
 case fin=>
  rintro c u ⟨B1,⟨q,_⟩ | q⟩
  . exact absurd q (by simp only [Nat.zero_max];lia)
  . exact ⟨B1,q⟩
 case post=>
  rintro c u ⟨B1,rfl,so,z⟩
  dsimp only
  refine γ (wpS_mono (wpS_forRange (I:=fun x c v=>c=(none,())/\v=u) (Q:=fun c v=>c=(none,())/\v=u) (fun x c v _ _ hI=>?_) (fun c v hI=>hI) ⟨rfl,rfl⟩) fun c v hI=>?_)
  . obtain ⟨rfl,rfl⟩:=hI;refine γ (wpS_get ?_);rw [ξ z];exact wpS_pure ⟨rfl,rfl⟩
  . obtain ⟨rfl,rfl⟩:=hI;exact wpS_pure (h v B1 (jz (by rw [B1.size];exact so)))
 case step=>
  rintro x c u _ _ ⟨B1,⟨_,rfl,hp⟩ | ⟨rfl,so,z⟩⟩
  rotate_left
  . dsimp only;rw [ξ (ζ _)];exact wpS_pure ⟨B1,rfl,so,z⟩
  dsimp only
  rw [ψ (by lia),jy _ h64]
  refine γ (qN hc B1 (by lia) (by lia) fun n u1 n1 n2 B2 L2 so=>?_)
  dsimp only
  have hh:=And.intro n1 (And.intro n2 (And.intro B2 (And.intro L2 so)))
  clear n1 n2 B2 L2 so
  revert n u1
  refine qM (fun m u2=>m=a₀.size/\TSo rk (arrOf u2) 0 m/\TBs κ a₀ u2/\TL u u2 0) (fun m u2 hR=>?_) (fun n u1 ⟨n1,n2,B2,L2,so⟩ hn k=>?_) fun n u1 ⟨n1,n2,B2,L2,so⟩ hn=>⟨by lia,by simpa using so,B2,L2⟩
  rotate_left
  . refine γ (Pu ?_);refine γ (y13 hc B2 (n:=min (a₀.size - 0) a₀.size) (by lia) n1 (by lia) so fun u2 B3 L3 so2=>?_);rw [ψ (by simp)];exact k _ _ ⟨by lia,by simpa using so2,B3,L2.trans L3⟩
  . obtain ⟨rfl,so3,B3,L4⟩:=hR;refine γ (wpS_get ?_);have hp2:pendingOf u2=#[]:=L4.pend.trans hp;rw [hp2];show wpS (model prog w) A E s _ _ u2;refine γ (wpS_modify (wpS_pure ?_));refine ⟨⟨B3.perm,B3.kind,B3.ok⟩,.inr ⟨by simp,so3,?_⟩⟩;show ((pendingOf u2).push _).size<=1;rw [hp2];simp
end
section
variable {prog:Program} {w:World} {E:Value->Shared->Prop} {s:Shared} {A:Around}
noncomputable def z9 (h:Heap) (a:Addr) (vs:List Value):Heap:=((h.update a (Obj.mapSeq fun _=>#[])).push (seqObj "tuple" vs.toArray 0)).push (seqObj "list" #[] 0)
theorem Vs (ho:h.get? a=some (seqObj "list" vs.toArray n)) :
  ∃k,(h.update a (Obj.mapSeq fun _=>#[])).get? a=some (seqObj "list" #[] k)/\(z9 h a vs).get? a=some (seqObj "list" #[] k):=
 ⟨_,get?_update_seq ho fun _=>#[],τ _ (τ _ (get?_update_seq ho fun _=>#[]))⟩
theorem wF (ho:s.heap.get? a=some (seqObj "list" vs.toArray n)) (h2:2<=vs.length) (h64:vs.length<64) (hz:vs.length<=sizeLine)
  (hκ:∀(Q:SortKind->Shared->Prop),Q κ { s with heap:=z9 s.heap a vs }->wpAny (model prog w) A (keyKind' vs.toArray) Q E { s with heap:=z9 s.heap a vs })
  (hc:R7 prog w A E { s with heap:=z9 s.heap a vs } κ (pairsOf vs) rk)
  (h:∀out:Array Keyed,out.Perm (pairsOf vs)->Asc rk out.toList->P (.done (.ret .none)) { s with heap:=sortedHeap s.heap a vs (out.map (·.2)) }):wpAny (model prog w) A (Builtin.«list.sort» ⟨[.ref a],[]⟩) P E s:=by
 obtain ⟨k,k1,k2⟩:=Vs ho
 have nn:¬vs.toArray.size<2:=by rw [List.size_toArray];lia
 rw [list_sort_plain]
 refine δ (listItems_at ho rfl (δ (listUpdate_at ho rfl (δ (seqEpoch_at k1 rfl (δ (wpAny_newTuple (δ (wpAny_newList (wpAny_holding ?_) (Nat.zero_le _))) hz)))) (by rw [List.size_toArray];exact hz) (Nat.zero_le _))))
 show wpAny (model prog w) A _ P E { s with heap:=z9 s.heap a vs }
 rw [ψ nn,ψ nn]
 refine δ (hκ _ (δ (wpAny_mono (jx (st:=SortSt.mk' κ (pairsOf vs) #[] 7 none) hc ⟨.refl _,rfl,rfl⟩ (by rw [pairsOf_size];exact h2) (by rw [pairsOf_size];exact h64) rfl (Q:=fun _ u=>TBs κ (pairsOf vs) u/\Asc rk (arrOf u).toList) fun u B a=>⟨B,a⟩) ?_ fun _ _ x=>x)))
 rintro ⟨⟨⟩,u⟩ s' ⟨rfl,B,hA⟩
 refine δ (seqEpoch_at k2 rfl (δ (listUpdate_at k2 rfl ?_ (Nat.zero_le _) (by rw [Array.size_map,B.size,pairsOf_size];exact Nat.le_succ_of_le hz))))
 rw [B.ok,bne_self_eq_false]
 exact ω (h _ B.perm hA)
noncomputable def C1 (h:Heap) (vs:List Value):Heap:=((h.push (seqObj "list" #[] 0)).update h.objs.size (Obj.mapSeq (·++vs.toArray))).push (seqObj "list" vs.toArray 0)
theorem Lc (h:Heap) (vs:List Value):(C1 h vs).get? (h.objs.size+1)=some (seqObj "list" vs.toArray 0):=by
 have e:((h.push (seqObj "list" #[] 0)).update h.objs.size (Obj.mapSeq (·++vs.toArray))).objs.size=h.objs.size+1:=(Heap.size_update _ _ _).trans (size_push' _ _);unfold C1
 conv=>lhs;arg 2;rw [<-e]
 exact Ψ _ rfl
theorem yH (q:h.get? b=some o):(z9 (C1 h vs) (h.objs.size+1) vs).get? b=some o:=by have lt:b<h.objs.size:=π q;refine τ _ (τ _ ?_);rw [Heap.get?_update_ne _ _ _ _ (Nat.ne_of_lt (Nat.lt_add_right 1 lt))];refine τ _ ?_;rw [Heap.get?_update_ne _ _ _ _ (Nat.ne_of_lt lt)];exact τ _ q
theorem yG (hl:s.heap.IsList l vs.toArray) (h2:2<=vs.length) (h64:vs.length<64) (hz:vs.length<=sizeLine)
  (hκ:∀(Q:SortKind->Shared->Prop),Q κ { s with heap:=z9 (C1 s.heap vs) (s.heap.objs.size+1) vs }->wpAny (model prog w) A.in1.in1 (keyKind' vs.toArray) Q (fun _ _=>False) { s with heap:=z9 (C1 s.heap vs) (s.heap.objs.size+1) vs })
  (hc:R7 prog w A.in1.in1 (fun _ _=>False) { s with heap:=z9 (C1 s.heap vs) (s.heap.objs.size+1) vs } κ (pairsOf vs) rk)
  (h:∀out:Array Keyed,out.Perm (pairsOf vs)->Asc rk out.toList->Q (.ref (s.heap.objs.size+1)) { s with heap:=sortedAll s.heap vs (out.map (·.2)) }):wpAny (model prog w) A (call (.builtin "sorted") [.ref l]) Q E s:=by
 have e:((s.heap.push (seqObj "list" #[] 0)).update s.heap.objs.size (Obj.mapSeq (·++vs.toArray))).objs.size=s.heap.objs.size+1:=(Heap.size_update _ _ _).trans (size_push' _ _)
 have b:=wF (s:={ s with heap:=C1 s.heap vs }) (E:=fun _ _=>False) (P:=fun f s'=>∃x,f=.done (.ret x)/\Q (.ref (s.heap.objs.size+1)) s') (Lc s.heap vs) h2 h64 hz hκ hc fun out p a=>⟨_,rfl,h out p a⟩
 apply Calls.call_function_entry kind_sorted plain_sorted entry_sorted (args_sorted1 (.ref l))
 unfold Builtin.«sorted»
 refine δ (m:=checkCount "sorted" 1 1 _) (ω (δ (collect_list hl (δ (wpAny_newList ?_ hz)) hz)))
 show wpAny _ _ _ _ _ { s with heap:=C1 s.heap vs }
 rw [e]
 refine δ (wpAny_holding (wpAny_call_entry slot_list_sort ⟨_,Lc s.heap vs,rfl⟩ entry_list_sort (wpAny_mono b (fun f s' q=>?_) fun _ _ x=>x.elim) (args_list_sort _)))
 obtain ⟨x,rfl,q⟩:=q
 exact ⟨_,rfl,ω ⟨_,rfl,q⟩⟩
end
def rkD (ds:List D) (d:D):Nat:=ds.countP fun e=>ltT e d
theorem Pt (h:ois ds=true) (hd:d∈ds) (he:e∈ds):decide (rkD ds d<rkD ds e)=ltT d e:=by
 have ho:∀x∈ds,x.oi=true:=fun x hx=>ois_mem.mp h x hx
 have up:∀{d e:D},d∈ds->e∈ds->ltT d e=true->rkD ds d<rkD ds e:=fun {d e} hd he q=>by
  unfold rkD;have le:∀l:List D,(∀x∈l,x∈ds)->l.countP (fun x=>ltT x d)<=l.countP (fun x=>ltT x e):=fun l hl=>
   List.countP_mono_left fun x hx hxd=>Co (ho x (hl x hx)) (ho d hd) (ho e he) hxd q
  obtain ⟨l1,l2,rfl⟩:=List.append_of_mem hd;have a:=le l1 fun x hx=>by simp [hx]
  have b:=le l2 fun x hx=>by simp [hx]
  simp only [List.countP_append,List.countP_cons,q,Hs (ho d hd)];simp
  lia
 cases q:ltT d e with
 | true=>simpa using up hd he q
 | false=>
  cases q':ltT e d with
  | true=>have:=up he hd q';simp;lia
  | false=>obtain rfl:=Cw (ho d hd) (ho e he) q q';simp
theorem Ap {d:D} (h:d.oi=true):(∃a,d=.int a)\/∃ds,d=.tup ds/\ois ds=true:=by
 cases d with
 | int a=>exact .inl ⟨a,rfl⟩
 | tup ds=>exact .inr ⟨ds,rfl,by simpa only [D.oi] using h⟩
 | _=>exact nomatch h
theorem qK {K:Frag} {H:Hp} {n:Nat} (ih:∀{d e:D} {x:V},d.dep<=n->d.oi=true->e.oi=true->RD K H d x->RD K H e x->d=e):∀{ds es:List D} {xs:List V},i9 ds<=n->ois ds=true->ois es=true->RDs K H ds xs->RDs K H es xs->ds=es:=by
 intro ds;induction ds with
 | nil=>
  intro es xs _ _ _ r1 r2
  have l:=r2.length
  rw [<-r1.length] at l
  exact (List.length_eq_zero_iff.mp l).symm
 | cons d ds ihl=>
  intro es xs hd o1 o2 r1 r2
  cases es with
  | nil=>
   have l:=r1.length
   rw [<-r2.length] at l
   cases l
  | cons e es=>
   simp only [RDs] at r1 r2
   obtain ⟨x,ys,h1,p1,q1⟩:=r1
   obtain ⟨y,zs,h2,p2,q2⟩:=r2
   rw [h1] at h2;cases h2
   simp only [ois,Bool.and_eq_true] at o1 o2
   simp only [i9] at hd
   rw [ih (Nat.le_trans (Nat.le_max_left _ _) hd) o1.1 o2.1 p1 p2,ihl (Nat.le_trans (Nat.le_max_right _ _) hd) o1.2 o2.2 q1 q2]
theorem jw {K:Frag} {H:Hp}:∀(n:Nat) {d e:D} {x:V},d.dep<=n->d.oi=true->e.oi=true->RD K H d x->RD K H e x->d=e:=by
 intro n;induction n with
 | zero=>
  intro d e x hd o1 o2 r1 r2
  rcases Ap o1 with ⟨a,rfl⟩ | ⟨ds,rfl,_⟩
  . have h1:=r1.int;rcases Ap o2 with ⟨b,rfl⟩ | ⟨es,rfl,_⟩
    . have h2:=r2.int;rw [h1] at h2;cases h2;rfl
    . obtain ⟨_,_,h2,_⟩:=r2.tup;rw [h1] at h2;cases h2
  . simp only [D.dep] at hd;exact absurd hd (Nat.not_succ_le_zero _)
 | succ n ih=>
  intro d e x hd o1 o2 r1 r2
  rcases Ap o1 with ⟨a,rfl⟩ | ⟨ds,rfl,p1⟩
  . have h1:=r1.int;rcases Ap o2 with ⟨b,rfl⟩ | ⟨es,rfl,_⟩
    . have h2:=r2.int;rw [h1] at h2;cases h2;rfl
    . obtain ⟨_,_,h2,_⟩:=r2.tup;rw [h1] at h2;cases h2
  . obtain ⟨a,ys,h1,q1,w1⟩:=r1.tup;rcases Ap o2 with ⟨b,rfl⟩ | ⟨es,rfl,p2⟩
    . have h2:=r2.int;rw [h1] at h2;cases h2
    . obtain ⟨b,zs,h2,q2,w2⟩:=r2.tup;rw [h1] at h2;cases h2;rw [q1] at q2;cases q2;simp only [D.dep] at hd;rw [qK ih (Nat.le_of_succ_le_succ hd) p1 p2 w1 w2]
theorem y14 {K:Frag} {H:Hp} {d e:D} {x:V} (o1:d.oi=true) (o2:e.oi=true) (r1:RD K H d x) (r2:RD K H e x):d=e:=jw d.dep (ζ _) o1 o2 r1 r2
theorem zf (p:l.Perm m):∀{xs:List α},m=xs.map f->∃ys:List α,ys.Perm xs/\l=ys.map f:=by
 induction p with
 | nil=>intro xs h;exact ⟨xs,.refl _,h⟩
 | cons a p ih=>
  intro xs h
  cases xs with
  | nil=>cases h
  | cons x xs=>
   simp only [List.map_cons,List.cons.injEq] at h
   obtain ⟨ys,p',e⟩:=ih h.2
   exact ⟨x::ys,p'.cons x,by rw [e,h.1];rfl⟩
 | swap a b l=>
  intro xs h
  match xs,h with
  | x::y::xs,h=>
   simp only [List.map_cons,List.cons.injEq] at h
   exact ⟨y::x::xs,.swap _ _ _,by rw [h.1,h.2.1,h.2.2];rfl⟩
 | trans p q ih1 ih2=>
  intro xs h
  obtain ⟨ys,p',e⟩:=ih2 h
  obtain ⟨zs,q',e'⟩:=ih1 e
  exact ⟨zs,q'.trans p',e'⟩
theorem Vr (l:List D):(List.range l.length).map (fun i=>l.getD i (.int 0))=l:=by
 apply List.ext_getElem?;intro i;rw [List.getElem?_map];by_cases hi:i<l.length
 . rw [List.getElem?_range hi];simp [hi]
 . rw [List.getElem?_eq_none (by simpa using hi),List.getElem?_eq_none (by simpa using hi)];rfl
noncomputable def atOf (its:List Value) (v:Value):Nat:=Classical.epsilon fun i=>i<its.length/\its.getD i Value.none=v
theorem Jl (h:i<its.length):atOf its (its.getD i Value.none)<its.length/\its.getD (atOf its (its.getD i Value.none)) Value.none=its.getD i Value.none:=by have hh:∃j,j<its.length/\its.getD j Value.none=its.getD i Value.none:=⟨i,h,rfl⟩;exact Classical.epsilon_spec hh
def Ai (ds:List D):Bool:=ois ds&&decide (i9 ds<=20)&&ds.all (fun d=>ds.all fun e=>(g7 d e).isSome)&&(ds.all isI||ds.all E1||ds.all L7)&&decide (ds.length<64)
def J9:List D->Option D
 | [.lst ds]=>if Ai ds=true then some (.lst (v7 ds)) else none
 | _=>none
def Ps (K:Frag):List V->Hp->VK->Prop:=fun xs H Q=>∃p ys ds,xs=[.ref p]/\H p=some (.lst ys)/\RDs K H ds ys/\Ai ds=true/\∀(l:Addr) (is:List Nat),H l=none->(∀i∈is,i<ys.length)->v7 ds=is.map (fun i=>ds.getD i (.int 0))->Q (.ref l) (upd H l (.lst (is.map fun i=>ys.getD i .non)))
theorem Ke {K:Frag}:x3 K true J9 (Ps K):=by
 intro H0 H xs ds z Q s r ho k;unfold J9 at ho;split at ho<;>first | cases ho | skip
 split at ho<;>cases ho;rename_i es hok;obtain ⟨x,rfl,q1⟩:=r.uno;obtain ⟨p,ys,rfl,hp,ry⟩:=q1.lst;refine ⟨p,ys,es,rfl,s _ _ hp,ry.mono s,hok,fun l is hl hi he=>k _ _ (.new s hl fun H' hH=>?_)⟩;simp only [OB];refine ⟨_,hH,?_⟩;rw [he];exact ry.pick hi
section
variable {X:Cx} {pins:List (Addr×Obj)} {U:St} {H:Hp} {s:Shared}
theorem qJ (hx:(∃k,x=.int k)\/∃a,x=.ref a) (hy:(∃k,y=.int k)\/∃a,y=.ref a) (r1:RelV x v) (r2:RelV y v):x=y:=by
 rcases hx with ⟨k,rfl⟩ | ⟨a,rfl⟩<;>rcases hy with ⟨j,rfl⟩ | ⟨b,rfl⟩<;>simp only [RelV] at r1 r2
 . obtain ⟨t,rfl⟩:=r1;obtain ⟨u,h⟩:=r2;cases h;rfl
 . obtain ⟨t,rfl⟩:=r1;cases r2
 . obtain ⟨t,rfl⟩:=r2;cases r1
 . subst r1;cases r2;rfl
theorem Xp {K:Frag} {d:D} {x:V} (o:d.oi=true) (r:RD K H d x):(∃k,x=.int k)\/∃a,x=.ref a:=by
 cases d<;>simp only [D.oi] at o<;>first | cases o | skip
 . exact .inl ⟨_,r.int⟩
 . obtain ⟨a,_,h,_⟩:=r.tup;exact .inr ⟨a,h⟩
theorem Wi (vs:List Value):(pairsOf vs).toList=(List.range vs.length).map fun i=>((vs.getD i Value.none,vs.getD i Value.none):Keyed):=by
 unfold pairsOf;rw [Array.toList_zip];apply List.ext_getElem
 . simp
 . intro i h1 h2;simp at h1;simp [h1]
theorem Us (h:x∈pairsOf vs):∃i,i<vs.length/\x=(vs.getD i Value.none,vs.getD i Value.none):=by rw [Array.mem_def,Wi] at h;obtain ⟨i,hi,e⟩:=List.mem_map.mp h;exact ⟨i,List.mem_range.mp hi,e.symm⟩
theorem Vq:∀(vs:List Value),(∀i,i<vs.length->∃n t,vs.getD i Value.none=.int n t)->∃ns,IntsAre vs ns
 | [],_=>⟨[],.nil⟩
 | v::vs,h=>by
  obtain ⟨n,t,e⟩:=h 0 (by simp);obtain ⟨ns,r⟩:=Vq vs fun i hi=>by simpa using h (i+1) (by simpa using hi)
  have e':v=.int n t:=by simpa using e
  subst e';exact ⟨n::ns,.cons n t r⟩
theorem qH (ia:IntsAre vs ns) (h:2<=vs.length):keyKind' vs.toArray=pure oneType':=by
 match vs,ia,h with
 | v1::v2::vs,ia,_=>exact keyKind_ints ia
theorem Jk (hc:X.calm=true) (hu:X.A.units+64<cLine):CallR X (.builtin "sorted") (Ps X.K):=by
 intro pins s U H xs us Q I r h;obtain ⟨p,ys,ds,rfl,hp,rd,hok,k⟩:=h;obtain ⟨u,rfl,ru⟩:=x4 r;cases ru;obtain ⟨its,rv,pl,hz⟩:=I.list (.of hp);obtain ⟨m,hn,_⟩:=id I.loc;have F:=Att.fr_all hn;have N:=V3 (g:=Att.noObjs s.heap) (h:=s.heap) (L:=X.env.locals);unfold Ai at hok;simp only [Bool.and_eq_true,Bool.or_eq_true,decide_eq_true_eq] at hok;obtain ⟨⟨⟨⟨hoi,hdep⟩,hcmp⟩,hkind⟩,h64⟩:=hok;have hl1:=rd.length;have hl2:=rv.length;have fin:∀{vs':Array Value} {is:List Nat},(∀i∈is,i<ys.length)->v7 ds=is.map (fun i=>ds.getD i (.int 0))->vs'=(is.map fun i=>its.getD i Value.none).toArray->EP X pins U Q (.ref (s.heap.objs.size+1)) { s with heap:=sortedAll s.heap its vs' }:=fun {vs' is} hi he hv=>by
  have hlen:(is.map fun i=>ys.getD i .non).length<=sizeLine:=by
   have e1:is.length=ds.length:=by have:=congrArg List.length he;rw [List.length_map,(N6 ds).length_eq] at this;exact this.symm
   rw [List.length_map,e1,hl1];exact hz
  obtain ⟨e,he'⟩:=sortedAll_at s.heap its vs';have kp:∀b o,s.heap.get? b=some o->(sortedAll s.heap its vs').get? b=some o:=fun b o q=>sortedAll_old q
  have hN:=N.kept_cons F kp (Nat.le_succ _) he';obtain ⟨HD,I'⟩:=I.frnew (tk:=s.toks) (o:=.lst (is.map fun i=>ys.getD i .non)) hn (F.kept kp) hN (Heap.get?_none_of_le (Nat.le_succ _)) ⟨hlen,_,e,rv.pick hi,by subst hv;exact (hN _ (.head _)).1⟩;exact ⟨.ref _,_,I',rfl,k _ is HD hi he⟩
 by_cases h2:2<=its.length
 . have kp:∀b o,s.heap.get? b=some o->(z9 (C1 s.heap its) (s.heap.objs.size+1) its).get? b=some o:=fun b o q=>yH q
   have I':Inv X pins U H { s with heap:=z9 (C1 s.heap its) (s.heap.objs.size+1) its }:=I.frn (tk:=s.toks) hn (F.kept kp) fun q hq=>(N.kept_cons F kp (Nat.le_succ _) (Vs (Lc s.heap its)).choose_spec.2) q (.tail _ hq)
   have huu:X.A.in1.in1.units+20<cLine:=by show X.A.units+1+1+20<cLine;lia
   have main:∀κ:SortKind,(∀(Q:SortKind->Shared->Prop),Q κ { s with heap:=z9 (C1 s.heap its) (s.heap.objs.size+1) its }->wpAny (model X.prog X.w) X.A.in1.in1 (keyKind' its.toArray) Q (fun _ _=>False) { s with heap:=z9 (C1 s.heap its) (s.heap.objs.size+1) its }) ->
     (∀(E:Value->Shared->Prop) (C:Bool->Shared->Prop) (i j:Nat),i<ys.length->j<ys.length->C (ltI ds i j) { s with heap:=z9 (C1 s.heap its) (s.heap.objs.size+1) its }->wpAny (model X.prog X.w) X.A.in1.in1 (keyLt' κ (its.getD i Value.none) (its.getD j Value.none)) C E { s with heap:=z9 (C1 s.heap its) (s.heap.objs.size+1) its }) ->
     wpAny (model X.prog X.w) X.A (call (.builtin "sorted") [.ref p]) (EP X pins U Q) X.xe s:=by
    intro κ hκ hlt
    refine yG (rk:=fun q=>rkD ds (ds.getD (atOf its q.1) (.int 0))) pl.isList h2 (by lia) (by lia) hκ ?_ fun out hp' hA=>?_
    . intro x y hx hy st Q' hk q;obtain ⟨i,hi,rfl⟩:=Us hx;obtain ⟨j,hj,rfl⟩:=Us hy;have ai:=Jl hi;have aj:=Jl hj;dsimp only at q;rw [Pt hoi (G5 (by lia)) (G5 (by lia))] at q;rw [lt'_eq];refine γ (wpS_get (γ (wpS_lift (wpAny_attempt ?_))));rw [hk];dsimp only;generalize atOf its (its.getD i Value.none)=i' at *;generalize atOf its (its.getD j Value.none)=j' at *;rw [<-ai.2,<-aj.2];exact hlt _ _ i' j' (by lia) (by lia) ⟨rfl,wpS_pure q⟩
    . have e0:(pairsOf its).toList=(List.range its.length).map fun i=>((its.getD i Value.none,its.getD i Value.none):Keyed):=Wi its
      obtain ⟨is,hip,hie⟩:=zf (Array.perm_iff_toList_perm.mp hp') e0;have him:∀i∈is,i<its.length:=fun i hi=>List.mem_range.mp (hip.mem_iff.mp hi)
      have pm:(is.map fun i=>ds.getD i (.int 0)).Perm ds:=by refine (hip.map _).trans ?_;rw [show its.length=ds.length by lia,Vr]
      refine fin (is:=is) (fun i hi=>by have:=him i hi;lia) (Kk (Dz (N6 _) hoi) ((N6 _).trans pm.symm) (Ef hoi) ?_) ?_
      . rw [hie] at hA;refine List.pairwise_map.mpr ((List.pairwise_map.mp hA).imp_of_mem fun {a b} ha hb hab=>?_);have same:∀i,i<its.length->ds.getD (atOf its (its.getD i Value.none)) (.int 0)=ds.getD i (.int 0):=fun i hi=>by have q:=Jl hi;have v1:=rv.getD (i:=atOf its (its.getD i Value.none)) (by lia);have v2:=rv.getD (i:=i) (by lia);have r1:=rd.getD (i:=atOf its (its.getD i Value.none)) (by lia);have r2:=rd.getD (i:=i) (by lia);have o1:=Jq (i:=atOf its (its.getD i Value.none)) hoi;have o2:=Jq (i:=i) hoi;rw [q.2] at v1;rw [qJ (Xp o1 r1) (Xp o2 r2) v1 v2] at r1;exact y14 o1 o2 r1 r2
        dsimp only at hab;rw [same a (him a ha),same b (him b hb)] at hab;have z:=Pt hoi (d:=ds.getD b (.int 0)) (e:=ds.getD a (.int 0)) (G5 (by have:=him b hb;lia)) (G5 (by have:=him a ha;lia));rw [<-z,decide_eq_false_iff_not]
        lia
      . rw [<-Array.toList_inj,Array.toList_map,hie,List.map_map];rfl
   by_cases hI:ds.all isI=true
   . have getI:∀i,i<ys.length->∃n t,ds.getD i (.int 0)=.int n/\its.getD i Value.none=.int n t:=fun i hi=>by
      have r1:=rd.getD hi
      have v1:=rv.getD hi
      have m1:isI (ds.getD i (.int 0))=true:=List.all_eq_true.mp hI _ (G5 (by lia))
      generalize ds.getD i (.int 0)=d at *
      cases d<;>simp only [isI] at m1<;>first | cases m1 | skip
      rw [r1.int] at v1
      obtain ⟨t,e⟩:=v1
      exact ⟨_,t,rfl,e⟩
     refine main oneType' (fun Q' q=>?_) fun E C i j hi hj hC=>?_
     . have ia:∃ns,IntsAre its ns:=Vq its fun i hi=>by obtain ⟨n,t,_,e⟩:=getI i (by lia);exact ⟨n,t,e⟩
       obtain ⟨ns,ia⟩:=ia;rw [qH ia h2];exact ω q
     . obtain ⟨n,t,e1,e2⟩:=getI i hi;obtain ⟨n',t',e3,e4⟩:=getI j hj;rw [e2,e4];refine PySem.W.kat_lt_int ?_;unfold ltI at hC;rw [e1,e3] at hC;simpa only [ltT] using hC
   . obtain ⟨T,hT⟩:∃T:Bool,∀d∈ds,(if T=true then L7 d else E1 d)=true:=by
      rcases hkind with (z | z) | z
      . exact absurd z hI
      . exact ⟨false,fun d hd=>by rw [ψ η];exact List.all_eq_true.mp z d hd⟩
      . exact ⟨true,fun d hd=>by rw [ξ rfl];exact List.all_eq_true.mp z d hd⟩
     obtain ⟨fs,t1,t2,t3⟩:=Qd (M:=model X.prog X.w) I' T hT rd rv
     refine main (tuples' ((.type (if T=true then "tuple" else "int"):Value) != Value.type "tuple")) (fun Q' q=>PySem.W.kat_kind t1 (by lia) t3 (by cases T<;>rfl) q) fun E C i j hi hj hC=>?_
     have r1:=rd.getD hi
     have r2:=rd.getD hj
     have v1:=rv.getD hi
     have v2:=rv.getD hj
     have m1:ds.getD i (.int 0)∈ds:=G5 (by lia)
     have m2:ds.getD j (.int 0)∈ds:=G5 (by lia)
     have o1:=(ois_mem.mp hoi) _ m1
     have o2:=(ois_mem.mp hoi) _ m2
     have d1:=Ks m1
     have f1:=hT _ m1
     have f2:=hT _ m2
     obtain ⟨b,hb⟩:=Option.isSome_iff_exists.mp (List.all_eq_true.mp (List.all_eq_true.mp hcmp _ m1) _ m2)
     have hbl:b=ltI ds i j:=Qi hb
     rw [<-hbl] at hC
     generalize ds.getD i (.int 0)=da at *
     generalize ds.getD j (.int 0)=db at *
     have tp:∀{d:L2.D},(if T=true then L7 d else E1 d)=true->∃es,d=.tup es/\(T=false->∃k r,es=.int k::r):=fun {d} h=>by
      cases T with
      | false=>
       rw [ψ η] at h
       cases d<;>simp only [E1] at h<;>first | cases h | skip
       rename_i es
       cases es with
       | nil=>simp at h
       | cons e es=>cases e<;>simp at h;exact ⟨_,rfl,fun _=>⟨_,_,rfl⟩⟩
      | true=>
       rw [ξ rfl] at h
       cases d<;>simp only [L7] at h<;>first | cases h | skip
       exact ⟨_,rfl,fun z=>nomatch z⟩
     obtain ⟨ea,rfl,ka⟩:=tp f1
     obtain ⟨eb,rfl,kb⟩:=tp f2
     obtain ⟨a,xa,e1,ha,ra⟩:=r1.tup
     obtain ⟨c,xc,e2,hcc,rc⟩:=r2.tup
     rw [e1] at v1;rw [e2] at v2
     rw [show its.getD i Value.none=Value.ref a from v1,show its.getD j Value.none=Value.ref c from v2]
     obtain ⟨ia,va,oa,hoa,_,na,hda⟩:=I'.tupA ha
     obtain ⟨ic,vc,oc,hoc,_,nc,hdc⟩:=I'.tupA hcc
     simp only [L2.D.oi] at o1 o2
     simp only [L2.D.dep] at d1
     simp only [g7] at hb
     refine PySem.W.kat_lt hoa hda hoc hdc (Se I' huu hC 0 (fun hb0 _=>?_) o1 o2 (by lia) ra rc va vc hb (by simp))
     cases T with
     | false=>exact ⟨ka rfl,kb rfl⟩
     | true=>exact absurd hb0 (by simp)
 . have hs1:v7 ds=ds:=by
    match ds,hl1,hl2 with
    | [],_,_=>rfl
    | [d],_,_=>rfl
    | _::_::_,a,b=>simp at a;lia
   have pz:∀l:List Value,l.length<2->(pairsOf l).map (·.2)=(List.map (fun i=>l.getD i Value.none) (List.range l.length)).toArray:=fun l hl=>by
    match l,hl with
    | [],_=>simp [pairsOf]
    | [v],_=>simp [pairsOf]
    | _::_::_,z=>simp at z;lia
   refine zz pl.isList (by lia) (fin (is:=List.range its.length) (fun i hi=>by simp at hi;lia) ?_ (pz its (by lia)))
   rw [hs1,show its.length=ds.length by lia,Vr]
end
structure FnAt (K:Frag) (x:Str) (st:Stmt) (f:Addr):Prop where
 ns:nsIn K mainGlobals x=some (some (.ref f))
 fn:∃fd,Fun K x x st f fd
section
variable {P:Program} {w:World} {K:Frag} {mg:Str->Option Value} {base h:Heap} {x:Str} {st:Stmt} {f:Addr} {ps:List Str} {k:Nat} {sp:Sp}
theorem fat {oc:Value} {od an:Option Addr} {osl:Array (Option Value)} {kV doc pm cdv ct:Value} (a:nsIn K mainGlobals x=some (some (.ref f))) (l:K.lookup f=some ⟨oc,od,.func (PySem.W.fnOf x x (G4 st) (x8 st) (d8 st) .none kV doc pm an cdv ct),osl⟩)
 (c:codeIn K cdv x=true) (k:keepIn K (.ref f)=true):FnAt K x st f:=⟨a,_,Ae l c k⟩
def BP:List Str->(List Value->Prop)->Prop
 | [],P=>P []
 | _::r,P=>∀u,BP r fun us=>P (u::us)
theorem BP.all (h:BP ps Q) (us:List Value) (hl:us.length=ps.length):Q us:=by
 induction ps generalizing Q us with
 | nil=>rw [List.eq_nil_of_length_eq_zero hl];exact h
 | cons p r ih=>
  cases us with
  | nil=>cases hl
  | cons u us=>exact ih (h u) us (Nat.succ.inj hl)
theorem got (X:K.In h) (G:h.Ns mainGlobals mg) (A:FnAt K x st f) (ok:∀{fd},Fun K x x st f fd->FnOk P w K mg base (CX1 P w) k f fd ps sp)
  (hb:∀(kV doc pm:Value) (an:Option Addr) (cdv ct:Value),BP ps fun us=>bindArgs (PySem.W.fnOf x x (G4 st) (x8 st) (d8 st) .none kV doc pm an cdv ct) ⟨us,[]⟩=pure (ps.zip us):=by (repeat intro _);exact rfl):i6 P w K mg base x ps k sp:=by
 obtain ⟨fd,F⟩:=A.fn
 exact ⟨f,fd,ok F,F.binds fun kV doc pm an cdv ct=>(hb kV doc pm an cdv ct).all,PySem.W.mg_of X G A.ns,F.kp⟩
theorem jv (X:K.In h) (G:h.Ns mainGlobals mg) (hfa:mg x=some (.ref fa)) (A:FnAt K x st f) (hb:∀(s:Shared) (v kV doc pm:Value) (an:Option Addr) (cdv ct:Value),BindsTo s (PySem.W.fnOf x x (G4 st) (x8 st) (d8 st) .none kV doc pm an cdv ct) ⟨[v],[]⟩ [(z,v)])
  (ok:∀base:Heap,K.In base->base.Ns mainGlobals mg->∀{fd},Fun K x x st f fd->FnOk P w K mg base (CX1 P w) k f fd ps sp) :
  ∃fd:FuncData,(∀(s:Shared) (v:Value),BindsTo s fd ⟨[v],[]⟩ [(z,v)])/\∀base:Heap,K.In base->base.Ns mainGlobals mg->FnOk P w K mg base (CX1 P w) k fa fd ps sp:=by
 have e:=hfa.symm.trans (PySem.W.mg_of X G A.ns)
 cases e
 obtain ⟨fd,F⟩:=A.fn
 have F':=F
 obtain ⟨oc,od,kV,doc,pm,an,cdv,ct,osl,rfl,lk,hcd⟩:=F'.ex
 exact ⟨_,fun s v=>hb s v _ _ _ _ _ _,fun base kb nb=>ok base kb nb F⟩
theorem fsc (a:sc.kind=.function:=by rfl) (b:sc.isCoroutine=false:=by rfl) (c:sc.isGenerator=false:=by rfl) (d:N.Nodup:=by decide +kernel) (e:N.take ps.length=ps:=by rfl)
 (f:∀x∈ps,sc.names.lookup x=some .local\/sc.names.lookup x=some .cell:=by decide +kernel) (g:∀y∈sc.names,y.2≠.free:=by decide +kernel):FnScope N ps sc:=⟨a,b,c,d,e,f,g⟩
end
section
variable {X:Cx} {EX:XW} {fr fr':Bool} {a b e:Expr} {f g:DE->R D} {pos p:Pos} {m:List Bool} {j:Nat}
theorem qI (hr:Room j X.A) (ha:QE X EX false a f) (hb:QE X EX false b g) (hs:Du b:=by exact fun _ _=>rfl):QE X EX false (.Subscript a b pos) (eOp dIx f g):=y39 (y38 hr.units) Ze ha hb hs
theorem qL (hm:X.mg "len"=none) (ha:QE X EX false e f) (hg:Gl X "len":=by rfl) (he:starEach [e] X.env=(false,eval e X.env)::starEach [] X.env:=by rfl) (hpl:(backTo pos (starEach [] X.env)).any (·.1)=false:=by rfl) :
 QE X EX false (.Call (.Name "len" p) [e] [] pos) (eCB j4 (a6 f a8)):=y6 kg kf hg hm PySem.boot_len (a7 ha b6 he) (he:=he) (hpl:=hpl)
theorem sA (i:Nat) (hN:X.N.Nodup) (he:QE X EX fr' e f) (hi:X.N[i]?=some x:=by rfl) (hx:Loc X.env.scope x:=by first | exact .inl rfl | exact .inr rfl) (hs:swapsWith e (some (.Name x pos')) pos.line X.env=pure false:=by rfl) (hf:X.fn x=true\/X.env.scope.names.lookup x=some .local:=by exact .inl rfl) :
 QS X EX fr (.Assign [.Name x pos'] e pos) (b9 fr' i m f):=Zb hN hi hx he hs hf
theorem tE (hr:Room j X.A) (ha:QE X EX false a f) (hb:QE X EX false b g) (hm:behindInMarks .Eq b=false):QT X EX (.Compare a [.Eq] [b] pos) (c6 asB (eOp dEq f g)):=v4 (z7 hr.units) z6 ha hb hm
theorem tN (hr:Room j X.A) (ha:QE X EX false a f) (hb:QE X EX false b g) (hm:behindInMarks .NotEq b=false):QT X EX (.Compare a [.NotEq] [b] pos) (c6 asB (eOp dNe f g)):=v4 (Zg hr.units) Zf ha hb hm
end
open PySem.W in
noncomputable def Di (tb:String->Option Builtin) (p:Program) (w:World) (m:Nat) (ann:Option Value):Nat->SharedT->Thread->Option SharedT
 | 0,_,_=>none
 | n+1,s,t=>match through t with
  | true=>some s
  | false=>match stepOk m ann t with
   | false=>none
   | true=>match stepT (denote tb) p w s t with
    | some (s',t')=>Di tb p w m ann n s' t'
    | none=>none
open PySem.W in
theorem Vp:∀(n:Nat) {s s':SharedT} {t:Thread},Di tb p w m ann n s t=some s'->topRun tb p w m ann n s.abs t=some s'.abs
 | 0,_,_,_,h=>nomatch h
 | n+1,s,s',t,h=>by
  unfold Di at h;unfold topRun;cases a:through t with
  | true=>rw [a] at h;cases h;rfl
  | false=>
   rw [a] at h
   cases b:stepOk m ann t with
   | false=>rw [b] at h;cases h
   | true=>
    rw [b] at h
    cases c:stepT (denote tb) p w s t with
    | none=>rw [c] at h;cases h
    | some z=>
     obtain ⟨s2,t2⟩:=z
     rw [c] at h
     rw [stepT_spec c]
     exact Vp n h
open PySem.W in
noncomputable def Pr:List Obj->Nat->BT->BT
 | [],_,t=>t
 | o::l,i,t=>Pr l (i+1) (t.ins i o)
open PySem.W in
def bootS (w:World) (os:OsState):SharedT:=⟨Pr (boot_heap w.params).objs.toList 0 .nil,(boot_heap w.params).objs.size,(boot_heap w.params).life,Array.mk [],boot_drawn,boot_toks,os⟩
open PySem.W in
noncomputable def seenAt (p q:Program) (loose:List Str) (Xt:Shared->Bool) {α:Type} (Yf:Shared->α) (w:World) (t:Shared):=
 (staticsOk (importedModules p.main.body) (boot_heap w.params) t.heap&&namesBound p t.heap&&gensDone t&&laidKept (boot_heap w.params) t.heap,openSeen q loose (importedModules p.main.body) Xt true t,Yf t)
open PySem.W in
def outAt (p q:Program) (loose:List Str) (Xt:Shared->Bool) {α:Type} (Yf:Shared->α) (N:Nat) (w:World) (os:OsState):=
 (Di treeTable p w (boot_heap w.params).objs.size ((boot_heap w.params).nsMap mainGlobals "__annotations__") N (bootS w os) (topStub p)).map fun s=>seenAt p q loose Xt Yf w s.abs
open PySem.W in
theorem wE:∀(w:World) (os:OsState),(bootS w os).abs=⟨boot_heap w.params,Array.mk [],boot_drawn,boot_toks,os⟩:=fun _ _=>by kernel_rfl
open PySem.W in
theorem qG:∀w:World,(boot_heap w.params).isNs mainGlobals=true:=fun _=>by kernel_rfl
open PySem.W in
theorem qF (e:opening p=plainProg p.main.scope.names) (hN:Nat.ble 600 N=true)
  (f:∀s,fenceModules? p s=some s) (h:∀w os,outAt p q loose Xt Yf N w os=some (true,openGood q loose,Ya w)):LeftO p q loose Xt Yf Ya N:=fun w=>by
 obtain ⟨⟨hp,gs,d,k,os⟩,a,b⟩:=Option.map_eq_some_iff.mp (boot_open e hN f w)
 obtain ⟨rfl,rfl,rfl,rfl⟩:hp=boot_heap w.params/\gs=Array.mk []/\d=boot_drawn/\k=boot_toks:=by simpa using b
 obtain ⟨s,r,c⟩:=Option.map_eq_some_iff.mp (h w os)
 have r2:=Vp N r
 rw [wE] at r2
 obtain ⟨l1,l2,l3⟩:_/\_/\_:=by simpa only [seenAt,Prod.mk.injEq] using c
 have t:topFrom treeTable p w N ⟨boot_heap w.params,Array.mk [],boot_drawn,boot_toks,os⟩=some s.abs:=by unfold topFrom;dsimp only;rw [qG,r2];show (match staticsOk (importedModules p.main.body) (boot_heap w.params) s.abs.heap&&namesBound p s.abs.heap&&gensDone s.abs&&laidKept (boot_heap w.params) s.abs.heap with | true=>_ | false=>_)=_;rw [l1]
 unfold openEnds
 rw [a]
 show (topFrom treeTable p w N _).map _=_
 rw [t]
 exact congrArg some (Prod.ext l2 l3)
abbrev vs (x:String) (t:Nat):Value:=.str (Str.ofString x) t
abbrev en (P:Params) (x:String) (t:Nat) (v:Value):DictEntry:=⟨PyData.keyHash P (Str.ofString x),.str (Str.ofString x) t,v⟩
abbrev oT (l:List Value):Obj:={ cls:=.type "tuple",data:=.seq l.toArray }
abbrev oD (l:List DictEntry) (n:Nat):Obj:={ cls:=.type "dict",data:=.dict l.toArray n }
abbrev oF (st:Stmt) (x q:String) (dV kV doc pm:Value) (an:Option Addr) (cd ct:Value):Obj:={ cls:=.type "function",data:=.func (PySem.W.fnOf (Str.ofString x) (Str.ofString q) (G4 st) (x8 st) (d8 st) dV kV doc pm an cd ct) }
noncomputable def Nq:Stmt->Nat->Stmt
 | .ClassDef _ _ _ b _ _ _ _ _ _ _,j=>b.getD j (.Pass ⟨0,0,0,0⟩)
 | s,_=>s
end L2
namespace Cu
abbrev P2:=Int×Int
abbrev P3:=Int×Int×Int
def sh (at' x:Int):Int:=if x > at' then x+1 else x
def sh2 (c:Int) (p:P2):P2:=(sh c p.1,sh c p.2)
def outer (p:P3):P2:=(p.1,p.2.2)
def Ga (n c:Int):P2:=if c=n - 1 then (0,c) else (c,c+2)
structure CInv (n:Int) (ls:List P2) (T:List P3):Prop where
 n3:3<=n
 tri:∀a c b,(a,c,b)∈T->0<=a/\a<c/\c<b/\b<=n - 1/\((a,c)∈ls\/c=a+1)/\((c,b)∈ls\/b=c+1)
 lin:∀a b,(a,b)∈ls->0<=a/\a+2<=b/\b<=n - 1/\¬(a=0/\b=n - 1)
 nc:∀a b c d,(a,b)∈ls->(c,d)∈ls->¬(a<c/\c<b/\b<d)
 nd:ls.Nodup
 prm:(T.map outer).Perm ((0,n - 1)::ls)
end Cu
namespace Cu
open L2 (mxD Py T2 T3 so3 wJ To)
def pk (x:Int) (p l:P2):Bool:=decide (l.1=x)&&(decide (l.2<=p.2)&&!(decide (l.1=p.1)&&decide (l.2=p.2)))
theorem ju:pk x p l=true↔l.1=x/\l.2<=p.2/\¬(l.1=p.1/\l.2=p.2):=by
 simp only [pk,Bool.and_eq_true,decide_eq_true_eq,Bool.not_eq_true',Bool.and_eq_false_iff,decide_eq_false_iff_not];constructor
 . rintro ⟨h1,h2,h3⟩;exact ⟨h1,h2,fun h=>by rcases h3 with z | z<;>lia⟩
 . rintro ⟨h1,h2,h3⟩;refine ⟨h1,h2,?_⟩;by_cases z:l.1=p.1
   . exact .inr fun w=>h3 ⟨z,w⟩
   . exact .inl z
def ends (x:Int) (p:P2) (ls:List P2):List Int:=(ls.filter (pk x p)).map (·.2)
theorem mem_ends:y∈ends x p ls↔(x,y)∈ls/\y<=p.2/\¬(x=p.1/\y=p.2):=by
 simp only [ends,List.mem_map,List.mem_filter,ju];constructor
 . rintro ⟨⟨a,b⟩,⟨h1,h2,h3,h4⟩,rfl⟩;simp only at h2 h3 h4 ⊢;subst h2;exact ⟨h1,h3,h4⟩
 . rintro ⟨h1,h2,h3⟩;exact ⟨(x,y),⟨h1,rfl,h2,h3⟩,rfl⟩
section
variable {n:Int} {ls ls':List P2} {T:List P3} {a b c:Int}
theorem CInv.beh1 (I:CInv n ls T) (p:ls'.Perm ls) (h:(a,c,b)∈T):mxD (a+1) (ends a (a,b) ls')=c:=by
 obtain ⟨g1,g2,g3,g4,g5,g6⟩:=I.tri a c b h;have key:∀y∈ends a (a,b) ls',y<=c:=fun y hy=>by
  obtain ⟨m1,m2,m3⟩:=mem_ends.mp hy;have m1:=p.mem_iff.mp m1;simp only at m2 m3;have:¬y=b:=fun z=>m3 (by simpa using z)
  rcases g6 with g6 | g6
  . have:=I.nc a y c b m1 g6;lia
  . lia
 refine Py key ?_;rcases g5 with g5 | g5
 . left;exact mem_ends.mpr ⟨p.mem_iff.mpr g5,by simp only;lia,by simp only;lia⟩
 . by_cases z:ends a (a,b) ls'=[]
   . exact .inr ⟨z,by lia⟩
   . obtain ⟨y,hy⟩:=List.exists_mem_of_ne_nil _ z;have:=key y hy;obtain ⟨m1,m2,m3⟩:=mem_ends.mp hy;have:=I.lin a y (p.mem_iff.mp m1);lia
def thr (T:List P3) (p:P2):P3:=(T.find? fun t=>decide (outer t=p)).getD (0,0,0)
theorem Pq (h:p∈T.map outer):thr T p∈T/\outer (thr T p)=p:=by
 obtain ⟨t,ht,e⟩:=List.mem_map.mp h;unfold thr;cases hf:T.find? fun t=>decide (outer t=p) with
 | none=>
  have:=List.find?_eq_none.mp hf t ht
  simp [e] at this
 | some u=>
  have h1:=List.mem_of_find?_eq_some hf
  have h2:=List.find?_some hf
  exact ⟨h1,by simpa using h2⟩
theorem CInv.thr_outer (I:CInv n ls T) (h:t∈T):thr T (outer t)=t:=by obtain ⟨h1,h2⟩:=Pq (T:=T) (List.mem_map.mpr ⟨t,h,rfl⟩);obtain ⟨a,c,b⟩:=t;generalize thr T (outer (a,c,b))=u at h1 h2;obtain ⟨a',c',b'⟩:=u;simp only [outer,Prod.mk.injEq] at h2;obtain ⟨rfl,rfl⟩:=h2;have e1:=I.beh1 (.refl _) h1;have e2:=I.beh1 (.refl _) h;rw [e1] at e2;rw [e2]
theorem CInv.top_in (I:CInv n ls T) (p:ls'.Perm ls) (h:q∈(0,n - 1)::ls'):thr T q∈T/\outer (thr T q)=q:=
 Pq ((((p.cons _).trans I.prm.symm).mem_iff).mp h)
theorem CInv.len (I:CInv n ls T):T.length=ls.length+1:=by have:=I.prm.length_eq;simpa using this
end
def bth (x y:Int) (t:P3):Bool:=(decide (x=t.1)||(decide (x=t.2.1)||decide (x=t.2.2)))&&(decide (y=t.1)||(decide (y=t.2.1)||decide (y=t.2.2)))
theorem bth_iff:bth x y (a,c,b)=true↔(x=a\/x=c\/x=b)/\(y=a\/y=c\/y=b):=by simp only [bth,Bool.and_eq_true,Bool.or_eq_true,decide_eq_true_eq]
open Classical in
noncomputable def ee (n:Int) (ls:List P2) (x y:Int):Nat:=(if (x,y)∈ls then 2 else 0)+(if y=x+1/\0<=x/\y<=n - 1 then 1 else 0)+(if x=0/\y=n - 1 then 1 else 0)
def Cnt (n:Int) (ls:List P2) (T:List P3):Prop:=∀x y,x<y->(T.filter (bth x y)).length=ee n ls x y
end Cu
namespace Cu
structure Lns (n:Int) (ls:List P2):Prop where
 n3:3<=n
 lin:∀a b,(a,b)∈ls->0<=a/\a+2<=b/\b<=n - 1/\¬(a=0/\b=n - 1)
 nc:∀a b c d,(a,b)∈ls->(c,d)∈ls->¬(a<c/\c<b/\b<d)
 nd:ls.Nodup
structure Nx (t:P2) (ls:List P2) (nx:Int->Int):Prop where
 up:∀c,c<t.2->c<nx c/\nx c<=t.2
 or:∀c,c<t.2->((c,nx c)∈ls/\(c,nx c)≠t)\/nx c=c+1
 ge:∀c e,(c,e)∈ls->e<=t.2->(c,e)≠t->e<=nx c
inductive Ch (b:Int) (nx:Int->Int):Int->List Int->List P2->Prop
 | last:Ch b nx b [b] []
 | step {c:Int} {l:List Int} {es:List P2} (h:c<b) (r:Ch b nx (nx c) l es):Ch b nx c (c::l) ((c,nx c)::es)
section
variable {b:Int} {nx:Int->Int} {c:Int} {l:List Int} {es:List P2}
theorem Ch.ge (h:Ch b nx c l es) (hu:∀c,c<b->c<nx c/\nx c<=b):(∀x∈l,c<=x/\x<=b)/\l.Pairwise (·<·)/\c∈l/\b∈l:=by
 induction h with
 | last=>exact ⟨fun x hx=>by simp at hx;lia,by simp,by simp,by simp⟩
 | step h r ih=>
  have u:=hu _ h
  refine ⟨fun x hx=>?_,List.pairwise_cons.mpr ⟨fun x hx=>?_,ih.2.1⟩,by simp,List.mem_cons_of_mem _ ih.2.2.2⟩
  . rcases List.mem_cons.mp hx with rfl | hx
    . lia
    . have:=ih.1 x hx;lia
  . have:=ih.1 x hx;lia
theorem Ch.edge (h:Ch b nx c l es) (hu:∀c,c<b->c<nx c/\nx c<=b):(∀x y,(x,y)∈es↔x∈l/\x<b/\y=nx x)/\es.Nodup:=by
 induction h with
 | last=>exact ⟨fun x y=>by simp;lia,List.nodup_nil⟩
 | @step c l es h r ih=>
  have g:=r.ge hu
  have u:=hu _ h
  refine ⟨fun x y=>?_,List.nodup_cons.mpr ⟨fun hm=>?_,ih.2⟩⟩
  . rw [List.mem_cons,ih.1,List.mem_cons,Prod.mk.injEq];constructor
    . rintro (⟨rfl,rfl⟩ | ⟨h1,h2,h3⟩)
      . exact ⟨.inl rfl,h,rfl⟩
      . exact ⟨.inr h1,h2,h3⟩
    . rintro ⟨rfl | h1,h2,h3⟩
      . exact .inl ⟨rfl,h3⟩
      . exact .inr ⟨h1,h2,h3⟩
  . have:=(ih.1 c _).mp hm;have:=g.1 c this.1
    lia
theorem Ch.le (h:Ch b nx c l es) (hu:∀c,c<b->c<nx c/\nx c<=b):∀x y,x∈l->y∈l->x<y->nx x<=y:=by
 induction h with
 | last=>intro x y hx hy;simp at hx hy;lia
 | @step c l es h r ih=>
  have g:=r.ge hu
  have u:=hu _ h
  intro x y hx hy hl
  rcases List.mem_cons.mp hx with e1 | kx<;>rcases List.mem_cons.mp hy with e2 | ky
  . lia
  . rw [e1];exact (g.1 y ky).1
  . have:=g.1 x kx;lia
  . exact ih x y kx ky hl
theorem Ch.lo (h:Ch b nx c l es):∀z,c<=z->z<=b->∃p,p∈l/\p<=z/\(z=p\/(p<b/\z<nx p)):=by
 induction h with
 | last=>intro z h1 h2;exact ⟨b,by simp,by lia,.inl (by lia)⟩
 | @step c l es h r ih=>
  intro z h1 h2
  by_cases q:z<nx c
  . exact ⟨c,by simp,h1,.inr ⟨h,q⟩⟩
  . obtain ⟨p,p1,p2,p3⟩:=ih z (by lia) h2;exact ⟨p,List.mem_cons_of_mem _ p1,p2,p3⟩
theorem Ch.ends (h:Ch b nx c l es):(∃m,l=m++[b])/\∃m,l=c::m:=by
 induction h with
 | last=>exact ⟨⟨[],rfl⟩,[],rfl⟩
 | @step c l es h r ih=>obtain ⟨⟨m,e⟩,_⟩:=ih;exact ⟨⟨c::m,by rw [e];rfl⟩,l,rfl⟩
theorem Ch.zip (h:Ch b nx c l es):es=l.zip l.tail:=by
 induction h with
 | last=>rfl
 | @step c l es h r ih=>
  obtain ⟨m,e⟩:=r.ends.2
  rw [ih,e];rfl
theorem Ch.ex (hu:∀c,c<b->c<nx c/\nx c<=b):∀(k:Nat) (c:Int),c<=b->(b - c).toNat<=k->∃l es,Ch b nx c l es
 | 0,c,h,hk=>by
  have:c=b:=by lia
  subst this;exact ⟨_,_,.last⟩
 | k+1,c,h,hk=>by
  by_cases q:c<b
  . have u:=hu c q;obtain ⟨l,es,r⟩:=Ch.ex hu k (nx c) u.2 (by lia);exact ⟨_,_,.step q r⟩
  . have:c=b:=by lia
    subst this;exact ⟨_,_,.last⟩
theorem Ch.len (h:Ch b nx c l es) (hu:∀c,c<b->c<nx c/\nx c<=b):(l.length:Int)<=b - c+1:=by
 induction h with
 | last=>simp
 | @step c l es h r ih=>have u:=hu _ h;simp;lia
end
section
variable {n:Int} {ls:List P2}
def v6 (n:Int) (ls:List P2) (t:P2):Prop:=t=(0,n - 1)\/t∈ls
theorem Lns.top (I:Lns n ls) (h:v6 n ls (a,b)):0<=a/\a+2<=b/\b<=n - 1:=by
 have:=I.n3;rcases h with h | h
 . cases h;lia
 . have:=I.lin a b h;lia
theorem Lns.tnc (I:Lns n ls) (h:v6 n ls (a,b)) (h':v6 n ls (c,d)):¬(a<c/\c<b/\b<d):=by
 have t1:=I.top h;have t2:=I.top h';rcases h with h | h
 . cases h;omega
 rcases h' with h' | h'
 . cases h';omega
 exact I.nc a b c d h h'
def y3l (n:Int) (ls:List P2) (f:P2):Prop:=f∈ls\/(f.2=f.1+1/\0<=f.1/\f.2<=n - 1)
theorem Lns.room (I:Lns n ls) (ht:v6 n ls t) (X:Nx t ls nx) (Z:Ch t.2 nx t.1 C E) :
  3<=C.length/\(∀x∈C,0<=x/\x<=n - 1)/\t∉E/\(∀f∈E,y3l n ls f/\f.1<f.2)/\∀c e,(c,e)∈ls->c∈C->e∈C->(c,e)∈E\/(c,e)=t:=by
 obtain ⟨a,b⟩:=t
 have tt:=I.top ht
 have G:=Z.ge X.up
 have Ed:=Z.edge X.up
 have ua:=X.up a (by simp only;lia)
 simp only at ua
 have na:nx a<b:=by
  rcases X.or a (by simp only;lia) with ⟨o1,o2⟩ | o
  . have:nx a≠b:=fun z=>o2 (by rw [z])
    lia
  . lia
 refine ⟨?_,fun x hx=>?_,fun hm=>?_,fun f hf=>?_,fun c e h hc he=>?_⟩
 . cases Z with
   | last=>lia
   | step h r=>
    rename_i l es
    generalize hx:nx a=x at *
    cases r with
    | last=>lia
    | step h2 r2=>
     obtain ⟨m,e⟩:=r2.ends.2
     rw [e];simp
 . have:=G.1 x hx;simp only at this;lia
 . have:=(Ed.1 a b).mp hm;lia
 . obtain ⟨c,e⟩:=f;obtain ⟨h1,h2,h3⟩:=(Ed.1 c e).mp hf;have u:=X.up c h2;have:=(G.1 c h1).1;simp only at this u h2;refine ⟨?_,by simp only;lia⟩;rcases X.or c h2 with ⟨o1,o2⟩ | o
   . exact .inl (by rw [h3];exact o1)
   . exact .inr ⟨by simp only;lia,by simp only;lia,by simp only;lia⟩
 . by_cases q:(c,e)=(a,b)
   . exact .inr q
   . left;have l:=I.lin c e h;have h1:=G.1 e he;simp only at h1;have g:=X.ge c e h h1.2 q;have k:=Z.le X.up c e hc he (by lia);exact (Ed.1 c e).mpr ⟨hc,by simp only;lia,by lia⟩
variable {N:P2->Int->Int} (hN:∀t,v6 n ls t->Nx t ls (N t))
include hN
end
def e2 (x y a b:Int):Nat:=if x=a/\y=b then 1 else 0
theorem CInv.top_or (I:CInv n ls T) (h:(a,c,b)∈T):(a,b)∈ls\/(a=0/\b=n - 1):=by
 have:(a,b)∈(0,n - 1)::ls:=I.prm.mem_iff.mp (List.mem_map.mpr ⟨(a,c,b),h,rfl⟩);rcases List.mem_cons.mp this with z | z
 . simp only [Prod.mk.injEq] at z;exact .inr z
 . exact .inl z
structure Cut (n:Int) (ls:List P2) (T:List P3):Prop where
 inv:CInv n ls T
 cnt:Cnt n ls T
end Cu
namespace Cu
open L2 (mxD U7)
def nxt (ls:List P2) (t:P2) (c:Int):Int:=mxD (c+1) (ends c t ls)
theorem Hk:(mxD d ys∈ys\/(ys=[]/\mxD d ys=d))/\∀y∈ys,y<=mxD d ys:=by
 cases ys with
 | nil=>exact ⟨.inr ⟨rfl,rfl⟩,fun y hy=>by cases hy⟩
 | cons n ns=>
  obtain ⟨a,b⟩:=U7 ns n
  exact ⟨.inl a,b⟩
theorem Np (I:Lns n ls) (t:P2):Nx t ls (nxt ls t) where
 up:=fun c hc=>by
  unfold nxt;rcases (Hk (d:=c+1) (ys:=ends c t ls)).1 with h | ⟨_,h⟩
  . obtain ⟨m1,m2,m3⟩:=mem_ends.mp h;have:=I.lin _ _ m1;exact ⟨by lia,m2⟩
  . rw [h];lia
 or:=fun c hc=>by
  unfold nxt;rcases (Hk (d:=c+1) (ys:=ends c t ls)).1 with h | ⟨_,h⟩
  . obtain ⟨m1,m2,m3⟩:=mem_ends.mp h;exact .inl ⟨m1,fun z=>m3 ⟨congrArg Prod.fst z,congrArg Prod.snd z⟩⟩
  . exact .inr h
 ge:=fun c e h1 h2 h3=>(Hk (d:=c+1) (ys:=ends c t ls)).2 e (mem_ends.mpr ⟨h1,h2,fun z=>h3 (Prod.ext z.1 z.2)⟩)
end Cu
namespace Cu
theorem Cut.two (K:Cut n ls T) (hl:l∈ls):(T.filter (bth l.1 l.2)).length=2:=by have:=K.inv.lin l.1 l.2 hl;rw [K.cnt l.1 l.2 (by omega)];unfold ee;rw [ξ (show (l.1,l.2)∈ls from hl),ψ (by omega),ψ (by omega)]
theorem CInv.T_nodup (I:CInv n ls T):T.Nodup:=by
 have h:((0,n - 1)::ls).Nodup:=by rw [List.nodup_cons];exact ⟨fun z=>by have:=I.lin _ _ z;omega,I.nd⟩
 have:=I.prm.nodup_iff.mpr h;exact List.Pairwise.of_map outer (fun a b h e=>h (by rw [e])) this
open L2 (so3 To soI wK ltT L Le Z6 y3j qS Dy)
theorem under (I:CInv n ls T) (h:(a,b)=(0,n - 1)\/(a,b)∈ls):∃m,(a,m,b)∈T:=by obtain ⟨t1,t2⟩:=I.top_in (ls':=ls) (.refl _) (q:=(a,b)) (List.mem_cons.mpr h);generalize Cu.thr T (a,b)=u at t1 t2;obtain ⟨x,m,y⟩:=u;simp only [outer,Prod.mk.injEq] at t2;obtain ⟨rfl,rfl⟩:=t2;exact ⟨m,t1⟩
section
variable {n:Int} {ls:List P2} {T:List P3} {p m q r:Int}
theorem above (K:Cut n ls T) (h:(p,q)∈ls):∃m r,(p,m,q)∈T/\((p,q,r)∈T\/(r,p,q)∈T):=by
 obtain ⟨m,hm⟩:=under K.inv (.inr h);have g:=K.inv.tri _ _ _ hm;have two:=K.two h;simp only at two;obtain ⟨u,hu,hne⟩:∃u,u∈T.filter (bth p q)/\u≠(p,m,q):=by
  have hin:(p,m,q)∈T.filter (bth p q):=List.mem_filter.mpr ⟨hm,bth_iff.mpr (by simp)⟩;have nd:(T.filter (bth p q)).Nodup:=K.inv.T_nodup.filter _
  match hf:T.filter (bth p q),two with
  | [x,y],_=>
   rw [hf] at nd hin
   simp only [List.nodup_cons,List.mem_singleton] at nd
   by_cases e:x=(p,m,q)
   . exact ⟨y,by simp,fun z=>nd.1 (by rw [e,z])⟩
   . exact ⟨x,by simp,e⟩
 obtain ⟨huT,hb⟩:=List.mem_filter.mp hu;obtain ⟨x,y,z⟩:=u;have g2:=K.inv.tri _ _ _ huT;have hb:=bth_iff.mp hb;refine ⟨m,?_⟩;rcases hb with ⟨c1,c2⟩;by_cases e1:p=x/\q=y
 . exact ⟨z,hm,.inl (by rw [e1.1,e1.2];exact huT)⟩
 by_cases e2:p=y/\q=z
 . exact ⟨x,hm,.inr (by rw [e2.1,e2.2];exact huT)⟩
 have e3:p=x/\q=z:=by
  have ga:=g.2.1;have gb:=g.2.2.1;have gc:=g2.2.1;have gd:=g2.2.2.1;clear g g2 two hu huT hne;rcases c1 with c1 | c1 | c1<;>rcases c2 with c2 | c2 | c2
  . lia
  . exact absurd ⟨c1,c2⟩ e1
  . exact ⟨c1,c2⟩
  . lia
  . lia
  . exact absurd ⟨c1,c2⟩ e2
  . lia
  . lia
  . lia
 have o1:=K.inv.thr_outer hm;have o2:=K.inv.thr_outer huT;simp only [outer] at o1 o2;rw [<-e3.1,<-e3.2,o1] at o2;exact absurd (by rw [<-e3.1,<-e3.2];exact o2.symm) hne
end
end Cu
namespace Cu
structure Rm (n:Int) (B:List P2) (t:P2) (R:List Int):Prop where
 rise:R.Pairwise (·<·)
 h1:t.1∈R
 h2:t.2∈R
 lo:∀x∈R,t.1<=x/\x<=t.2
 top:t=(0,n - 1)\/t∈B
 rng:0<=t.1/\t.1+2<=t.2/\t.2<=n - 1
 gap:∀z,t.1<=z->z<=t.2->z∉R->∃p q,p∈R/\q∈R/\p<z/\z<q/\(p,q)∈B/\(p,q)≠t/\∀x∈R,x<=p\/q<=x
 nxt:∀p q,p∈R->q∈R->p<q->(∀x∈R,x<=p\/q<=x)->((p,q)∈B/\(p,q)≠t)\/q=p+1
 thr:∃m∈R,t.1<m/\m<t.2
 free:∀c e,(c,e)∈B->(c,e)≠t->t.1<=c->e<=t.2->∀x∈R,x<=c\/e<=x
theorem Rm.of (I:Lns n B) (ht:v6 n B t) (X:Nx t B nx) (Z:Ch t.2 nx t.1 C E):Rm n B t C:=by
 obtain ⟨g1,g2,g3,g4⟩:=Z.ge X.up;have tt:=I.top ht;have rm:=I.room ht X Z;have Ed:=(Z.edge X.up).1;have inC:∀x∈C,x<t.2->nx x∈C:=fun x hx hb=>by
  obtain ⟨p,hp,hp2,hp3⟩:=Z.lo (nx x) (by have:=(g1 x hx).1;have:=(X.up x hb).1;lia) (X.up x hb).2;rcases hp3 with e | ⟨hpb,hlt⟩
  . rw [e];exact hp
  . by_cases c:x<p
    . have:=Z.le X.up x p hx hp c;have:p=nx x:=by lia
      rw [<-this];exact hp
    . have:p<=x:=by lia
      rcases Int.lt_or_eq_of_le this with q | q
      . have:=Z.le X.up p x hp hx q;have:=(X.up x hb).1
        lia
      . rw [q] at hlt;lia
 refine ⟨g2,g3,g4,g1,ht,⟨tt.1,tt.2.1,tt.2.2⟩,fun z z1 z2 hz=>?_,fun p q hp hq hpq hb=>?_,?_,fun c e he hne h1 h2 x hx=>?_⟩
 . obtain ⟨p,hp,hp2,hp3⟩:=Z.lo z z1 z2;rcases hp3 with e | ⟨hpb,hlt⟩
   . exact absurd (e ▸ hp) hz
   . have hne:p≠z:=fun e=>hz (e ▸ hp)
     have u:=X.up p hpb;refine ⟨p,nx p,hp,inC p hp hpb,by lia,hlt,?_,?_,fun x hx=>?_⟩
     . rcases X.or p hpb with h | h
       . exact h.1
       . lia
     . rcases X.or p hpb with h | h
       . exact h.2
       . lia
     . by_cases c:p<x
       . exact .inr (Z.le X.up p x hp hx c)
       . exact .inl (by lia)
 . have hpb:p<t.2:=by have:=(g1 q hq).2;lia
   have h1:=Z.le X.up p q hp hq hpq;have h2:=hb (nx p) (inC p hp hpb);have u:=X.up p hpb;have:nx p=q:=by lia
   rcases X.or p hpb with h | h
   . rw [this] at h;exact .inl h
   . rw [this] at h;exact .inr h
 . have u:=X.up t.1 (by lia);refine ⟨nx t.1,inC t.1 g3 (by lia),u.1,?_⟩;rcases Int.lt_or_eq_of_le u.2 with h | h
   . exact h
   . rcases X.or t.1 (by lia) with z | z
     . exact absurd (by rw [h]) z.2
     . lia
 . have lc:=I.lin c e he;obtain ⟨p,hp,hp2,hp3⟩:=Z.lo c h1 (by lia);have hpb:p<t.2:=by lia
   have hle:e<=nx p:=by
    rcases hp3 with z | ⟨_,z⟩
    . rw [<-z];exact X.ge c e he h2 hne
    . rcases Int.lt_or_eq_of_le hp2 with k | k
      . rcases X.or p hpb with o | o
        . have:=I.nc p (nx p) c e o.1 he;lia
        . lia
      . rw [k];exact X.ge c e he h2 hne
   by_cases k:p<x
   . exact .inr (Int.le_trans hle (Z.le X.up p x hp hx k))
   . exact .inl (by lia)
def ix (R:List Int) (x:Int):Int:=((R.idxOf x:Nat):Int)
section
variable {R:List Int} {x y:Int}
theorem Hj (h:x∈R):R[R.idxOf x]?=some x:=by have hl:=List.idxOf_lt_length_of_mem h;rw [List.getElem?_eq_getElem hl,List.getElem_idxOf hl]
theorem Y1 (h:x∈R):0<=ix R x/\ix R x<R.length:=by have:=List.idxOf_lt_length_of_mem h;unfold ix;lia
theorem Ri (hr:R.Pairwise (·<·)) {i j:Nat} (hi:R[i]?=some x) (hj:R[j]?=some y):(i<j↔x<y)/\(i=j↔x=y):=by
 have li:i<R.length:=by apply Classical.byContradiction;intro z;rw [List.getElem?_eq_none (by lia)] at hi;cases hi
 have lj:j<R.length:=by apply Classical.byContradiction;intro z;rw [List.getElem?_eq_none (by lia)] at hj;cases hj
 rw [List.getElem?_eq_getElem li] at hi;rw [List.getElem?_eq_getElem lj] at hj;cases hi;cases hj;have P:=List.pairwise_iff_getElem.mp hr;rcases Nat.lt_trichotomy i j with c | c | c
 . have:=P i j li lj c;lia
 . subst c;lia
 . have:=P j i lj li c;lia
theorem M2 (hr:R.Pairwise (·<·)) (hx:x∈R) (hy:y∈R):(ix R x<ix R y↔x<y)/\(ix R x=ix R y↔x=y):=by have:=Ri hr (Hj hx) (Hj hy);unfold ix;lia
theorem Fz (hr:R.Pairwise (·<·)) {i:Nat} (h:R[i]?=some x):ix R x=i:=by have hx:=List.mem_of_getElem? h;have:=(Ri hr (Hj hx) h).2.mpr rfl;unfold ix;lia
theorem jt (hr:R.Pairwise (·<·)) (hx:x∈R) (hy:y∈R):(∃z∈R,x<z/\z<y)↔ix R x+1<ix R y:=by
 constructor
 . rintro ⟨z,hz,h1,h2⟩;have:=(M2 hr hx hz).1.mpr h1;have:=(M2 hr hz hy).1.mpr h2;omega
 . intro h;have by':=Y1 hy;have hi:(ix R x).toNat+1<R.length:=by have:=Y1 hx;omega
   have hz:R[(ix R x).toNat+1]?=some R[(ix R x).toNat+1]:=List.getElem?_eq_getElem hi;have e:=Fz hr hz;have bx:=Y1 hx;refine ⟨R[(ix R x).toNat+1],List.getElem_mem hi,(M2 hr hx (List.getElem_mem hi)).1.mp ?_,(M2 hr (List.getElem_mem hi) hy).1.mp ?_⟩<;>omega
end
theorem Rm.ix0 (M:Rm n B t R):ix R t.1=0/\ix R t.2=R.length - 1:=by
 have b1:=Y1 M.h1;have b2:=Y1 M.h2;have hl:0<R.length:=by omega
 constructor
 . have h0:R[0]?=some R[0]:=List.getElem?_eq_getElem hl;have e:=Fz M.rise h0;have:=(M2 M.rise (List.getElem_mem hl) M.h1).1;have:=M.lo _ (List.getElem_mem hl);omega
 . have hz:R.length - 1<R.length:=by omega
   have h0:R[R.length - 1]?=some R[R.length - 1]:=List.getElem?_eq_getElem hz;have e:=Fz M.rise h0;have:=(M2 M.rise M.h2 (List.getElem_mem hz)).1;have:=M.lo _ (List.getElem_mem hz);omega
theorem Rm.ge3 (M:Rm n B t R):3<=R.length:=by
 have z:=M.ix0;have:=(jt M.rise M.h1 M.h2).mp M.thr
 lia
def t8 (r:Int) (p:P2):Bool:=decide (0<=p.1/\p.1<p.2/\p.2<r/\¬(p.2=p.1+1\/(p.1=0/\p.2=r - 1)))
def ptA (R:List Int) (ls:List P2):List P2:=(ls.filter fun p=>decide (p.1∈R)&&decide (p.2∈R)).map fun p=>(ix R p.1,ix R p.2)
def ptL (R:List Int) (ls:List P2):List P2:=(ptA R ls).filter (t8 R.length)
section
variable {n:Int} {ls B:List P2} {t:P2} {R:List Int}
theorem Pp:∀{l:List α},l.Nodup->(∀x∈l,∀y∈l,f x=f y->x=y)->(l.map f).Nodup
 | [],_,_=>List.nodup_nil
 | x::l,h,hi=>by rw [List.nodup_cons] at h;rw [List.map_cons,List.nodup_cons];refine ⟨fun hm=>?_,Pp h.2 fun a ha b hb=>hi a (List.mem_cons_of_mem _ ha) b (List.mem_cons_of_mem _ hb)⟩;obtain ⟨y,hy,e⟩:=List.mem_map.mp hm;have:=hi y (List.mem_cons_of_mem _ hy) x List.mem_cons_self e;exact h.1 (this ▸ hy)
theorem Rm.nd (M:Rm n B t R) (h:ls.Nodup):(ptL R ls).Nodup:=by unfold ptL ptA;refine (Pp (h.filter _) fun p hp q hq e=>?_).filter _;simp only [List.mem_filter,Bool.and_eq_true,decide_eq_true_eq] at hp hq;simp only [Prod.mk.injEq] at e;exact Prod.ext ((M2 M.rise hp.2.1 hq.2.1).2.mp e.1) ((M2 M.rise hp.2.2 hq.2.2).2.mp e.2)
end
structure Mo (n r:Int) (g:Int->Int):Prop where
 r3:3<=r
 mo:∀x y,x<=y->g x<=g y
 g0:g 0=0
 gn:g (n - 1)=r - 1
 st:∀x,g (x+1)<=g x+1
def dd:List P2->List P2
 | []=>[]
 | x::l=>if x∈l then dd l else x::dd l
theorem ln_iff:t8 r (i,j)=true↔0<=i/\i+2<=j/\j<r/\¬(i=0/\j=r - 1):=by unfold t8;rw [decide_eq_true_eq];simp only;omega
section
variable {n r:Int} {g:Int->Int} {vs:List P2} {T:List P3}
theorem Mo.lt (G:Mo n r g) (h:g x<g y):x<y:=by
 apply Classical.byContradiction;intro z;have:=G.mo y x (by lia)
 lia
theorem CInv.nce (I:CInv n vs T) (hx:(x,y)∈vs\/(x=0/\y=n - 1)) (hu:(u,v)∈vs\/v=u+1) (h0:0<=u) (h1:v<=n - 1):¬(x<u/\u<y/\y<v)/\¬(u<x/\x<v/\v<y):=by
 rcases hu with hu | rfl
 . rcases hx with hx | ⟨rfl,rfl⟩
   . exact ⟨I.nc x y u v hx hu,I.nc u v x y hu hx⟩
   . exact ⟨fun z=>Int.not_lt.mpr h1 z.2.2,fun z=>Int.not_lt.mpr h0 z.1⟩
 . exact ⟨fun ⟨_,a,b⟩=>by lia,fun ⟨a,b,_⟩=>by lia⟩
theorem Mo.two (G:Mo n r g) (I:CInv n vs T) (h:(a,m,b)∈T) (h':(a',m',b')∈T) (k1:g a<g m) (k2:g m<g b) (k1':g a'<g m') (k2':g m'<g b') (e1:g a=g a') (e2:g b=g b'):a=a'/\b=b':=by obtain ⟨t1,t2,t3,t4,t5,t6⟩:=I.tri a m b h;obtain ⟨u1,u2,u3,u4,u5,u6⟩:=I.tri a' m' b' h';have o:=I.top_or h;have o':=I.top_or h';have l3:a<m':=G.lt (by rw [e1];exact k1');have l4:m'<b:=G.lt (by rw [e2];exact k2');have l5:a'<m:=G.lt (by rw [<-e1];exact k1);have l6:m<b':=G.lt (by rw [<-e2];exact k2);have d1:=I.nce o u5 u1 (Int.le_trans (Int.le_of_lt u3) u4);have d2:=I.nce o u6 (Int.le_of_lt (Int.lt_of_le_of_lt u1 u2)) u4;have d3:=I.nce o' t5 t1 (Int.le_trans (Int.le_of_lt t3) t4);have d4:=I.nce o' t6 (Int.le_of_lt (Int.lt_of_le_of_lt t1 t2)) t4;exact ⟨Int.le_antisymm (Int.not_lt.mp fun z=>d1.2 ⟨z,l3,l4⟩) (Int.not_lt.mp fun z=>d3.2 ⟨z,l5,l6⟩),Int.le_antisymm (Int.not_lt.mp fun z=>d4.1 ⟨l5,l6,z⟩) (Int.not_lt.mp fun z=>d2.1 ⟨l3,l4,z⟩)⟩
end
def x9 (R:List Int) (x:Int):Nat:=(R.filter fun y=>decide (y<=x)).length
def gR (R:List Int) (x:Int):Int:=if x9 R x=0 then 0 else (x9 R x:Int) - 1
theorem P0:∀{R:List Int},R.Pairwise (·<·)->∀{j:Nat} (h:j<R.length),(R[j]<=x↔j<x9 R x)
 | y::R,hr,j,h=>by
  rw [List.pairwise_cons] at hr;unfold x9;by_cases c:y<=x
  . rw [List.filter_cons_of_pos (by simpa using c),List.length_cons];cases j with
    | zero=>exact ⟨fun _=>Nat.succ_pos _,fun _=>c⟩
    | succ j=>
     have:=P0 (x:=x) hr.2 (j:=j) (by simpa using h)
     unfold x9 at this
     rw [List.getElem_cons_succ,this]
     lia
  . have z:R.filter (fun y=>decide (y<=x))=[]:=List.filter_eq_nil_iff.mpr fun a ha=>by
     have:=hr.1 a ha
     simp only [decide_eq_true_eq];lia
    rw [List.filter_cons_of_neg (by simpa using c),z,List.length_nil]
    constructor
    . intro k;cases j with
      | zero=>exact absurd k c
      | succ j=>
       rw [List.getElem_cons_succ] at k
       have:=hr.1 _ (List.getElem_mem (by simpa using h:j<R.length))
       lia
    . intro k;lia
theorem Dh (R:List Int) (x:Int):x9 R x<=R.length:=List.length_filter_le _ _
theorem Tn (hr:R.Pairwise (·<·)) (h:x<=y):x9 R x<=x9 R y:=by
 apply Classical.byContradiction;intro z;have hl:x9 R y<R.length:=by have:=Dh R x;lia
 have h1:=(P0 (x:=x) hr hl).mpr (by lia);have h2:=(P0 (x:=y) hr hl).mp (by lia)
 lia
theorem wD (hr:R.Pairwise (·<·)) (x:Int):x9 R (x+1)<=x9 R x+1:=by
 apply Classical.byContradiction;intro z;have l1:x9 R x<R.length:=by have:=Dh R (x+1);lia
 have l2:x9 R x+1<R.length:=by have:=Dh R (x+1);lia
 have h1:¬R[x9 R x]<=x:=fun k=>by have:=(P0 (x:=x) hr l1).mp k;lia
 have h2:=(P0 (x:=x+1) hr l2).mpr (by lia);have:=List.pairwise_iff_getElem.mp hr _ _ l1 l2 (by lia)
 lia
section
variable {n:Int} {B:List P2} {t:P2} {R:List Int}
theorem Rm.mo (M:Rm n B t R):Mo n R.length (gR R) where
 r3:=by have:=M.ge3;lia
 mo:=fun x y h=>by have:=Tn M.rise h;unfold gR;split<;>split<;>lia
 g0:=by
  have h0:0<R.length:=by have:=M.ge3;lia
  have h1:1<R.length:=by have:=M.ge3;lia
  have:x9 R 0<=1:=by
   apply Classical.byContradiction;intro z;have a:=(P0 (x:=0) M.rise h1).mpr (by lia);have b:=List.pairwise_iff_getElem.mp M.rise 0 1 h0 h1 (by lia);have:=(M.lo _ (List.getElem_mem h0)).1;have:=M.rng
   lia
  unfold gR;split<;>lia
 gn:=by
  have h1:R.length - 1<R.length:=by have:=M.ge3;lia
  have:=(P0 (x:=n - 1) M.rise h1).mp (by have:=(M.lo _ (List.getElem_mem h1)).2;have:=M.rng;lia);have:=Dh R (n - 1);unfold gR;rw [ψ (by lia)]
  lia
 st:=fun x=>by have:=wD M.rise x;have:=Tn M.rise (show x<=x+1 by lia);unfold gR;split<;>split<;>lia
end
def wi (ls:List P2) (a b:Int):Nat:=(ls.filter fun p=>decide (a<=p.1)&&decide (p.2<=b)).length
section
variable {n:Int} {ls:List P2} {T:List P3}
theorem Po (a m b:Int):∀l:List P2,(∀p∈l,(decide (a<=p.1)&&decide (p.2<=b))=true↔(p=(a,b)\/(a<=p.1/\p.2<=m)\/(m<=p.1/\p.2<=b)))->(∀p∈l,p.1<p.2)->a<m->m<b->wi l a b=l.count (a,b)+wi l a m+wi l m b
 | [],_,_,_,_=>rfl
 | p::l,h,hl,h1,h2=>by
  have ih:=Po a m b l (fun q hq=>h q (List.mem_cons_of_mem _ hq)) (fun q hq=>hl q (List.mem_cons_of_mem _ hq)) h1 h2;have hp:=h p List.mem_cons_self;have lp:=hl p List.mem_cons_self;have e:∀x y,wi (p::l) x y=(if x<=p.1/\p.2<=y then 1 else 0)+wi l x y:=fun x y=>by
   unfold wi;by_cases k:x<=p.1/\p.2<=y
   . rw [List.filter_cons_of_pos (by simp [k.1,k.2]),List.length_cons,ξ k];lia
   . rw [List.filter_cons_of_neg (by simpa using k),ψ k];lia
  rw [e,e,e,ih,List.count_cons];obtain ⟨x,y⟩:=p;simp only [Bool.and_eq_true,decide_eq_true_eq,Prod.mk.injEq] at hp lp ⊢;simp only [beq_iff_eq,Prod.mk.injEq];clear e ih h hl;generalize wi l a m=u;generalize wi l m b=v;generalize List.count (a,b) l=w;by_cases k:a<=x/\y<=b
  . rw [ξ k];rcases hp.mp k with z | z | z<;>clear hp k
    . rw [ξ z,ψ (fun k=>by have:=k.2;lia),ψ (fun k=>by have:=k.1;lia)];lia
    . rw [ψ (fun k=>by have:=k.2;have:=z.2;lia),ξ z,ψ (fun k=>by have:=k.1;have:=z.2;lia)];lia
    . rw [ψ (fun k=>by have:=k.1;have:=z.1;lia),ψ (fun k=>by have:=k.2;have:=z.1;lia),ξ z];lia
  . rw [ψ k,ψ fun z=>k (hp.mpr (.inl z)),ψ fun z=>k (hp.mpr (.inr (.inl z))),ψ fun z=>k (hp.mpr (.inr (.inr z)))];clear hp k;lia
theorem CInv.wi_tri (I:CInv n ls T) (h:(a,m,b)∈T):wi ls a b=ls.count (a,b)+wi ls a m+wi ls m b:=by
 obtain ⟨g1,g2,g3,g4,g5,g6⟩:=I.tri a m b h;refine Po a m b ls (fun p hp=>?_) (fun p hp=>by have:=I.lin p.1 p.2 hp;omega) g2 g3;obtain ⟨x,y⟩:=p;have l:=I.lin x y hp;have k1:¬(a<x/\x<m/\m<y):=by
  rcases g5 with z | z
  . exact I.nc a m x y z hp
  . omega
 have k2:¬(x<m/\m<y/\y<b):=by
  rcases g6 with z | z
  . exact I.nc x y m b hp z
  . omega
 simp only [Bool.and_eq_true,decide_eq_true_eq,Prod.mk.injEq];omega
theorem CInv.wi_edge (I:CInv n ls T):∀(k:Nat) (a b:Int),(b - a).toNat<=k->0<=a->b<=n - 1->((a,b)∈ls\/b=a+1)->(wi ls a b:Int)=b - a - 1
 | 0,a,b,hk,h0,h1,h=>by
  rcases h with h | h
  . have:=I.lin a b h;lia
  . lia
 | k+1,a,b,hk,h0,h1,h=>by
  rcases h with h | h
  . obtain ⟨m,hm⟩:=under I (.inr h);have g:=I.tri a m b hm;have e:=I.wi_tri hm;have e1:=CInv.wi_edge I k a m (by lia) h0 (by lia) g.2.2.2.2.1;have e2:=CInv.wi_edge I k m b (by lia) (by lia) h1 g.2.2.2.2.2;have c1:ls.count (a,b)<=1:=List.nodup_iff_count.mp I.nd _;have c2:0<ls.count (a,b):=List.count_pos_iff.mpr h
    lia
  . subst h;have:wi ls a (a+1)=0:=by
     unfold wi;rw [List.length_eq_zero_iff,List.filter_eq_nil_iff];intro p hp;have:=I.lin p.1 p.2 hp;simp only [Bool.and_eq_true,decide_eq_true_eq]
     lia
    lia
theorem CInv.num (I:CInv n ls T):(ls.length:Int)+3=n:=by
 have h3:=I.n3;obtain ⟨m,hm⟩:=under I (a:=0) (b:=n - 1) (.inl rfl);have g:=I.tri 0 m (n - 1) hm;have e:=I.wi_tri hm;have e1:=I.wi_edge (m - 0).toNat 0 m (ζ _) (by omega) (by omega) g.2.2.2.2.1;have e2:=I.wi_edge (n - 1 - m).toNat m (n - 1) (ζ _) (by omega) (by omega) g.2.2.2.2.2;have c:ls.count (0,n - 1)=0:=List.count_eq_zero.mpr fun z=>by have:=I.lin _ _ z;omega
 have w:wi ls 0 (n - 1)=ls.length:=by unfold wi;rw [List.filter_eq_self.mpr];intro p hp;have:=I.lin p.1 p.2 hp;simp only [Bool.and_eq_true,decide_eq_true_eq];omega
 omega
end
section
variable {n:Int} {ls:List P2} {t:P2} {R:List Int}
theorem Rm.three (I:Lns n ls) (M:Rm n ls t R) (h:R.length<=3):∃m,R=[t.1,m,t.2]/\t.1<m/\m<t.2/\((t.1,m)∈ls\/m=t.1+1)/\((m,t.2)∈ls\/t.2=m+1):=by
 obtain ⟨m,hm,m1,m2⟩:=M.thr;have rise:=M.rise;have a1:=M.h1;have a2:=M.h2;have e:R=[t.1,m,t.2]:=by
  match R,h with
  | [],_=>cases hm
  | [x],_=>simp only [List.mem_singleton] at hm a1;omega
  | [x,y],_=>
   simp only [List.pairwise_cons,List.mem_cons,List.not_mem_nil,or_false] at rise hm a1 a2
   omega
  | [x,y,z],_=>
   simp only [List.pairwise_cons,List.mem_cons,List.not_mem_nil,or_false,forall_eq_or_imp,forall_eq] at rise hm a1 a2
   have hx:x=t.1/\y=m/\z=t.2:=by omega
   rw [hx.1,hx.2.1,hx.2.2]
 have i1:∀x∈R,x<=t.1\/m<=x:=fun x hx=>by rw [e] at hx;simp only [List.mem_cons,List.not_mem_nil,or_false] at hx;omega
 have i2:∀x∈R,x<=m\/t.2<=x:=fun x hx=>by rw [e] at hx;simp only [List.mem_cons,List.not_mem_nil,or_false] at hx;omega
 exact ⟨m,e,m1,m2,(M.nxt t.1 m a1 hm m1 i1).imp (·.1) id,(M.nxt m t.2 hm a2 m2 i2).imp (·.1) id⟩
theorem qE (I:Lns n ls) {C:P2->List Int} (hC:∀t,v6 n ls t->Rm n ls t (C t)) (hl:(ls.length:Int)+3<n):∃t,v6 n ls t/\3<(C t).length:=by
 apply Classical.byContradiction;intro hno;have all:∀t,v6 n ls t->∃m,C t=[t.1,m,t.2]/\t.1<m/\m<t.2/\((t.1,m)∈ls\/m=t.1+1)/\((m,t.2)∈ls\/t.2=m+1):=fun t ht=>
  (hC t ht).three I (Nat.le_of_not_lt fun z=>hno ⟨t,ht,z⟩)
 have at1:∀t,v6 n ls t->t.1<(C t).getD 1 0/\(C t).getD 1 0<t.2/\((t.1,(C t).getD 1 0)∈ls\/(C t).getD 1 0=t.1+1)/\(((C t).getD 1 0,t.2)∈ls\/t.2=(C t).getD 1 0+1):=fun t ht=>by obtain ⟨m,e,h⟩:=all t ht;rw [e];exact h
 have J:CInv n ls (((0,n - 1)::ls).map fun t=>(t.1,(C t).getD 1 0,t.2)):=by
  refine ⟨I.n3,fun a c b h=>?_,I.lin,I.nc,I.nd,?_⟩
  . obtain ⟨t,ht,e⟩:=List.mem_map.mp h;simp only [Prod.mk.injEq] at e;obtain ⟨rfl,rfl,rfl⟩:=e;have tp:v6 n ls t:=List.mem_cons.mp ht;have g:=at1 t tp;have r:=(hC t tp).rng;exact ⟨r.1,g.1,g.2.1,r.2.2,g.2.2.1,g.2.2.2⟩
  . rw [List.map_map];exact .of_eq (List.map_id _)
 have:=J.num;omega
theorem qC (I:Lns n ls) (M:Rm n ls t R) (e:R=r0::r1::r2::rest) (h:rest≠[]) :
  0<=r0/\r0+2<=r2/\r2<=n - 1/\¬(r0=0/\r2=n - 1)/\∀a b,(a,b)∈ls->¬(a=r0/\b=r2)/\¬(a<r0/\r0<b/\b<r2)/\¬(r0<a/\a<r2/\r2<b):=by
 have rise:=M.rise
 have rg:=M.rng
 rw [e] at rise
 simp only [List.pairwise_cons,List.mem_cons,forall_eq_or_imp] at rise
 have k0:=M.lo r0 (by rw [e];simp)
 have k1:r1∈R:=by rw [e];simp
 have k2:r2∈R:=by rw [e];simp
 have e0:r0=t.1:=by
  have:=M.h1;rw [e] at this;rcases List.mem_cons.mp this with z | z
  . exact z.symm
  . have:r0<t.1:=by
     rcases List.mem_cons.mp z with z | z
     . rw [z];exact rise.1.1
     . rcases List.mem_cons.mp z with z | z
       . rw [z];exact rise.1.2.1
       . exact rise.1.2.2 _ z
    omega
 obtain ⟨r3,rest',e3⟩:∃x l,rest=x::l:=by cases rest with
  | nil=>exact absurd rfl h
  | cons x l=>exact ⟨x,l,rfl⟩
 have h23:r2<r3:=rise.2.2.1 r3 (by rw [e3];simp)
 have k3:=M.lo r3 (by rw [e,e3];simp)
 have h01:=rise.1.1
 have h12:=rise.2.1.1
 refine ⟨by omega,by omega,by omega,by omega,fun a b hab=>?_⟩
 have la:=I.lin a b hab
 have c1:=I.tnc (a:=t.1) (b:=t.2) (c:=a) (d:=b) M.top (.inr hab)
 have c2:=I.tnc (a:=a) (b:=b) (c:=t.1) (d:=t.2) (.inr hab) M.top
 by_cases hin:t.1<=a/\b<=t.2
 . by_cases ht:(a,b)=t
   . have e1:a=t.1:=by rw [<-ht]
     have e2:b=t.2:=by rw [<-ht]
     omega
   . have f1:=M.free a b hab ht hin.1 hin.2 r1 k1;have f2:=M.free a b hab ht hin.1 hin.2 r2 k2;omega
 . omega
end
end Cu
namespace Bd
abbrev Vc:=Int×Int
def dt (u v:Vc):Int:=u.1 * v.2 - u.2 * v.1
theorem qB (a:Vc):dt a a=0:=by simp only [dt];grind
def ng (u:Vc):Vc:=(-u.1,-u.2)
theorem y15 (a c:Vc):dt c a=- dt a c:=by simp only [dt];grind
structure Fr (n:Nat) (R:Nat->Int) (v:Nat->Vc):Prop where
 per:∀k,v (k+n)=ng (v k)
 ini:dt (v 0) (v 1)=1
 rc1:∀k,(v (k+2)).1=R ((k+1) % n) * (v (k+1)).1 - (v k).1
 rc2:∀k,(v (k+2)).2=R ((k+1) % n) * (v (k+1)).2 - (v k).2
 pos:∀i j,i<j->j<i+n->0<dt (v i) (v j)
variable {n:Nat} {R:Nat->Int} {v:Nat->Vc}
theorem Fr.rc (F:Fr n R v) (u:Vc) (k:Nat) :
  dt u (v (k+2))=R ((k+1) % n) * dt u (v (k+1)) - dt u (v k):=by
 simp only [dt,F.rc1 k,F.rc2 k];grind
theorem Fr.one (F:Fr n R v):∀k,dt (v k) (v (k+1))=1
 | 0=>F.ini
 | k+1=>by have h:=F.rc (v (k+1)) k;rw [h,qB,y15 (v k),F.one k];grind
def gR (n c:Nat) (R:Nat->Int) (k:Nat):Int:=
 if k=c+1 then 1 else
 let o:=if k<=c then k else k - 1
 R o+(if o=c then 1 else 0)+(if o=(c+1) % n then 1 else 0)
theorem sm (q n:Nat):(q+1) * n=q * n+n:=Nat.succ_mul q n
def lin (x:Int) (b a:Vc):Vc:=(x * b.1 - a.1,x * b.2 - a.2)
def v3 (k:Nat):Vc:=if k % 6=0 then (1,0) else if k % 6=1 then (0,1) else if k % 6=2 then (-1,1)
 else if k % 6=3 then (-1,0) else if k % 6=4 then (0,-1) else (1,-1)
theorem y3m (k:Nat):k % 6=0\/k % 6=1\/k % 6=2\/k % 6=3\/k % 6=4\/k % 6=5:=by
 have h:k % 6<6:=Nat.mod_lt _ (by decide)
 revert h
 generalize k % 6=m;intro h;rcases m with _ | _ | _ | _ | _ | _ | m
 . exact .inl rfl
 . exact .inr (.inl rfl)
 . exact .inr (.inr (.inl rfl))
 . exact .inr (.inr (.inr (.inl rfl)))
 . exact .inr (.inr (.inr (.inr (.inl rfl))))
 . exact .inr (.inr (.inr (.inr (.inr rfl))))
 . exact absurd h (Nat.not_lt_of_le (Nat.le_add_left 6 m))
theorem fr3:Fr 3 (fun _=>1) v3:=by
 have key:∀k,v3 k=v3 (k % 6):=fun k=>by simp only [v3,Nat.mod_mod]
 have ks:∀k a,v3 (k+a)=v3 ((k % 6+a) % 6):=fun k a=>by rw [key (k+a)];congr 1;lia
 have six:=y3m;refine ⟨fun k=>?_,rfl,fun k=>?_,fun k=>?_,fun i j h h2=>?_⟩
 . rw [ks k 3,key k];rcases six k with e | e | e | e | e | e<;>rw [e]<;>rfl
 . rw [ks k 2,ks k 1,key k];rcases six k with e | e | e | e | e | e<;>rw [e]<;>rfl
 . rw [ks k 2,ks k 1,key k];rcases six k with e | e | e | e | e | e<;>rw [e]<;>rfl
 . obtain rfl | rfl:j=i+1\/j=i+2:=by lia
   . rw [ks i 1,key i];rcases six i with e | e | e | e | e | e<;>rw [e]<;>decide
   . rw [ks i 2,key i];rcases six i with e | e | e | e | e | e<;>rw [e]<;>decide
def Y0 (row:List Int) (c:Nat):List Int:=
 let m1:=row.set c (row.getD c 0+1)
 let m2:=m1.set ((c+1) % row.length) (m1.getD ((c+1) % row.length) 0+1)
 m2.take (c+1)++1::m2.drop (c+1)
theorem xQ (row:List Int) (c:Nat) (hc:c<row.length):(Y0 row c).length=row.length+1:=by simp only [Y0,θ,List.length_take,List.length_set,List.length_cons,List.length_drop];lia
theorem Lb (l:List Int) (i j:Nat) (x:Int) (hi:i<l.length):(l.set i x).getD j 0=if j=i then x else l.getD j 0:=by
 rw [List.getD_eq_getElem?_getD,List.getElem?_set,List.getD_eq_getElem?_getD];by_cases e:i=j
 . subst e;simp [hi]
 . rw [ψ e,ψ (Ne.symm e)]
theorem wC (row:List Int) (c k:Nat) (hc:c<row.length) (hn:2<=row.length) (hk:k<row.length+1) :
  (Y0 row c).getD k 0=gR row.length c (fun k=>row.getD k 0) k:=by
 have hm:(c+1) % row.length<row.length:=Nat.mod_lt _ (by lia)
 have hne:(c+1) % row.length≠c:=by
  by_cases z:c+1=row.length
  . rw [z,Nat.mod_self];lia
  . rw [Nat.mod_eq_of_lt (by lia)];lia
 have e2:∀j,((row.set c (row.getD c 0+1)).set ((c+1) % row.length) ((row.set c (row.getD c 0+1)).getD ((c+1) % row.length) 0+1)).getD j 0
   = row.getD j 0+(if j=c then 1 else 0)+(if j=(c+1) % row.length then 1 else 0):=fun j=>by
  rw [Lb _ _ _ _ (by rw [List.length_set];exact hm),Lb _ _ _ _ hc,Lb _ _ _ _ hc,ψ hne]
  by_cases a:j=(c+1) % row.length
  . rw [ξ a,ξ a,ψ (by lia),a];lia
  . rw [ψ a,ψ a];by_cases b:j=c
    . rw [ξ b,ξ b,b];lia
    . rw [ψ b,ψ b];lia
 simp only [Y0]
 generalize hm2:(row.set c (row.getD c 0+1)).set ((c+1) % row.length) ((row.set c (row.getD c 0+1)).getD ((c+1) % row.length) 0+1)=m2 at e2 ⊢
 have hl:m2.length=row.length:=by rw [<-hm2,List.length_set,List.length_set]
 have ht:(m2.take (c+1)).length=c+1:=by rw [List.length_take,hl];lia
 unfold gR
 by_cases a:k=c+1
 . rw [ξ a,List.getD_eq_getElem?_getD,List.getElem?_append_right (by lia),ht,a];simp
 . rw [ψ a];by_cases b:k<=c
   . rw [ξ b];show _=row.getD k 0+(if k=c then 1 else 0)+(if k=(c+1) % row.length then 1 else 0);rw [<-e2,List.getD_eq_getElem?_getD,List.getElem?_append_left (by lia),List.getElem?_take,ξ (by lia),List.getD_eq_getElem?_getD]
   . rw [ψ b];show _=row.getD (k-1) 0+(if k-1=c then 1 else 0)+(if k-1=(c+1) % row.length then 1 else 0);obtain ⟨t,rfl⟩:∃t,k=c+1+(t+1):=⟨k - (c+2),by lia⟩;rw [<-e2,List.getD_eq_getElem?_getD,List.getElem?_append_right (by lia),ht,List.getD_eq_getElem?_getD,
      show c+1+(t+1) - (c+1)=t+1 by lia,List.getElem?_cons_succ,List.getElem?_drop,show c+1+(t+1) - 1=c+1+t by lia]
end Bd
namespace Cu
open Bd (gR Y0 wC xQ)
def ind (k:Int) (t:P3):Int:=(if k=t.1 then 1 else 0)+(if k=t.2.1 then 1 else 0)+(if k=t.2.2 then 1 else 0)
def c1 (k:Int):List P3->Int
 | []=>0
 | t::r=>ind k t+c1 k r
end Cu
namespace Cu
open L2 (so2 Ki wI)
def nr (p:P2):P2:=if p.1<p.2 then p else (p.2,p.1)
def im (f:Int->Int) (p:P2):P2:=nr (f p.1,f p.2)
section
variable {n:Int}
def fl (n x:Int):Int:=n - 1 - x
end
end Cu
namespace K13
open PySem PySem.Spec PyProof.Rows L2
def knX:String->Bool:=fun c=>c=="Crossed"||c=="NoFloor"||c=="NoLine"||c=="NotFull"
def Bf:String->Option Bool:=fun c=>if c="Crossed" then some false else if c="NoFloor" then some true else if c="NoLine" then some false else if c="NotFull" then some false else none
def Av:String->Option Bool:=fun c=>if c="Crossed" then some false else if c="NoFloor" then some false else if c="NoLine" then some true else if c="NotFull" then some false else none
def Be:String->Option Bool:=fun c=>if c="Crossed" then some false else if c="NoFloor" then some false else if c="NoLine" then some false else if c="NotFull" then some true else none
def Bc:String->Option Bool:=fun c=>if c="Crossed" then some true else if c="NoFloor" then some false else if c="NoLine" then some false else if c="NotFull" then some false else none
def Bs:String->Option Bool:=fun c=>if c="Crossed" then some true else if c="NoFloor" then some true else if c="NoLine" then some true else if c="NotFull" then some true else none
def Au:String->Option Bool:=fun c=>if c="Crossed" then some false else if c="NoFloor" then some false else if c="NoLine" then some true else if c="NotFull" then some false else none
def Bb:String->Option Bool:=fun c=>if c="Crossed" then some false else if c="NoFloor" then some true else if c="NoLine" then some false else if c="NotFull" then some false else none
def Br:String->Option Bool:=fun c=>if c="Crossed" then some true else if c="NoFloor" then some true else if c="NoLine" then some true else if c="NotFull" then some true else none
def Ba:String->Option Bool:=fun c=>if c="Crossed" then some false else if c="NoFloor" then some false else if c="NoLine" then some false else if c="NotFull" then some true else none
def Az:String->Option Bool:=fun c=>if c="Crossed" then some true else if c="NoFloor" then some false else if c="NoLine" then some false else if c="NotFull" then some false else none
def Lr:DS->SR:=
 (e7 [true] (o4 (eUn (k9 "int") (a5 0)) (eUn (fun d=>(j9 d).map fun b=>.bl (!b)) (eUn (k9 "bool") (a5 0)))))
def N5:List D->R D:=mOf false 1 0 Lr
def Pn:DS->SR:=
 (e7 [true,true] (eIf (c6 asB (eOp o3 (a5 0) (a5 1))) (e9 (a6 (a5 0) (a6 (a5 1) a8))) (e9 (a6 (a5 1) (a6 (a5 0) a8)))))
def Z4:List D->R D:=mOf false 2 0 Pn
def Ur:DS->SR:=
 (b7 (b9 false 2 [false,true] (eOp dIx (a5 1) (eC (.int 0))))
  (b7 (b9 false 3 [false,true] (eOp dIx (a5 1) (eC (.int 1))))
  (b7 (sIf (bOr (c6 asB (eOp o3 (a5 2) (eC (.int 0)))) (c6 asB (eOp dGe (a5 3) (a5 0))))
   (e7 [] (eC (.bl false)))
   sNx)
  (e7 [true,false,true,true] (eOr (eOp dEq (a5 3) (eOp m5 (a5 2) (eC (.int 1)))) (o4 (eOp dEq (a5 2) (eC (.int 0))) (eOp dEq (a5 3) (eOp y9 (a5 0) (eC (.int 1))))))))))
def At:List D->R D:=mOf false 2 2 Ur
def Rh:DS->SR:=
 (b7 (b9 false 2 [true] (eOp dIx (a5 0) (eC (.int 0))))
  (b7 (b9 false 3 [true] (eOp dIx (a5 0) (eC (.int 1))))
  (b7 (b9 false 4 [false,true] (eOp dIx (a5 1) (eC (.int 0))))
  (b7 (b9 false 5 [false,true] (eOp dIx (a5 1) (eC (.int 1))))
  (e7 [false,false,true,true,true,true] (eOr (M1 (a5 2) (E8 o3 (a5 4) (E8 o3 (a5 3) (M6 o3 (a5 5))))) (M1 (a5 4) (E8 o3 (a5 2) (E8 o3 (a5 5) (M6 o3 (a5 3)))))))))))
def Ah:List D->R D:=mOf false 2 4 Rh
def Xm:DE->R Bool:=
 (z5 (c6 asB (eOp dEq (eOp dIx (a5 0) (eC (.int 0))) (a5 1))) (z5 (c6 asB (eOp dLe (eOp dIx (a5 0) (eC (.int 1))) (eOp dIx (a5 2) (eC (.int 1))))) (c6 asB (eOp dNe (a5 0) (a5 2)))))
def Xl:DE->R D:=
 (eOp dIx (a5 0) (eC (.int 1)))
def Xh:DS->SR:=
 (b7 (b9 true 3 [true,true,true] (z8 (iL (a5 2)) b1 [0,1] Xm Xl))
  (e7 [true,false,false,true] (eCB S0 (a6 (a5 3) (a6 (eOp m5 (a5 0) (eC (.int 1))) a8)))))
def Bu:List D->R D:=mOf false 3 1 Xh
def Wh:DS->SR:=
 (b7 (sIf (c6 asB (eOp o3 (a5 1) (eCB j4 (a6 (a5 0) a8))))
   (e7 [true,true] (eOp dIx (a5 0) (a5 1)))
   sNx)
  (e7 [] (eC (.int 0))))
def Bk:List D->R D:=mOf false 2 0 Wh
def Xi:DS->SR:=
 (e7 [true] (o4 (eUn (k9 "int") (a5 0)) (eUn (fun d=>(j9 d).map fun b=>.bl (!b)) (eUn (k9 "bool") (a5 0)))))
def G7:List D->R D:=mOf false 1 0 Xi
def Et:DS->SR:=
 (b7 (b9 false 3 [false,false,false,true,true] (eOp g8 (eOp m5 (eOp m5 (eOp p5 (a5 3) (eC (.int 48271))) (eOp p5 (a5 4) (a5 4))) (eC (.int 1))) (eC (.int 2147483647))))
  (b7 (sIf (c6 asB (eOp o3 (a5 4) (eCB j4 (a6 (a5 0) a8))))
   (b9 false 3 [true,false,false,true,true] (eOp g8 (eOp m5 (a5 3) (eOp dIx (a5 0) (a5 4))) (eC (.int 2147483647))))
   sNx)
  (u9 "list" F7 2 [false,false,false,true] (a6 (a5 3) a8))))
def Wz:DS->SR:=
 (b7 (b9 true 2 [] (k7 a8))
  (b7 (b9 false 3 [] (eC (.int 7)))
  (b7 (B7 true [false,true] (L8 (a6 (a5 1) a8)) (.n 4) Et)
  (O9 2))))
def P8:List D->R D:=mOf true 2 3 Wz
def Xe:DE->R D:=
 (e9 (a6 (eOp m5 (a5 0) (eCB O2 (a6 (eOp O5 (a5 0) (a5 2)) a8))) (a6 (eOp m5 (a5 1) (eCB O2 (a6 (eOp O5 (a5 1) (a5 2)) a8))) a8)))
def Es:DS->SR:=
 (b7 (b9 false 4 [false,true,false,true] (eOp g8 (a5 3) (a5 1)))
  (b7 (b9 true 2 [false,false,true,false,true] (z8 (iL (a5 2)) (bT 2) [4] u7 Xe))
  (b7 (sIf (c6 asB (eOp dEq (a5 4) (eOp y9 (a5 1) (eC (.int 1)))))
   (u9 "list" F7 2 [false,false,false,false,true] (a6 (e9 (a6 (eC (.int 0)) (a6 (a5 4) a8))) a8))
   (u9 "list" F7 2 [false,false,false,false,true] (a6 (e9 (a6 (a5 4) (a6 (eOp m5 (a5 4) (eC (.int 2))) a8))) a8)))
  (b9 false 1 [false,true] (eOp m5 (a5 1) (eC (.int 1)))))))
def Wu:DS->SR:=
 (b7 (b9 false 1 [] (eC (.int 3)))
  (b7 (b9 true 2 [] (k7 a8))
  (b7 (B7 false [true] (iL (a5 0)) (.n 3) Es)
  (e7 [false,true,true] (e9 (a6 (a5 1) (a6 (a5 2) a8)))))))
def Bq:List D->R D:=mOf false 1 4 Wu
def Er:DS->SR:=
 (b7 (b9 false 5 [true,false,false,true] (eOp g8 (eOp m5 (eOp m5 (eOp p5 (eOp dIx (a5 0) (a5 3)) (eC (.int 69621))) (eOp p5 (eOp p5 (a5 3) (a5 3)) (eC (.int 16807)))) (eC (.int 11))) (eC (.int 2147483629))))
  (u9 "list" w6 2 [false,false,true,false,true,true] (a6 (eOp g8 (a5 5) (eOp m5 (eCB j4 (a6 (a5 2) a8)) (eC (.int 1)))) (a6 (eOp dIx (k7 (a6 (a5 4) (a6 (e9 (a6 (eOp dIx (a5 4) (eC (.int 1))) (a6 (eOp dIx (a5 4) (eC (.int 0))) a8))) a8))) (eOp g8 (eOp L9 (a5 5) (eC (.int 64))) (eC (.int 2)))) a8))))
def Wt:DS->SR:=
 (b7 (b9 true 2 [] (k7 a8))
  (b7 (B7 false [false,true] (iEn (a6 (a5 1) a8)) (.t [3,4]) Er)
  (O9 2)))
def Bp:List D->R D:=mOf true 2 4 Wt
def Vo:DS->SR:=
 (b7 (b9 false 2 [true,true] (eOp g8 (eOp L9 (a5 0) (eC (.int 18))) (a5 1)))
  (b7 (b9 true 3 [false,true,true] (k7 (a6 (eC .non) (a6 (eC (.str "0-2")) (a6 (eC (.int 7)) (a6 (k7 (a6 (eC (.int 0)) (a6 (eC (.int 2)) a8))) (a6 (e9 (a6 (eC (.int 0)) a8)) (a6 (e9 (a6 (eC (.int 0)) (a6 (eC (.int 2)) (a6 (eC (.int 4)) a8)))) (a6 (e9 (a6 (eC (.int 0)) (a6 (eC .non) a8))) (a6 (e9 (a6 (eC (.str "0")) (a6 (eC (.int 2)) a8))) (a6 (e9 (a6 (eC (.bl true)) (a6 (eC (.int 3)) a8))) (a6 (e9 (a6 (a5 2) (a6 (a5 2) a8))) (a6 (e9 (a6 (a5 2) (a6 (eOp g8 (eOp m5 (a5 2) (eC (.int 1))) (a5 1)) a8))) a8)))))))))))))
  (b7 (b9 true 3 [false,true,false,true] (eOp E3 (a5 3) (k7 (a6 (e9 (a6 (eOp y9 (a5 1) (eC (.int 1))) (a6 (eC (.int 0)) a8))) (a6 (e9 (a6 (eUn M0 (eC (.int 1))) (a6 (eC (.int 2)) a8))) (a6 (e9 (a6 (eC (.int 0)) (a6 (a5 1) a8))) (a6 (e9 (a6 (eC (.int 2)) (a6 (eUn M0 (a5 1)) a8))) (a6 (e9 (a6 (eC (.int 0)) (a6 (eOp Q7 (eC (.int 10)) (eC (.int 59))) a8))) (a6 Gj (a6 (e9 a8) a8))))))))))
  (e7 [true,false,false,true] (eOp dIx (a5 3) (eOp g8 (a5 0) (eC (.int 18))))))))
def V9:List D->R D:=mOf false 2 2 Vo
def Ws:DS->SR:=
 (b7 (b9 false 1 [true] (eOp g8 (eOp L9 (a5 0) (eC (.int 13))) (eOp Q7 (eC (.int 10)) (eC (.int 9)))))
  (b7 (b9 true 2 [false,true] (k7 (a6 (eC (.int 2)) (a6 (eC (.int 61)) (a6 (eC (.int 0)) (a6 (eUn M0 (eC (.int 1))) (a6 (eC (.int 1)) (a6 (eOp m5 (eC (.int 62)) (a5 1)) (a6 (eOp y9 (eUn M0 (eC (.int 2))) (a5 1)) (a6 (eC (.bl true)) (a6 (eC .non) (a6 (eC (.str "5")) (a6 (k7 (a6 (eC (.int 5)) a8)) (a6 (e9 (a6 (eC (.int 5)) a8)) (a6 (eOp Q7 (eC (.int 10)) (eC (.int 59))) a8)))))))))))))))
  (e7 [true,false,true] (eOp dIx (a5 2) (eOp g8 (a5 0) (eC (.int 13)))))))
def Bo:List D->R D:=mOf false 1 2 Ws
def Mv:DE->R D:=
 (eCB O2 (a6 (M1 (eOp dIx (a5 1) (eC (.int 0))) (E8 o3 (a5 0) (M6 o3 (eOp dIx (a5 1) (eC (.int 1)))))) a8))
def Wg:DS->SR:=
 (b7 (b9 false 2 [true,true] (eCB F8 (a6 (z8 (iL (a5 1)) b1 [0] u7 Mv) a8)))
  (e7 [true,true,true] (eOr (eOp dEq (a5 0) (a5 1)) (o4 (eOp dEq (a5 2) (eC (.int 1))) (o4 (eOp (dIn true) (eOp dIx (a5 0) (eC (.int 0))) (a5 1)) (eOp (dIn true) (eOp dIx (a5 0) (eC (.int 1))) (a5 1)))))))
def W1:List D->R D:=mOf false 2 1 Wg
def Uq:DS->SR:=
 (e7 [true,true] (o4 (M1 (eC (.int 0)) (E8 dLe (eOp dIx (a5 1) (eC (.int 0))) (E8 o3 (eOp dIx (a5 1) (eC (.int 1))) (M6 o3 (a5 0))))) (eUn (fun d=>(j9 d).map fun b=>.bl (!b)) (e8 At (a6 (a5 0) (a6 (a5 1) a8))))))
def As:List D->R D:=mOf false 2 0 Uq
def Tm:DS->SR:=
 (e7 [true] (o4 (eUn (k9 "tuple") (a5 0)) (o4 (eOp dEq (eCB j4 (a6 (a5 0) a8)) (eC (.int 2))) (o4 (e8 N5 (a6 (eOp dIx (a5 0) (eC (.int 0))) a8)) (e8 N5 (a6 (eOp dIx (a5 0) (eC (.int 1))) a8))))))
def Ao:List D->R D:=mOf false 1 0 Tm
def Lq:DS->SR:=
 (e7 [true] (o4 (e8 N5 (a6 (a5 0) a8)) (M1 (eC (.int 3)) (E8 dLe (a5 0) (M6 dLe (eC (.int 60)))))))
def Ay:List D->R D:=mOf false 1 0 Lq
def Ep:DE->R Bool:=
 (c6 asB (eOp o3 (eOp dIx (a5 2) (eUn M0 (eC (.int 1)))) (eOp dIx (a5 0) (eC (.int 1)))))
def Eo:DS->SR:=
 (u9 "list" F7 2 [true,true,true] (a6 (e8 Bu (a6 (eOp dIx (a5 2) (eUn M0 (eC (.int 1)))) (a6 (a5 0) (a6 (a5 1) a8)))) a8))
def Wr:DS->SR:=
 (b7 (b9 true 2 [true] (k7 (a6 (eOp dIx (a5 0) (eC (.int 0))) a8)))
  (b7 (Db 1000 Ep Eo)
  (e7 [false,false,true] (eCB P4 (a6 (a5 2) a8)))))
def Bn:List D->R D:=mOf false 2 1 Wr
def Wf:DS->SR:=
 (b7 (b9 false 1 [true] (e8 Bk (a6 (a5 0) (a6 (eC (.int 0)) a8))))
  (b7 (sIf (c6 asB (eOp dEq (eOp g8 (a5 1) (eC (.int 4))) (eC (.int 3))))
   (e7 [false,true] (eOp g8 (eOp L9 (a5 1) (eC (.int 4))) (eC (.int 58))))
   sNx)
  (b7 (sIf (c6 asB (eOp dEq (eOp g8 (a5 1) (eC (.int 4))) (eC (.int 2))))
   (e7 [false,true] (eOp g8 (eOp L9 (a5 1) (eC (.int 4))) (eC (.int 9))))
   sNx)
  (e7 [true] (eCB Hf (a6 (eC (.int 57)) (a6 (eCB Hg (a6 (eC (.int 0)) (a6 (eOp y9 (eCB j4 (a6 (a5 0) a8)) (eC (.int 13))) a8))) a8)))))))
def Bj:List D->R D:=mOf false 1 1 Wf
def Bt:DS->SR:=
 (Z3 "list" Y2 0)
def Bm:DS->SR:=
 (b7 (b9 false 3 [true,false,true] (eOp g8 (eOp dIx (a5 2) (eC (.int 1))) (eOp m5 (eCB j4 (a6 (a5 0) a8)) (eC (.int 1)))))
  (b7 (sIf (z5 (c6 asB (eOp dEq (eOp g8 (eOp dIx (a5 2) (eC (.int 0))) (eC (.int 7))) (eC (.int 1)))) (c6 asB (eOp C2 (a5 0) (k7 a8))))
   (u9 "list" Q3 0 [true,false,true] (a6 (eOp g8 (eOp dIx (a5 2) (eC (.int 1))) (eCB j4 (a6 (a5 0) a8))) a8))
   sNx)
  (b7 (sIf (c6 asB (eOp dEq (eOp g8 (eOp dIx (a5 2) (eC (.int 0))) (eC (.int 7))) (eC (.int 6))))
   (B7 true [true,false,false,true] (L8 (a6 (eOp y9 (eCB j4 (a6 (a5 0) a8)) (a5 3)) a8)) (.n 4) Bt)
   sNx)
  (b7 (sIf (c6 asB (eOp dEq (eOp g8 (eOp dIx (a5 2) (eC (.int 0))) (eC (.int 7))) (eC (.int 2))))
   (u9 "list" w6 0 [false,true,true,true] (a6 (a5 3) (a6 (e8 V9 (a6 (eOp dIx (a5 2) (eC (.int 2))) (a6 (a5 1) a8))) a8)))
   sNx)
  (b7 (sIf (z5 (c6 asB (eOp dEq (eOp g8 (eOp dIx (a5 2) (eC (.int 0))) (eC (.int 7))) (eC (.int 3)))) (c6 asB (eOp O5 (a5 1) (eC (.int 3)))))
   (b7 (b9 false 5 [false,true,true] (eOp g8 (eOp dIx (a5 2) (eC (.int 2))) (a5 1)))
  (u9 "list" w6 0 [false,true,true,true,false,true] (a6 (a5 3) (a6 (e9 (a6 (a5 5) (a6 (eOp g8 (eOp m5 (eOp m5 (a5 5) (eC (.int 2))) (eOp g8 (eOp dIx (a5 2) (eC (.int 3))) (eOp y9 (a5 1) (eC (.int 3))))) (a5 1)) a8))) a8))))
   sNx)
  (sIf (z5 (c6 asB (eOp dEq (eOp g8 (eOp dIx (a5 2) (eC (.int 0))) (eC (.int 7))) (eC (.int 4)))) (c6 asB (eOp C2 (a5 0) (k7 a8))))
   (b7 (O0 6 0 [true,false,true] (eOp g8 (eOp dIx (a5 2) (eC (.int 2))) (eCB j4 (a6 (a5 0) a8))))
  (b7 (sIf (z5 (c6 j9 (eUn (k9 "tuple") (a5 6))) (c6 asB (eOp dEq (eCB j4 (a6 (a5 6) a8)) (eC (.int 2)))))
   (b9 false 6 [false,false,false,false,false,false,true] (e9 (a6 (eOp dIx (a5 6) (eC (.int 1))) (a6 (eOp dIx (a5 6) (eC (.int 0))) a8))))
   sNx)
  (u9 "list" w6 0 [false,false,false,true,false,false,true] (a6 (a5 3) (a6 (a5 6) a8)))))
   sNx))))))
def L5:List D->R D:=Ng 3 4 Bm
def Xd:DS->SR:=
 (b7 (sIf (bOr (v0 (c6 j9 (eUn (k9 "tuple") (a5 1)))) (bOr (c6 asB (eOp dNe (eCB j4 (a6 (a5 1) a8)) (eC (.int 2)))) (bOr (v0 (c6 j9 (e8 G7 (a6 (eOp dIx (a5 1) (eC (.int 0))) a8)))) (v0 (c6 j9 (e8 G7 (a6 (eOp dIx (a5 1) (eC (.int 1))) a8)))))))
   (e7 [] (eC (.bl false)))
   sNx)
  (b7 (b9 false 2 [false,true] (eCB R8 (a6 (a5 1) a8)))
  (b7 (b9 false 3 [false,true,true] (eOp y9 (eCB O6 (a6 (a5 1) a8)) (a5 2)))
  (e7 [true,true,true,true] (o4 (eOp dLe (eC (.int 0)) (a5 2)) (o4 (eOp o3 (eCB O6 (a6 (a5 1) a8)) (a5 0)) (o4 (eOp dLe (eC (.int 2)) (a5 3)) (eOp o3 (a5 3) (eOp y9 (a5 0) (eC (.int 1)))))))))))
def P9:List D->R D:=mOf false 2 2 Xd
def Xb:DS->SR:=
 (b7 (sIf (bOr (v0 (c6 j9 (eUn (k9 "tuple") (a5 0)))) (c6 asB (eOp dNe (eCB j4 (a6 (a5 0) a8)) (eC (.int 2)))))
   (e7 [] (eC (.bl false)))
   sNx)
  (e7 [true] (o4 (e8 G7 (a6 (eOp dIx (a5 0) (eC (.int 0))) a8)) (o4 (e8 G7 (a6 (eOp dIx (a5 0) (eC (.int 1))) a8)) (eOp o3 (eOp dIx (a5 0) (eC (.int 0))) (eOp dIx (a5 0) (eC (.int 1))))))))
def N9:List D->R D:=mOf false 1 0 Xb
def Mu:DS->SR:=
 (sIf (v0 (c6 j9 (e8 Ay (a6 (a5 0) a8))))
  (M9 "NoFloor" (a6 (eC (.str "a floor has 3 to 60 corners")) a8))
  sNx)
def P7:List D->R D:=mOf false 1 0 Mu
def Up:DE->R D:=
 (e8 Bn (a6 (a5 0) (a6 (a5 1) a8)))
def Rg:DS->SR:=
 (b7 (b9 true 2 [true,true] (eOp E3 (k7 (a6 (e9 (a6 (eC (.int 0)) (a6 (eOp y9 (a5 0) (eC (.int 1))) a8))) a8)) (eCB F9 (a6 (a5 1) a8))))
  (e7 [false,true,true] (eCB J9 (a6 (z8 (iL (a5 2)) b1 [1] u7 Up) a8))))
def Ag:List D->R D:=mOf true 2 1 Rg
def Uo:DS->SR:=
 (b7 (sIf (v0 (c6 j9 (e8 Ao (a6 (a5 1) a8))))
   (M9 "NoLine" (a6 (eC (.str "no tuple of two whole numbers")) a8))
   sNx)
  (b7 (b9 false 2 [false,true] (e8 Z4 (a6 (eOp dIx (a5 1) (eC (.int 0))) (a6 (eOp dIx (a5 1) (eC (.int 1))) a8))))
  (b7 (sIf (v0 (c6 j9 (e8 As (a6 (a5 0) (a6 (a5 2) a8)))))
   (M9 "NoLine" (a6 (eC (.str "no line of the floor")) a8))
   sNx)
  (e7 [false,false,true] (a5 2)))))
def V5:List D->R D:=mOf false 2 1 Uo
def W5:DS->SR:=
 (sIf (bOr (c6 asB (eOp dEq (a5 3) (a5 2))) (c6 j9 (e8 Ah (a6 (a5 3) (a6 (a5 2) a8)))))
  (N3 "Crossed" (a6 (a5 3) (a6 (a5 2) a8)))
  sNx)
def Bx:DS->SR:=
 (B7 false [true,true] (iL (eSl dSl (a5 0) oNo (oSo (a5 1)))) (.n 3) W5)
def Xk:DS->SR:=
 (B7 false [true] (iEn (a6 (a5 0) a8)) (.t [1,2]) Bx)
def Bw:List D->R D:=mOf false 1 3 Xk
def Em:DE->R D:=
 (e8 P9 (a6 (a5 1) (a6 (a5 0) a8)))
def El:DE->R D:=
 (e9 (a6 (eCB R8 (a6 (a5 0) a8)) (a6 (eCB O6 (a6 (a5 0) a8)) a8)))
def W2:DS->SR:=
 (sIf (c6 j9 (e8 W1 (a6 (a5 5) (a6 (a5 4) a8))))
  (e7 [false,false,false,false,true,true] (e9 (a6 (eC (.str "crossed")) (a6 (a5 5) (a6 (a5 4) a8)))))
  sNx)
def Bl:DS->SR:=
 (B7 false [false,false,true,true] (iL (eSl dSl (a5 2) oNo (oSo (a5 3)))) (.n 5) W2)
def V8:DS->SR:=
 (b7 (sIf (bOr (v0 (c6 j9 (e8 G7 (a6 (a5 0) a8)))) (bOr (c6 asB (eOp o3 (a5 0) (eC (.int 3)))) (c6 asB (eOp O5 (a5 0) (eC (.int 60))))))
   (e7 [] (e9 (a6 (eC (.str "floor")) a8)))
   sNx)
  (b7 (sIf (v0 (c6 j9 (eCB Q5 (a6 (z8 (iL (a5 1)) b1 [0] u7 Em) a8))))
   (e7 [] (e9 (a6 (eC (.str "line")) a8)))
   sNx)
  (b7 (b9 true 2 [false,true] (z8 (iL (a5 1)) b1 [] u7 El))
  (b7 (B7 false [false,false,true] (iEn (a6 (a5 2) a8)) (.t [3,4]) Bl)
  (b7 (sIf (c6 asB (eOp o3 (eCB j4 (a6 (a5 2) a8)) (eOp y9 (a5 0) (eC (.int 3)))))
   (e7 [false,false,true] (e9 (a6 (eC (.str "full")) (a6 (a5 2) a8))))
   sNx)
  (e7 [true,false,true] (e9 (a6 (eC (.str "made")) (a6 (e9 (a6 (a5 0) (a6 (eCB P4 (a6 (eCB J9 (a6 (a5 2) a8)) a8)) a8))) a8)))))))))
def C8:List D->R D:=mOf false 2 4 V8
def Mt:DE->R D:=
 (e8 W1 (a6 (a5 0) (a6 (a5 1) a8)))
def Ms:DE->R D:=
 (e8 N9 (a6 (a5 0) a8))
def Ej:DS->SR:=
 (b7 (sIf (c6 asB (eOp dNe (eOp dIx (a5 0) (eC (.int 0))) (eOp dIx (a5 1) (eC (.int 0)))))
   (e7 [] (eC (.bl false)))
   sNx)
  (b7 (sIf (c6 asB (eOp dEq (eOp dIx (a5 1) (eC (.int 0))) (eC (.str "crossed"))))
   (e7 [true,true] (o4 (e8 N9 (a6 (eOp dIx (a5 0) (eC (.int 1))) a8)) (o4 (e8 N9 (a6 (eOp dIx (a5 0) (eC (.int 2))) a8)) (eOp dEq (a5 0) (a5 1)))))
   sNx)
  (b7 (sIf (c6 asB (eOp dEq (eOp dIx (a5 1) (eC (.int 0))) (eC (.str "full"))))
   (b7 (b9 false 3 [true] (eOp dIx (a5 0) (eC (.int 1))))
  (b7 (sIf (bOr (v0 (c6 j9 (e8 N9 (a6 (a5 3) a8)))) (v0 (c6 j9 (e8 P9 (a6 (a5 2) (a6 (a5 3) a8))))))
   (e7 [] (eC (.bl false)))
   sNx)
  (e7 [false,true,false,true] (eUn (fun d=>(j9 d).map fun b=>.bl (!b)) (eCB X1 (a6 (z8 (iL (eOp dIx (a5 1) (eC (.int 1)))) b1 [3] u7 Mt) a8))))))
   sNx)
  (b7 (sIf (c6 asB (eOp dEq (eOp dIx (a5 1) (eC (.int 0))) (eC (.str "made"))))
   (b7 (b9 false 4 [true] (eOp dIx (a5 0) (eC (.int 1))))
  (b7 (sIf (bOr (v0 (c6 j9 (eUn (k9 "tuple") (a5 4)))) (bOr (c6 asB (eOp dNe (eCB j4 (a6 (a5 4) a8)) (eC (.int 2)))) (v0 (c6 j9 (e8 G7 (a6 (eOp dIx (a5 4) (eC (.int 0))) a8))))))
   (e7 [] (eC (.bl false)))
   sNx)
  (e7 [true,true,false,false,true] (o4 (eUn (k9 "tuple") (eOp dIx (a5 4) (eC (.int 1)))) (o4 (eCB Q5 (a6 (z8 (iL (eOp dIx (a5 4) (eC (.int 1)))) b1 [] u7 Ms) a8)) (eOp dEq (a5 0) (a5 1)))))))
   sNx)
  (e7 [] (eC (.bl true)))))))
def F6:List D->R D:=mOf false 3 2 Ej
def Mr:DE->R Bool:=
 (c6 asB (eOp O5 (eCB j4 (a6 (a5 0) a8)) (eC (.int 3))))
def Mq:DE->R D:=
 (a5 0)
def We:DS->SR:=
 (b7 (b9 true 2 [true,true] (z8 (iL (e8 Ag (a6 (a5 0) (a6 (a5 1) a8)))) b1 [] Mr Mq))
  (e7 [false,false,true] (e9 (a6 (eOp dIx (eOp dIx (a5 2) (eC (.int 0))) (eC (.int 0))) (a6 (eOp dIx (eOp dIx (a5 2) (eC (.int 0))) (eC (.int 2))) a8)))))
def Bi:List D->R D:=mOf false 2 1 We
def Bh:DE->R D:=
 (e8 V5 (a6 (a5 1) (a6 (a5 0) a8)))
def V4:DS->SR:=
 (b7 (J8 (e8 P7 (a6 (a5 0) a8)))
  (b7 (b9 true 2 [true,true] (M7 (iL (a5 1)) b1 [0] u7 Bh))
  (b7 (J8 (e8 Bw (a6 (a5 2) a8)))
  (b7 (sIf (c6 asB (eOp o3 (eCB j4 (a6 (a5 2) a8)) (eOp y9 (a5 0) (eC (.int 3)))))
   (N3 "NotFull" (a6 (e8 Bi (a6 (a5 0) (a6 (a5 2) a8))) a8))
   sNx)
  (e7 [true,false,true] (e9 (a6 (a5 0) (a6 (eCB P4 (a6 (eCB J9 (a6 (a5 2) a8)) a8)) a8))))))))
def t7:List D->R D:=mOf false 2 1 V4
def En:DS->SR:=
 (b7 (b9 false 2 [] (e9 (a6 (eC (.str "none")) a8)))
  (b7 (Y5 (b9 false 3 [true,true] (D3 knX t7 (a6 (a5 0) (a6 (a5 1) a8))))
   (hAs Bc 4 (b9 false 2 [false,false,false,false,true] (e9 (a6 (eC (.str "crossed")) (a6 (eUn (G8 "one") (a5 4)) (a6 (eUn (G8 "other") (a5 4)) a8))))) (hAs Be 4 (b9 false 2 [false,false,false,false,true] (e9 (a6 (eC (.str "full")) (a6 (eUn (G8 "line") (a5 4)) a8)))) (hNo Av (b9 false 2 [] (e9 (a6 (eC (.str "line")) a8))) (hNo Bf (b9 false 2 [] (e9 (a6 (eC (.str "floor")) a8))) W6))))
   (b9 false 2 [false,false,false,true] (e9 (a6 (eC (.str "made")) (a6 (a5 3) a8)))))
  (e7 [false,false,true] (a5 2))))
def N8:List D->R D:=mOf false 2 3 En
def Ek:DS->SR:=
 (b7 (b9 true 2 [] (k7 a8))
  (b7 (W7 (J8 (D3 knX t7 (a6 (a5 0) (a6 (a5 1) a8))))
   (hAs Bs 3 (b7 (b9 true 2 [false,false,false,true] (k7 (a6 (eUn (C3 Br) (a5 3)) (a6 (eUn (C3 Bb) (a5 3)) (a6 (eUn (C3 Au) (a5 3)) a8)))))
  (b9 true 2 [false,false,true,true] (eOp E3 (a5 2) (k7 (a6 (eUn (C3 Az) (a5 3)) (a6 (eUn (C3 Ba) (a5 3)) a8)))))) W6))
  (O9 2)))
def N7:List D->R D:=mOf true 2 2 Ek
def Af:DS->SR:=
 (b7 (Q1 5 [false,true,false,true,false,false,false,true] L5 3 (a6 (a5 3) (a6 (eSl dSl (a5 1) (oSo (eOp p5 (eC (.int 4)) (a5 7))) (oSo (eOp m5 (eOp p5 (eC (.int 4)) (a5 7)) (eC (.int 4))))) a8)))
  (sIf (c6 asB (eOp dEq (eOp g8 (eOp dIx (a5 1) (eOp p5 (eC (.int 4)) (a5 7))) (eC (.int 7))) (eC (.int 5))))
   (b9 false 6 [false,true,false,false,false,false,false,true] (e8 Bo (a6 (eOp dIx (a5 1) (eOp m5 (eOp p5 (eC (.int 4)) (a5 7)) (eC (.int 1)))) a8)))
   sNx))
def No:DS->SR:=
 (b7 (b9 true 1 [true] (e8 P8 (a6 (eSl dSl (a5 0) (oSo (eC (.int 1))) (oSo (eC (.int 13)))) (a6 (eC (.int 12)) a8))))
  (b7 (b9 true 2 [true] (e8 P8 (a6 (eSl dSl (a5 0) (oSo (eC (.int 13))) oNo) (a6 (e8 Bj (a6 (a5 0) a8)) a8))))
  (b7 (Cf (.t [3,4]) [false,false,true] (e8 Bq (a6 (a5 2) a8)))
  (b7 (b9 true 5 [false,false,true,false,true] (e8 Bp (a6 (a5 2) (a6 (a5 4) a8))))
  (b7 (b9 false 6 [false,false,false,true] (a5 3))
  (b7 (B7 true [] (L8 (a6 (eC (.int 3)) a8)) (.n 7) Af)
  (b7 (b9 false 8 [false,false,false,false,false,true,true] (e8 C8 (a6 (a5 6) (a6 (a5 5) a8))))
  (b7 (b9 true 9 [false,false,false,false,false,true] (eCB F9 (a6 (a5 5) a8)))
  (b7 (sIf (bOr (v0 (c6 j9 (e8 F6 (a6 (e8 N8 (a6 (a5 6) (a6 (a5 9) a8))) (a6 (a5 8) (a6 (a5 3) a8)))))) (c6 asB (eOp C2 (a5 9) (a5 5))))
   (e7 [] (eC (.bl false)))
   sNx)
  (b7 (b9 true 10 [false,false,false,false,false,true,true] (e8 N7 (a6 (a5 6) (a6 (eCB F9 (a6 (a5 5) a8)) a8))))
  (b7 (sIf (c6 asB (eOp dEq (eOp dIx (a5 8) (eC (.int 0))) (eC (.str "made"))))
   (e7 [false,false,false,false,false,false,false,false,false,false,true] (eOp dEq (a5 10) (k7 a8)))
   sNx)
  (e7 [false,false,false,false,false,false,false,false,true,false,true] (eOp dEq (a5 10) (k7 (a6 (eC (.bl true)) (a6 (eOp dEq (eOp dIx (a5 8) (eC (.int 0))) (eC (.str "floor"))) (a6 (eOp dEq (eOp dIx (a5 8) (eC (.int 0))) (eC (.str "line"))) (a6 (eOp dEq (eOp dIx (a5 8) (eC (.int 0))) (eC (.str "crossed"))) (a6 (eOp dEq (eOp dIx (a5 8) (eC (.int 0))) (eC (.str "full"))) a8)))))))))))))))))))
def R6:List D->R D:=mOf false 1 10 No
def top (i:Nat):Stmt:=PySem.Challenge.pw_friezeyard_k13_cuttings_refused.main.body.getD i (.Pass ⟨0,0,0,0⟩)
abbrev Lp:Stmt:=top 7
abbrev Hi:Stmt:=top 8
abbrev La:Stmt:=top 9
abbrev Kz:Stmt:=top 10
abbrev Jj:Stmt:=top 11
abbrev Kc:Stmt:=top 13
abbrev Lo:Stmt:=top 14
abbrev Mp:Stmt:=top 15
abbrev Ji:Stmt:=top 17
abbrev Ml:Stmt:=top 18
abbrev Nb:Stmt:=top 19
abbrev Ky:Stmt:=top 21
abbrev Kx:Stmt:=top 22
abbrev Nd:Stmt:=top 23
abbrev Mc:Stmt:=top 24
abbrev Mb:Stmt:=top 26
abbrev Nc:Stmt:=top 27
abbrev Ma:Stmt:=top 28
abbrev Mn:Stmt:=top 29
abbrev Mk:Stmt:=top 30
abbrev Mj:Stmt:=top 31
abbrev Ln:Stmt:=top 32
abbrev Mi:Stmt:=top 33
abbrev Mh:Stmt:=top 34
abbrev Mz:Stmt:=top 35
abbrev Lz:Stmt:=top 36
abbrev Lm:Stmt:=top 37
abbrev Mm:Stmt:=top 38
abbrev Mg:Stmt:=top 39
abbrev My:Stmt:=top 40
abbrev Ly:Stmt:=top 41
abbrev Fy:Stmt:=top 42
abbrev W4:Stmt:=(Ru (top 4)).getD 0 (.Pass ⟨0,0,0,0⟩)
theorem zW:FnScope ["self","one","other"] ["self","one","other"] (d8 W4):=fsc
abbrev W3:Stmt:=(Ru (top 5)).getD 0 (.Pass ⟨0,0,0,0⟩)
theorem zV:FnScope ["self","line"] ["self","line"] (d8 W3):=fsc
structure Txt (mg:Str->Option Value):Prop where
 ValueError:mg "ValueError"=none
 «all»:mg "all"=none
 «any»:mg "any"=none
 bool:mg "bool"=none
 enumerate:mg "enumerate"=none
 int:mg "int"=none
 isinstance:mg "isinstance"=none
 len:mg "len"=none
 list:mg "list"=none
 «max»:mg "max"=none
 «min»:mg "min"=none
 range:mg "range"=none
 sorted:mg "sorted"=none
 sum:mg "sum"=none
 tuple:mg "tuple"=none
structure Exs (K:Frag) (mg:Str->Option Value) (u0 u1 u2 u3 u4:Addr):Prop where
 a_Crossed:mg (Str.ofString "Crossed")=some (.ref u0)
 a_FloorError:mg (Str.ofString "FloorError")=some (.ref u1)
 a_NoFloor:mg (Str.ofString "NoFloor")=some (.ref u2)
 a_NoLine:mg (Str.ofString "NoLine")=some (.ref u3)
 a_NotFull:mg (Str.ofString "NotFull")=some (.ref u4)
 n_Crossed:nsIn K mainGlobals (Str.ofString "Crossed")=some (some (.ref u0))
 n_FloorError:nsIn K mainGlobals (Str.ofString "FloorError")=some (some (.ref u1))
 n_NoFloor:nsIn K mainGlobals (Str.ofString "NoFloor")=some (some (.ref u2))
 n_NoLine:nsIn K mainGlobals (Str.ofString "NoLine")=some (some (.ref u3))
 n_NotFull:nsIn K mainGlobals (Str.ofString "NotFull")=some (some (.ref u4))
 q_Crossed:x6 K u0 [.type "ValueError",.type "Exception",.type "BaseException",.type "object"] "ValueError.__new__"=true
 s_Crossed:PySem.W.findIn K (.ref u0) "__setattr__"=some (some (.builtin "object.__setattr__"))
 v_Crossed:PySem.W.findIn K (.ref u0) "one"=some none
 v1_Crossed:PySem.W.findIn K (.ref u0) "other"=some none
 q_FloorError:PySem.W.excIn K u1 [.type "ValueError",.type "Exception",.type "BaseException",.type "object"] "ValueError.__new__"=true
 q_NoFloor:PySem.W.excIn K u2 [.type "ValueError",.type "Exception",.type "BaseException",.type "object"] "ValueError.__new__"=true
 q_NoLine:PySem.W.excIn K u3 [.type "ValueError",.type "Exception",.type "BaseException",.type "object"] "ValueError.__new__"=true
 q_NotFull:x6 K u4 [.type "ValueError",.type "Exception",.type "BaseException",.type "object"] "ValueError.__new__"=true
 s_NotFull:PySem.W.findIn K (.ref u4) "__setattr__"=some (some (.builtin "object.__setattr__"))
 v_NotFull:PySem.W.findIn K (.ref u4) "line"=some none
 fo_Crossed:mroIn K u0 (.type "object")=some true
 fb_Crossed:mroIn K u0 (.type "BaseException")=some true
 fc_Crossed:PySem.W.findIn K (.ref u0) "__class__"=some (some (.builtin "object.__class__"))
 fg_Crossed:PySem.W.findIn K (.ref u0) "__getattribute__"=some (some (.builtin "BaseException.__getattribute__"))
 ft_Crossed:PySem.W.findIn K (.ref u0) "__getattr__"=some none
 m_Crossed_NoFloor:mroIn K u0 (.ref u2)=some false
 m_Crossed_NoLine:mroIn K u0 (.ref u3)=some false
 m_Crossed_NotFull:mroIn K u0 (.ref u4)=some false
 m_Crossed_Crossed:mroIn K u0 (.ref u0)=some true
 m_Crossed_FloorError:mroIn K u0 (.ref u1)=some true
 k_Crossed_NoLine:kitOne K (.ref u0) (.ref u3)=some false
 k_Crossed_NoFloor:kitOne K (.ref u0) (.ref u2)=some false
 k_Crossed_ValueError:kitOne K (.ref u0) (.type "ValueError")=some true
 k_Crossed_NotFull:kitOne K (.ref u0) (.ref u4)=some false
 k_Crossed_Crossed:kitOne K (.ref u0) (.ref u0)=some true
 fo_NoFloor:mroIn K u2 (.type "object")=some true
 fb_NoFloor:mroIn K u2 (.type "BaseException")=some true
 fc_NoFloor:PySem.W.findIn K (.ref u2) "__class__"=some (some (.builtin "object.__class__"))
 fg_NoFloor:PySem.W.findIn K (.ref u2) "__getattribute__"=some (some (.builtin "BaseException.__getattribute__"))
 ft_NoFloor:PySem.W.findIn K (.ref u2) "__getattr__"=some none
 m_NoFloor_NoFloor:mroIn K u2 (.ref u2)=some true
 m_NoFloor_NoLine:mroIn K u2 (.ref u3)=some false
 m_NoFloor_NotFull:mroIn K u2 (.ref u4)=some false
 m_NoFloor_Crossed:mroIn K u2 (.ref u0)=some false
 m_NoFloor_FloorError:mroIn K u2 (.ref u1)=some true
 k_NoFloor_NoLine:kitOne K (.ref u2) (.ref u3)=some false
 k_NoFloor_NoFloor:kitOne K (.ref u2) (.ref u2)=some true
 k_NoFloor_ValueError:kitOne K (.ref u2) (.type "ValueError")=some true
 k_NoFloor_NotFull:kitOne K (.ref u2) (.ref u4)=some false
 k_NoFloor_Crossed:kitOne K (.ref u2) (.ref u0)=some false
 fo_NoLine:mroIn K u3 (.type "object")=some true
 fb_NoLine:mroIn K u3 (.type "BaseException")=some true
 fc_NoLine:PySem.W.findIn K (.ref u3) "__class__"=some (some (.builtin "object.__class__"))
 fg_NoLine:PySem.W.findIn K (.ref u3) "__getattribute__"=some (some (.builtin "BaseException.__getattribute__"))
 ft_NoLine:PySem.W.findIn K (.ref u3) "__getattr__"=some none
 m_NoLine_NoFloor:mroIn K u3 (.ref u2)=some false
 m_NoLine_NoLine:mroIn K u3 (.ref u3)=some true
 m_NoLine_NotFull:mroIn K u3 (.ref u4)=some false
 m_NoLine_Crossed:mroIn K u3 (.ref u0)=some false
 m_NoLine_FloorError:mroIn K u3 (.ref u1)=some true
 k_NoLine_NoLine:kitOne K (.ref u3) (.ref u3)=some true
 k_NoLine_NoFloor:kitOne K (.ref u3) (.ref u2)=some false
 k_NoLine_ValueError:kitOne K (.ref u3) (.type "ValueError")=some true
 k_NoLine_NotFull:kitOne K (.ref u3) (.ref u4)=some false
 k_NoLine_Crossed:kitOne K (.ref u3) (.ref u0)=some false
 fo_NotFull:mroIn K u4 (.type "object")=some true
 fb_NotFull:mroIn K u4 (.type "BaseException")=some true
 fc_NotFull:PySem.W.findIn K (.ref u4) "__class__"=some (some (.builtin "object.__class__"))
 fg_NotFull:PySem.W.findIn K (.ref u4) "__getattribute__"=some (some (.builtin "BaseException.__getattribute__"))
 ft_NotFull:PySem.W.findIn K (.ref u4) "__getattr__"=some none
 m_NotFull_NoFloor:mroIn K u4 (.ref u2)=some false
 m_NotFull_NoLine:mroIn K u4 (.ref u3)=some false
 m_NotFull_NotFull:mroIn K u4 (.ref u4)=some true
 m_NotFull_Crossed:mroIn K u4 (.ref u0)=some false
 m_NotFull_FloorError:mroIn K u4 (.ref u1)=some true
 k_NotFull_NoLine:kitOne K (.ref u4) (.ref u3)=some false
 k_NotFull_NoFloor:kitOne K (.ref u4) (.ref u2)=some false
 k_NotFull_ValueError:kitOne K (.ref u4) (.type "ValueError")=some true
 k_NotFull_NotFull:kitOne K (.ref u4) (.ref u4)=some true
 k_NotFull_Crossed:kitOne K (.ref u4) (.ref u0)=some false
section
variable {K:Frag} {mg:Str->Option Value} {u0 u1 u2 u3 u4:Addr}
theorem Exs.kn (Z:Exs K mg u0 u1 u2 u3 u4):∀c,knX c=true->∃C,mg (Str.ofString c)=some (.ref C):=by
 intro c h;simp only [knX,Bool.or_eq_true,beq_iff_eq] at h;rcases h with ((h | h) | h) | h
 . subst h;exact ⟨_,Z.a_Crossed⟩
 . subst h;exact ⟨_,Z.a_NoFloor⟩
 . subst h;exact ⟨_,Z.a_NoLine⟩
 . subst h;exact ⟨_,Z.a_NotFull⟩
theorem Exs.t_NoFloor (Z:Exs K mg u0 u1 u2 u3 u4):Tbl K "NoFloor" u2 [.type "ValueError",.type "Exception",.type "BaseException",.type "object"] "ValueError.__new__" Bf:=⟨Z.n_NoFloor,.inl Z.q_NoFloor,by
 intro c b h;simp only [Bf] at h;by_cases e:c="Crossed"
 . rw [ξ e] at h;cases h;subst e;exact ⟨_,Z.n_Crossed,.inr Z.q_Crossed,Z.m_Crossed_NoFloor⟩
 rw [ψ e] at h;by_cases e:c="NoFloor"
 . rw [ξ e] at h;cases h;subst e;exact ⟨_,Z.n_NoFloor,.inl Z.q_NoFloor,Z.m_NoFloor_NoFloor⟩
 rw [ψ e] at h;by_cases e:c="NoLine"
 . rw [ξ e] at h;cases h;subst e;exact ⟨_,Z.n_NoLine,.inl Z.q_NoLine,Z.m_NoLine_NoFloor⟩
 rw [ψ e] at h;by_cases e:c="NotFull"
 . rw [ξ e] at h;cases h;subst e;exact ⟨_,Z.n_NotFull,.inr Z.q_NotFull,Z.m_NotFull_NoFloor⟩
 rw [ψ e] at h;cases h⟩
theorem Exs.t_NoLine (Z:Exs K mg u0 u1 u2 u3 u4):Tbl K "NoLine" u3 [.type "ValueError",.type "Exception",.type "BaseException",.type "object"] "ValueError.__new__" Av:=⟨Z.n_NoLine,.inl Z.q_NoLine,by
 intro c b h;simp only [Av] at h;by_cases e:c="Crossed"
 . rw [ξ e] at h;cases h;subst e;exact ⟨_,Z.n_Crossed,.inr Z.q_Crossed,Z.m_Crossed_NoLine⟩
 rw [ψ e] at h;by_cases e:c="NoFloor"
 . rw [ξ e] at h;cases h;subst e;exact ⟨_,Z.n_NoFloor,.inl Z.q_NoFloor,Z.m_NoFloor_NoLine⟩
 rw [ψ e] at h;by_cases e:c="NoLine"
 . rw [ξ e] at h;cases h;subst e;exact ⟨_,Z.n_NoLine,.inl Z.q_NoLine,Z.m_NoLine_NoLine⟩
 rw [ψ e] at h;by_cases e:c="NotFull"
 . rw [ξ e] at h;cases h;subst e;exact ⟨_,Z.n_NotFull,.inr Z.q_NotFull,Z.m_NotFull_NoLine⟩
 rw [ψ e] at h;cases h⟩
theorem Exs.t_NotFull (Z:Exs K mg u0 u1 u2 u3 u4):Tbl K "NotFull" u4 [.type "ValueError",.type "Exception",.type "BaseException",.type "object"] "ValueError.__new__" Be:=⟨Z.n_NotFull,.inr Z.q_NotFull,by
 intro c b h;simp only [Be] at h;by_cases e:c="Crossed"
 . rw [ξ e] at h;cases h;subst e;exact ⟨_,Z.n_Crossed,.inr Z.q_Crossed,Z.m_Crossed_NotFull⟩
 rw [ψ e] at h;by_cases e:c="NoFloor"
 . rw [ξ e] at h;cases h;subst e;exact ⟨_,Z.n_NoFloor,.inl Z.q_NoFloor,Z.m_NoFloor_NotFull⟩
 rw [ψ e] at h;by_cases e:c="NoLine"
 . rw [ξ e] at h;cases h;subst e;exact ⟨_,Z.n_NoLine,.inl Z.q_NoLine,Z.m_NoLine_NotFull⟩
 rw [ψ e] at h;by_cases e:c="NotFull"
 . rw [ξ e] at h;cases h;subst e;exact ⟨_,Z.n_NotFull,.inr Z.q_NotFull,Z.m_NotFull_NotFull⟩
 rw [ψ e] at h;cases h⟩
theorem Exs.t_Crossed (Z:Exs K mg u0 u1 u2 u3 u4):Tbl K "Crossed" u0 [.type "ValueError",.type "Exception",.type "BaseException",.type "object"] "ValueError.__new__" Bc:=⟨Z.n_Crossed,.inr Z.q_Crossed,by
 intro c b h;simp only [Bc] at h;by_cases e:c="Crossed"
 . rw [ξ e] at h;cases h;subst e;exact ⟨_,Z.n_Crossed,.inr Z.q_Crossed,Z.m_Crossed_Crossed⟩
 rw [ψ e] at h;by_cases e:c="NoFloor"
 . rw [ξ e] at h;cases h;subst e;exact ⟨_,Z.n_NoFloor,.inl Z.q_NoFloor,Z.m_NoFloor_Crossed⟩
 rw [ψ e] at h;by_cases e:c="NoLine"
 . rw [ξ e] at h;cases h;subst e;exact ⟨_,Z.n_NoLine,.inl Z.q_NoLine,Z.m_NoLine_Crossed⟩
 rw [ψ e] at h;by_cases e:c="NotFull"
 . rw [ξ e] at h;cases h;subst e;exact ⟨_,Z.n_NotFull,.inr Z.q_NotFull,Z.m_NotFull_Crossed⟩
 rw [ψ e] at h;cases h⟩
theorem Exs.t_FloorError (Z:Exs K mg u0 u1 u2 u3 u4):Tbl K "FloorError" u1 [.type "ValueError",.type "Exception",.type "BaseException",.type "object"] "ValueError.__new__" Bs:=⟨Z.n_FloorError,.inl Z.q_FloorError,by
 intro c b h;simp only [Bs] at h;by_cases e:c="Crossed"
 . rw [ξ e] at h;cases h;subst e;exact ⟨_,Z.n_Crossed,.inr Z.q_Crossed,Z.m_Crossed_FloorError⟩
 rw [ψ e] at h;by_cases e:c="NoFloor"
 . rw [ξ e] at h;cases h;subst e;exact ⟨_,Z.n_NoFloor,.inl Z.q_NoFloor,Z.m_NoFloor_FloorError⟩
 rw [ψ e] at h;by_cases e:c="NoLine"
 . rw [ξ e] at h;cases h;subst e;exact ⟨_,Z.n_NoLine,.inl Z.q_NoLine,Z.m_NoLine_FloorError⟩
 rw [ψ e] at h;by_cases e:c="NotFull"
 . rw [ξ e] at h;cases h;subst e;exact ⟨_,Z.n_NotFull,.inr Z.q_NotFull,Z.m_NotFull_FloorError⟩
 rw [ψ e] at h;cases h⟩
theorem Exs.b_NoLine (Z:Exs K mg u0 u1 u2 u3 u4):Bel K (.ref u3) Au:=⟨by
 intro c b h;simp only [Au] at h;by_cases e:c="Crossed"
 . rw [ξ e] at h;cases h;subst e;exact ⟨_,Z.n_Crossed,⟨Z.fo_Crossed,Z.fb_Crossed,Z.fc_Crossed,Z.fg_Crossed,Z.ft_Crossed⟩,Z.k_Crossed_NoLine⟩
 rw [ψ e] at h;by_cases e:c="NoFloor"
 . rw [ξ e] at h;cases h;subst e;exact ⟨_,Z.n_NoFloor,⟨Z.fo_NoFloor,Z.fb_NoFloor,Z.fc_NoFloor,Z.fg_NoFloor,Z.ft_NoFloor⟩,Z.k_NoFloor_NoLine⟩
 rw [ψ e] at h;by_cases e:c="NoLine"
 . rw [ξ e] at h;cases h;subst e;exact ⟨_,Z.n_NoLine,⟨Z.fo_NoLine,Z.fb_NoLine,Z.fc_NoLine,Z.fg_NoLine,Z.ft_NoLine⟩,Z.k_NoLine_NoLine⟩
 rw [ψ e] at h;by_cases e:c="NotFull"
 . rw [ξ e] at h;cases h;subst e;exact ⟨_,Z.n_NotFull,⟨Z.fo_NotFull,Z.fb_NotFull,Z.fc_NotFull,Z.fg_NotFull,Z.ft_NotFull⟩,Z.k_NotFull_NoLine⟩
 rw [ψ e] at h;cases h⟩
theorem Exs.b_NoFloor (Z:Exs K mg u0 u1 u2 u3 u4):Bel K (.ref u2) Bb:=⟨by
 intro c b h;simp only [Bb] at h;by_cases e:c="Crossed"
 . rw [ξ e] at h;cases h;subst e;exact ⟨_,Z.n_Crossed,⟨Z.fo_Crossed,Z.fb_Crossed,Z.fc_Crossed,Z.fg_Crossed,Z.ft_Crossed⟩,Z.k_Crossed_NoFloor⟩
 rw [ψ e] at h;by_cases e:c="NoFloor"
 . rw [ξ e] at h;cases h;subst e;exact ⟨_,Z.n_NoFloor,⟨Z.fo_NoFloor,Z.fb_NoFloor,Z.fc_NoFloor,Z.fg_NoFloor,Z.ft_NoFloor⟩,Z.k_NoFloor_NoFloor⟩
 rw [ψ e] at h;by_cases e:c="NoLine"
 . rw [ξ e] at h;cases h;subst e;exact ⟨_,Z.n_NoLine,⟨Z.fo_NoLine,Z.fb_NoLine,Z.fc_NoLine,Z.fg_NoLine,Z.ft_NoLine⟩,Z.k_NoLine_NoFloor⟩
 rw [ψ e] at h;by_cases e:c="NotFull"
 . rw [ξ e] at h;cases h;subst e;exact ⟨_,Z.n_NotFull,⟨Z.fo_NotFull,Z.fb_NotFull,Z.fc_NotFull,Z.fg_NotFull,Z.ft_NotFull⟩,Z.k_NotFull_NoFloor⟩
 rw [ψ e] at h;cases h⟩
theorem Exs.b_ValueError (Z:Exs K mg u0 u1 u2 u3 u4):Bel K (.type "ValueError") Br:=⟨by
 intro c b h;simp only [Br] at h;by_cases e:c="Crossed"
 . rw [ξ e] at h;cases h;subst e;exact ⟨_,Z.n_Crossed,⟨Z.fo_Crossed,Z.fb_Crossed,Z.fc_Crossed,Z.fg_Crossed,Z.ft_Crossed⟩,Z.k_Crossed_ValueError⟩
 rw [ψ e] at h;by_cases e:c="NoFloor"
 . rw [ξ e] at h;cases h;subst e;exact ⟨_,Z.n_NoFloor,⟨Z.fo_NoFloor,Z.fb_NoFloor,Z.fc_NoFloor,Z.fg_NoFloor,Z.ft_NoFloor⟩,Z.k_NoFloor_ValueError⟩
 rw [ψ e] at h;by_cases e:c="NoLine"
 . rw [ξ e] at h;cases h;subst e;exact ⟨_,Z.n_NoLine,⟨Z.fo_NoLine,Z.fb_NoLine,Z.fc_NoLine,Z.fg_NoLine,Z.ft_NoLine⟩,Z.k_NoLine_ValueError⟩
 rw [ψ e] at h;by_cases e:c="NotFull"
 . rw [ξ e] at h;cases h;subst e;exact ⟨_,Z.n_NotFull,⟨Z.fo_NotFull,Z.fb_NotFull,Z.fc_NotFull,Z.fg_NotFull,Z.ft_NotFull⟩,Z.k_NotFull_ValueError⟩
 rw [ψ e] at h;cases h⟩
theorem Exs.b_NotFull (Z:Exs K mg u0 u1 u2 u3 u4):Bel K (.ref u4) Ba:=⟨by
 intro c b h;simp only [Ba] at h;by_cases e:c="Crossed"
 . rw [ξ e] at h;cases h;subst e;exact ⟨_,Z.n_Crossed,⟨Z.fo_Crossed,Z.fb_Crossed,Z.fc_Crossed,Z.fg_Crossed,Z.ft_Crossed⟩,Z.k_Crossed_NotFull⟩
 rw [ψ e] at h;by_cases e:c="NoFloor"
 . rw [ξ e] at h;cases h;subst e;exact ⟨_,Z.n_NoFloor,⟨Z.fo_NoFloor,Z.fb_NoFloor,Z.fc_NoFloor,Z.fg_NoFloor,Z.ft_NoFloor⟩,Z.k_NoFloor_NotFull⟩
 rw [ψ e] at h;by_cases e:c="NoLine"
 . rw [ξ e] at h;cases h;subst e;exact ⟨_,Z.n_NoLine,⟨Z.fo_NoLine,Z.fb_NoLine,Z.fc_NoLine,Z.fg_NoLine,Z.ft_NoLine⟩,Z.k_NoLine_NotFull⟩
 rw [ψ e] at h;by_cases e:c="NotFull"
 . rw [ξ e] at h;cases h;subst e;exact ⟨_,Z.n_NotFull,⟨Z.fo_NotFull,Z.fb_NotFull,Z.fc_NotFull,Z.fg_NotFull,Z.ft_NotFull⟩,Z.k_NotFull_NotFull⟩
 rw [ψ e] at h;cases h⟩
theorem Exs.b_Crossed (Z:Exs K mg u0 u1 u2 u3 u4):Bel K (.ref u0) Az:=⟨by
 intro c b h;simp only [Az] at h;by_cases e:c="Crossed"
 . rw [ξ e] at h;cases h;subst e;exact ⟨_,Z.n_Crossed,⟨Z.fo_Crossed,Z.fb_Crossed,Z.fc_Crossed,Z.fg_Crossed,Z.ft_Crossed⟩,Z.k_Crossed_Crossed⟩
 rw [ψ e] at h;by_cases e:c="NoFloor"
 . rw [ξ e] at h;cases h;subst e;exact ⟨_,Z.n_NoFloor,⟨Z.fo_NoFloor,Z.fb_NoFloor,Z.fc_NoFloor,Z.fg_NoFloor,Z.ft_NoFloor⟩,Z.k_NoFloor_Crossed⟩
 rw [ψ e] at h;by_cases e:c="NoLine"
 . rw [ξ e] at h;cases h;subst e;exact ⟨_,Z.n_NoLine,⟨Z.fo_NoLine,Z.fb_NoLine,Z.fc_NoLine,Z.fg_NoLine,Z.ft_NoLine⟩,Z.k_NoLine_Crossed⟩
 rw [ψ e] at h;by_cases e:c="NotFull"
 . rw [ξ e] at h;cases h;subst e;exact ⟨_,Z.n_NotFull,⟨Z.fo_NotFull,Z.fb_NotFull,Z.fc_NotFull,Z.fg_NotFull,Z.ft_NotFull⟩,Z.k_NotFull_Crossed⟩
 rw [ψ e] at h;cases h⟩
theorem Exs.i_Crossed (Z:Exs K mg u0 u1 u2 u3 u4):XI K u0 "one":=⟨Z.q_Crossed,Z.s_Crossed,Z.v_Crossed,Z.fo_Crossed⟩
theorem Exs.g_one (Z:Exs K mg u0 u1 u2 u3 u4):∀c,("one":Str)∈B5 c->∃C,nsIn K mainGlobals (Str.ofString c)=some (some (.ref C))/\XI K C "one"/\XF K C:=by
 intro c h;by_cases e:c="Crossed"
 . subst e;exact ⟨_,Z.n_Crossed,Z.i_Crossed,⟨Z.fo_Crossed,Z.fb_Crossed,Z.fc_Crossed,Z.fg_Crossed,Z.ft_Crossed⟩⟩
 unfold B5 at h;repeat (split at h;· first | contradiction | exact absurd h (by decide))
 exact absurd h (by decide)
theorem Exs.i1_Crossed (Z:Exs K mg u0 u1 u2 u3 u4):XI K u0 "other":=⟨Z.q_Crossed,Z.s_Crossed,Z.v1_Crossed,Z.fo_Crossed⟩
theorem Exs.g_other (Z:Exs K mg u0 u1 u2 u3 u4):∀c,("other":Str)∈B5 c->∃C,nsIn K mainGlobals (Str.ofString c)=some (some (.ref C))/\XI K C "other"/\XF K C:=by
 intro c h;by_cases e:c="Crossed"
 . subst e;exact ⟨_,Z.n_Crossed,Z.i1_Crossed,⟨Z.fo_Crossed,Z.fb_Crossed,Z.fc_Crossed,Z.fg_Crossed,Z.ft_Crossed⟩⟩
 unfold B5 at h;repeat (split at h;· first | contradiction | exact absurd h (by decide))
 exact absurd h (by decide)
theorem Exs.i_NotFull (Z:Exs K mg u0 u1 u2 u3 u4):XI K u4 "line":=⟨Z.q_NotFull,Z.s_NotFull,Z.v_NotFull,Z.fo_NotFull⟩
theorem Exs.g_line (Z:Exs K mg u0 u1 u2 u3 u4):∀c,("line":Str)∈B5 c->∃C,nsIn K mainGlobals (Str.ofString c)=some (some (.ref C))/\XI K C "line"/\XF K C:=by
 intro c h;by_cases e:c="NotFull"
 . subst e;exact ⟨_,Z.n_NotFull,Z.i_NotFull,⟨Z.fo_NotFull,Z.fb_NotFull,Z.fc_NotFull,Z.fg_NotFull,Z.ft_NotFull⟩⟩
 unfold B5 at h;repeat (split at h;· first | contradiction | exact absurd h (by decide))
 exact absurd h (by decide)
end
theorem ze:FnScope ["thing"] ["thing"] (d8 Lp):=fsc
theorem qA:FnScope ["a","b"] ["a","b"] (d8 Hi):=fsc
theorem sc_is_side:FnScope ["n","p","a","b"] ["n","p"] (d8 La):=fsc
theorem yF:FnScope ["n","p"] ["n","p"] (d8 Kz):=fsc
theorem sc_cross:FnScope ["p","other","a","b","c","d"] ["p","other"] (d8 Jj):=fsc
theorem xP:FnScope ["thing"] ["thing"] (d8 Kc):=fsc
theorem zc:FnScope ["thing"] ["thing"] (d8 Lo):=fsc
theorem zQ:FnScope ["thing"] ["thing"] (d8 Mp):=fsc
theorem sc_rooms:FnScope ["n","lines","tops"] ["n","lines"] (d8 Ji):=fsc
theorem sc_room_under:FnScope ["top","lines","room"] ["top","lines"] (d8 Ml):=fsc
theorem sc_corner_behind:FnScope ["corner","top","lines","ends"] ["corner","top","lines"] (d8 Nb):=fsc
theorem sc_cutting:FnScope ["n","lines","found"] ["n","lines"] (d8 Ky):=fsc
theorem sc_line_of:FnScope ["n","thing","line"] ["n","thing"] (d8 Kx):=fsc
theorem sc_check_uncrossed:FnScope ["lines","k","other","one"] ["lines"] (d8 Nd):=fsc
theorem sc_free_line:FnScope ["n","lines","wide"] ["n","lines"] (d8 Mc):=fsc
theorem zw:FnScope ["_law_script","_law_k"] ["_law_script","_law_k"] (d8 Mb):=fsc
theorem z6o:FnScope ["_law_found"] ["_law_found"] (d8 Nc):=fsc
theorem sc__law_many:FnScope ["_law_script","_law_cell"] ["_law_script"] (d8 Ma):=fsc
theorem sc__law_stream:FnScope ["_law_cells","_law_many_here","_law_found","_law_number","_law_k"] ["_law_cells","_law_many_here"] (d8 Mn):=fsc
theorem sc__law_grown:FnScope ["_law_stream_here","_law_n","_law_lines","_law_number","_law_at"] ["_law_stream_here"] (d8 Mk):=fsc
theorem sc__law_mixed:FnScope ["_law_stream_here","_law_lines","_law_some","_law_k","_law_line","_law_number"] ["_law_stream_here","_law_lines"] (d8 Mj):=fsc
theorem sc__law_bad:FnScope ["_law_number","_law_n","_law_a","_law_some"] ["_law_number","_law_n"] (d8 Ln):=fsc
theorem sc__law_floor:FnScope ["_law_number","_law_far","_law_some"] ["_law_number"] (d8 Mi):=fsc
theorem sc__law_spoil:FnScope ["_law_some","_law_n","_law_four","_law_at","_law_k","_law_a","_law_line"] ["_law_some","_law_n","_law_four"] (d8 Mh):=fsc
theorem sc__law_is_line:FnScope ["_law_n","_law_thing","_law_least","_law_far"] ["_law_n","_law_thing"] (d8 Mz):=fsc
theorem sc__law_meet:FnScope ["_law_one","_law_other","_law_between"] ["_law_one","_law_other"] (d8 Lz):=fsc
theorem sc__law_due:FnScope ["_law_n","_law_things","_law_lines","_law_k","_law_other","_law_one"] ["_law_n","_law_things"] (d8 Lm):=fsc
theorem sc__law_answer:FnScope ["_law_n","_law_things","_law_told_here","_law_found","e"] ["_law_n","_law_things"] (d8 Mm):=fsc
theorem sc__law_kinds:FnScope ["_law_n","_law_things","_law_told_here","e"] ["_law_n","_law_things"] (d8 Mg):=fsc
theorem zU:FnScope ["_law_found"] ["_law_found"] (d8 My):=fsc
theorem sc__law_told:FnScope ["_law_answer_here","_law_due_here","_law_n","_law_line","_law_found"] ["_law_answer_here","_law_due_here","_law_n"] (d8 Ly):=fsc
theorem sc_law:FnScope ["_law_script","_law_spoils","_law_stream_here","_law_n","_law_lines","_law_some","_law_told_here","_law_k","_law_due_here","_law_handed","_law_kinds_here"] ["_law_script"] (d8 Fy):=fsc
abbrev Ll (P:Program) (w:World) (K:Frag) (mg:Str->Option Value) (base:Heap):Prop:=i6 P w K mg base "is_whole" ["thing"] 1 (spD K mg false N5 1)
abbrev Pm (P:Program) (w:World) (K:Frag) (mg:Str->Option Value) (base:Heap):Prop:=i6 P w K mg base "pair" ["a","b"] 1 (spD K mg false Z4 2)
abbrev Um (P:Program) (w:World) (K:Frag) (mg:Str->Option Value) (base:Heap):Prop:=i6 P w K mg base "is_side" ["n","p"] 1 (spD K mg false At 2)
abbrev Rf (P:Program) (w:World) (K:Frag) (mg:Str->Option Value) (base:Heap):Prop:=i6 P w K mg base "cross" ["p","other"] 1 (spD K mg false Ah 2)
abbrev Xg (P:Program) (w:World) (K:Frag) (mg:Str->Option Value) (base:Heap):Prop:=i6 P w K mg base "corner_behind" ["corner","top","lines"] 1 (spD K mg false Bu 3)
abbrev Wd (P:Program) (w:World) (K:Frag) (mg:Str->Option Value) (base:Heap):Prop:=i6 P w K mg base "_law_pick" ["_law_script","_law_k"] 1 (spD K mg false Bk 2)
abbrev Bv (P:Program) (w:World) (K:Frag) (mg:Str->Option Value) (base:Heap):Prop:=i6 P w K mg base "_law_is_number" ["_law_found"] 1 (spD K mg false G7 1)
abbrev Wy (P:Program) (w:World) (K:Frag) (mg:Str->Option Value) (base:Heap):Prop:=i6 P w K mg base "_law_stream" ["_law_cells","_law_many_here"] 1 (spD K mg true P8 2)
abbrev Wq (P:Program) (w:World) (K:Frag) (mg:Str->Option Value) (base:Heap):Prop:=i6 P w K mg base "_law_grown" ["_law_stream_here"] 1 (spD K mg false Bq 1)
abbrev Wp (P:Program) (w:World) (K:Frag) (mg:Str->Option Value) (base:Heap):Prop:=i6 P w K mg base "_law_mixed" ["_law_stream_here","_law_lines"] 1 (spD K mg true Bp 2)
abbrev Vn (P:Program) (w:World) (K:Frag) (mg:Str->Option Value) (base:Heap):Prop:=i6 P w K mg base "_law_bad" ["_law_number","_law_n"] 1 (spD K mg false V9 2)
abbrev Wo (P:Program) (w:World) (K:Frag) (mg:Str->Option Value) (base:Heap):Prop:=i6 P w K mg base "_law_floor" ["_law_number"] 1 (spD K mg false Bo 1)
abbrev Lx (P:Program) (w:World) (K:Frag) (mg:Str->Option Value) (base:Heap):Prop:=i6 P w K mg base "_law_meet" ["_law_one","_law_other"] 1 (spD K mg false W1 2)
abbrev Ul (P:Program) (w:World) (K:Frag) (mg:Str->Option Value) (base:Heap):Prop:=i6 P w K mg base "is_line" ["n","p"] 2 (spD K mg false As 2)
abbrev Tk (P:Program) (w:World) (K:Frag) (mg:Str->Option Value) (base:Heap):Prop:=i6 P w K mg base "is_two" ["thing"] 2 (spD K mg false Ao 1)
abbrev Vm (P:Program) (w:World) (K:Frag) (mg:Str->Option Value) (base:Heap):Prop:=i6 P w K mg base "is_floor" ["thing"] 2 (spD K mg false Ay 1)
abbrev Wn (P:Program) (w:World) (K:Frag) (mg:Str->Option Value) (base:Heap):Prop:=i6 P w K mg base "room_under" ["top","lines"] 2 (spD K mg false Bn 2)
abbrev Wc (P:Program) (w:World) (K:Frag) (mg:Str->Option Value) (base:Heap):Prop:=i6 P w K mg base "_law_many" ["_law_script"] 2 (spD K mg false Bj 1)
abbrev Wm (P:Program) (w:World) (K:Frag) (mg:Str->Option Value) (base:Heap):Prop:=i6 P w K mg base "_law_spoil" ["_law_some","_law_n","_law_four"] 2 (spU K L5 3)
abbrev Mx (P:Program) (w:World) (K:Frag) (mg:Str->Option Value) (base:Heap):Prop:=i6 P w K mg base "_law_is_line" ["_law_n","_law_thing"] 2 (spD K mg false P9 2)
abbrev Xa (P:Program) (w:World) (K:Frag) (mg:Str->Option Value) (base:Heap):Prop:=i6 P w K mg base "_law_is_pair" ["_law_found"] 2 (spD K mg false N9 1)
abbrev Wx (P:Program) (w:World) (K:Frag) (mg:Str->Option Value) (base:Heap):Prop:=i6 P w K mg base "check_floor" ["thing"] 3 (spD K mg false P7 1)
abbrev Re (P:Program) (w:World) (K:Frag) (mg:Str->Option Value) (base:Heap):Prop:=i6 P w K mg base "rooms" ["n","lines"] 3 (spD K mg true Ag 2)
abbrev Uk (P:Program) (w:World) (K:Frag) (mg:Str->Option Value) (base:Heap):Prop:=i6 P w K mg base "line_of" ["n","thing"] 3 (spD K mg false V5 2)
abbrev Xj (P:Program) (w:World) (K:Frag) (mg:Str->Option Value) (base:Heap):Prop:=i6 P w K mg base "check_uncrossed" ["lines"] 3 (spD K mg false Bw 1)
abbrev Vl (P:Program) (w:World) (K:Frag) (mg:Str->Option Value) (base:Heap):Prop:=i6 P w K mg base "_law_due" ["_law_n","_law_things"] 3 (spD K mg false C8 2)
abbrev Wb (P:Program) (w:World) (K:Frag) (mg:Str->Option Value) (base:Heap):Prop:=i6 P w K mg base "_law_told" ["_law_answer_here","_law_due_here","_law_n"] 3 (spD K mg false F6 3)
abbrev Wa (P:Program) (w:World) (K:Frag) (mg:Str->Option Value) (base:Heap):Prop:=i6 P w K mg base "free_line" ["n","lines"] 4 (spD K mg false Bi 2)
abbrev Kw (P:Program) (w:World) (K:Frag) (mg:Str->Option Value) (base:Heap):Prop:=i6 P w K mg base "cutting" ["n","lines"] 5 (spD K mg false t7 2)
abbrev Ww (P:Program) (w:World) (K:Frag) (mg:Str->Option Value) (base:Heap):Prop:=i6 P w K mg base "_law_answer" ["_law_n","_law_things"] 6 (spD K mg false N8 2)
abbrev Wl (P:Program) (w:World) (K:Frag) (mg:Str->Option Value) (base:Heap):Prop:=i6 P w K mg base "_law_kinds" ["_law_n","_law_things"] 6 (spD K mg true N7 2)
section
variable {P:Program} {w:World} {K:Frag} {mg:Str->Option Value} {base:Heap} {f:Addr} {fd:FuncData} {u0 u1 u2 u3 u4:Addr}
theorem zb (F:Fun K "is_whole" "is_whole" Lp f fd) (T:Txt mg) (Z:Exs K mg u0 u1 u2 u3 u4)  : FnOk P w K mg base (CX1 P w) 1 f fd ["thing"] (spD K mg false N5 1):=
 fnD (k:=0) F ze rfl rfl fun cdv A outer s H E hr=>
  (c9 (h8 (r6 (G0 rfl T.isinstance boot_isinstance (qv 0) (F3 (v:=.ty "int") rfl T.int boot_int rfl)) (B9 (Da (G0 rfl T.isinstance boot_isinstance (qv 0) (F3 (v:=.ty "bool") rfl T.bool boot_bool rfl)))))))
theorem qz (F:Fun K "pair" "pair" Hi f fd) (T:Txt mg) (Z:Exs K mg u0 u1 u2 u3 u4)  : FnOk P w K mg base (CX1 P w) 1 f fd ["a","b"] (spD K mg false Z4 2):=
 fnD (k:=0) F qA rfl rfl fun cdv A outer s H E hr=>
  (c9 (h8 (Zd (v4 o7 o9 (qv 0) (qv 1) (d9 _)) (i7 (a7 (qv 0) (a7 (qv 1) b6))) (i7 (a7 (qv 1) (a7 (qv 0) b6))))))
theorem yE (F:Fun K "is_side" "is_side" La f fd) (T:Txt mg) (Z:Exs K mg u0 u1 u2 u3 u4)  : FnOk P w K mg base (CX1 P w) 1 f fd ["n","p"] (spD K mg false At 2):=
 fnD (k:=0) F sc_is_side rfl rfl fun cdv A outer s H E hr=>
  (c8 (sA 2 sc_is_side.nd (qI hr (qv 1) a9))
   (c8 (sA 3 sc_is_side.nd (qI hr (qv 1) a9))
   (c8 (m4 (QW.pt (D4 (v4 o7 o9 (qv 2) a9 (d9 _)) (M4 (v4 y2v Zh (qv 3) (qv 0) (d9 _)))))
    (c9 (h8 E2))
    m7)
   (c9 (h8 (Fa (n5 (z7 hr.units) z6 (qv 3) (c7 r8 r9 (qv 2) a9) (d9 _)) (B9 (r6 (n5 (z7 hr.units) z6 (qv 2) a9 (d9 _)) (B9 (n5 (z7 hr.units) z6 (qv 3) (c7 D8 D9 (qv 0) a9) (d9 _)))))))))))
theorem wB (F:Fun K "cross" "cross" Jj f fd) (T:Txt mg) (Z:Exs K mg u0 u1 u2 u3 u4)  : FnOk P w K mg base (CX1 P w) 1 f fd ["p","other"] (spD K mg false Ah 2):=
 fnD (k:=0) F sc_cross rfl rfl fun cdv A outer s H E hr=>
  (c8 (sA 2 sc_cross.nd (qI hr (qv 0) a9))
   (c8 (sA 3 sc_cross.nd (qI hr (qv 0) a9))
   (c8 (sA 4 sc_cross.nd (qI hr (qv 1) a9))
   (c8 (sA 5 sc_cross.nd (qI hr (qv 1) a9))
   (c9 (h8 (Fa (Y8 (qv 2) (N0 o7 o9 (qv 4) (N0 o7 o9 (qv 3) (Z7 o7 o9 (qv 5))))) (B9 (Y8 (qv 4) (N0 o7 o9 (qv 2) (N0 o7 o9 (qv 5) (Z7 o7 o9 (qv 3)))))))))))))
theorem zY (F:Fun K "corner_behind" "corner_behind" Nb f fd) (T:Txt mg) (Z:Exs K mg u0 u1 u2 u3 u4)  : FnOk P w K mg base (CX1 P w) 1 f fd ["corner","top","lines"] (spD K mg false Bu 3):=
 fnD (k:=0) F sc_corner_behind rfl rfl fun cdv A outer s H E hr=>
  (c8 (Ev sc_corner_behind.nd (k:=3) rfl rfl (G6 (caps:=["corner","top"]) (ix:=[0,1]) rfl rfl) (by decide +kernel) rfl (C5 (qv 2)) (.one fun _ _ _=>(QW.pt (S7 (tE hr (qI hr (qv 0) a9) (qv 1) (d9 _)) (S7 (v4 R1 S9 (qI hr (qv 0) a9) (qI hr (qv 2) a9) (d9 _)) (Z8 (tN hr (qv 0) (qv 2) (d9 _))))))) (fun _ _ _=>(qI hr (qv 0) a9)))
   (c9 (h8 (jN rfl rfl T.«max» boot_max (qv 3) (c7 r8 r9 (qv 0) a9)))))
theorem zv (F:Fun K "_law_pick" "_law_pick" Mb f fd) (T:Txt mg) (Z:Exs K mg u0 u1 u2 u3 u4)  : FnOk P w K mg base (CX1 P w) 1 f fd ["_law_script","_law_k"] (spD K mg false Bk 2):=
 fnD (k:=0) F zw rfl rfl fun cdv A outer s H E hr=>
  (c8 (m4 (v4 o7 o9 (qv 1) (qL T.len (qv 0)) (d9 _))
    (c9 (h8 (qI hr (qv 0) (qv 1))))
    m7)
   (c9 (h8 a9)))
theorem zZ (F:Fun K "_law_is_number" "_law_is_number" Nc f fd) (T:Txt mg) (Z:Exs K mg u0 u1 u2 u3 u4)  : FnOk P w K mg base (CX1 P w) 1 f fd ["_law_found"] (spD K mg false G7 1):=
 fnD (k:=0) F z6o rfl rfl fun cdv A outer s H E hr=>
  (c9 (h8 (r6 (G0 rfl T.isinstance boot_isinstance (qv 0) (F3 (v:=.ty "int") rfl T.int boot_int rfl)) (B9 (Da (G0 rfl T.isinstance boot_isinstance (qv 0) (F3 (v:=.ty "bool") rfl T.bool boot_bool rfl)))))))
theorem zP (F:Fun K "_law_stream" "_law_stream" Mn f fd) (T:Txt mg) (Z:Exs K mg u0 u1 u2 u3 u4)  : FnOk P w K mg base (CX1 P w) 1 f fd ["_law_cells","_law_many_here"] (spD K mg true P8 2):=
 fnD (k:=0) F sc__law_stream rfl rfl fun cdv A outer s H E hr=>
  (c8 (sA 2 sc__law_stream.nd (v5 b6))
   (c8 (sA 3 sc__law_stream.nd a9)
   (c8 (M3 PassesOwn.leaving rfl (Ey rfl T.range (a7 (qv 1) b6)) (g_n (i:=4) sc__law_stream.nd rfl (Or.inl rfl))
    (c8 (sA 3 sc__law_stream.nd (c7 l8 l9 (c7 r8 r9 (c7 r8 r9 (c7 J6 K0 (qv 3) a9) (c7 J6 K0 (qv 4) (qv 4))) a9) a9))
   (c8 (m4 (v4 o7 o9 (qv 4) (qL T.len (qv 0)) (d9 _))
    (c9 (sA 3 sc__law_stream.nd (c7 l8 l9 (c7 r8 r9 (qv 3) (qI hr (qv 0) (qv 4))) a9)))
    m7)
   (c9 (Y7 PySem.F.plainAttrs_list PySem.F.slot_list_append PySem.F.type_list_append V7 Cy G3 (pw 2) (a7 (qv 3) b6))))))
   (c9 (Ht (i:=2))))))
theorem zK (F:Fun K "_law_grown" "_law_grown" Mk f fd) (T:Txt mg) (Z:Exs K mg u0 u1 u2 u3 u4)  : FnOk P w K mg base (CX1 P w) 1 f fd ["_law_stream_here"] (spD K mg false Bq 1):=
 fnD (k:=0) F sc__law_grown rfl rfl fun cdv A outer s H E hr=>
  (c8 (sA 1 sc__law_grown.nd a9)
   (c8 (sA 2 sc__law_grown.nd (v5 b6))
   (c8 (M3 PassesOwn.leaving rfl (C5 (qv 0)) (g_n (i:=3) sc__law_grown.nd rfl (Or.inl rfl))
    (c8 (sA 4 sc__law_grown.nd (c7 l8 l9 (qv 3) (qv 1)))
   (c8 (y3b sc__law_grown.nd (k:=2) rfl rfl (G6 (caps:=["_law_at"]) (ix:=[4]) rfl rfl) (by decide +kernel) rfl rfl (C5 (qv 2)) .nil (fun _ _ _=>(i7 (a7 (c7 r8 r9 (qv 0) (J4 Gm Hv rfl T.int boot_int (a7 (n5 X6 Z9 (qv 0) (qv 2) (d9 _)) b6))) (a7 (c7 r8 r9 (qv 1) (J4 Gm Hv rfl T.int boot_int (a7 (n5 X6 Z9 (qv 1) (qv 2) (d9 _)) b6))) b6)))))
   (c8 (m4 (tE hr (qv 4) (c7 D8 D9 (qv 1) a9) (d9 _))
    (c9 (Y7 PySem.F.plainAttrs_list PySem.F.slot_list_append PySem.F.type_list_append V7 Cy G3 (pw 2) (a7 (i7 (a7 a9 (a7 (qv 4) b6))) b6)))
    (c9 (Y7 PySem.F.plainAttrs_list PySem.F.slot_list_append PySem.F.type_list_append V7 Cy G3 (pw 2) (a7 (i7 (a7 (qv 4) (a7 (c7 r8 r9 (qv 4) a9) b6))) b6))))
   (c9 (sA 1 sc__law_grown.nd (c7 r8 r9 (qv 1) a9)))))))
   (c9 (h8 (i7 (a7 (qv 1) (a7 (qv 2) b6))))))))
theorem zJ (F:Fun K "_law_mixed" "_law_mixed" Mj f fd) (T:Txt mg) (Z:Exs K mg u0 u1 u2 u3 u4)  : FnOk P w K mg base (CX1 P w) 1 f fd ["_law_stream_here","_law_lines"] (spD K mg true Bp 2):=
 fnD (k:=0) F sc__law_mixed rfl rfl fun cdv A outer s H E hr=>
  (c8 (sA 2 sc__law_mixed.nd (v5 b6))
   (c8 (M3 PassesOwn.leaving rfl (Ew rfl T.enumerate (a7 (qv 1) b6)) (g_t rfl (N4 (i:=3) sc__law_mixed.nd rfl (Or.inl rfl) (N4 (i:=4) sc__law_mixed.nd rfl (Or.inl rfl) Cz)))
    (c8 (sA 5 sc__law_mixed.nd (c7 l8 l9 (c7 r8 r9 (c7 r8 r9 (c7 J6 K0 (qI hr (qv 0) (qv 3)) a9) (c7 J6 K0 (c7 J6 K0 (qv 3) (qv 3)) a9)) a9) a9))
   (c9 (Y7 PySem.F.plainAttrs_list PySem.F.slot_list_insert PySem.F.type_list_insert Ee Cv G3 (pw 2) (a7 (c7 l8 l9 (qv 5) (c7 r8 r9 (qL T.len (qv 2)) a9)) (a7 (qI hr (QE.wk (v5 (a7 (qv 4) (a7 (i7 (a7 (qI hr (qv 4) a9) (a7 (qI hr (qv 4) a9) b6))) b6)))) (c7 l8 l9 (c7 Ad Aa (qv 5) a9) a9)) b6))))))
   (c9 (Ht (i:=2)))))
theorem za (F:Fun K "_law_bad" "_law_bad" Ln f fd) (T:Txt mg) (Z:Exs K mg u0 u1 u2 u3 u4)  : FnOk P w K mg base (CX1 P w) 1 f fd ["_law_number","_law_n"] (spD K mg false V9 2):=
 fnD (k:=0) F sc__law_bad rfl rfl fun cdv A outer s H E hr=>
  (c8 (sA 2 sc__law_bad.nd (c7 l8 l9 (c7 Ad Aa (qv 0) a9) (qv 1)))
   (c8 (sA 3 sc__law_bad.nd (v5 (a7 Gk (a7 m8 (a7 a9 (a7 (QE.wk (v5 (a7 a9 (a7 a9 b6)))) (a7 (i7 (a7 a9 b6)) (a7 (i7 (a7 a9 (a7 a9 (a7 a9 b6)))) (a7 (i7 (a7 a9 (a7 Gk b6))) (a7 (i7 (a7 m8 (a7 a9 b6))) (a7 (i7 (a7 E2 (a7 a9 b6))) (a7 (i7 (a7 (qv 2) (a7 (qv 2) b6))) (a7 (i7 (a7 (qv 2) (a7 (c7 l8 l9 (c7 r8 r9 (qv 2) a9) (qv 1)) b6))) b6)))))))))))))
   (c8 (sA 3 sc__law_bad.nd (c7 Jb Hw (qv 3) (QE.wk (v5 (a7 (i7 (a7 (c7 D8 D9 (qv 1) a9) (a7 a9 b6))) (a7 (i7 (a7 (Q6 T0 T8 a9) (a7 a9 b6))) (a7 (i7 (a7 a9 (a7 (qv 1) b6))) (a7 (i7 (a7 a9 (a7 (Q6 T0 T8 (qv 1)) b6))) (a7 (i7 (a7 a9 (a7 (c7 Gw Hx a9 a9) b6))) (a7 (QE.wk jY) (a7 (i7 b6) b6)))))))))))
   (c9 (h8 (qI hr (qv 3) (c7 l8 l9 (qv 0) a9)))))))
theorem zI (F:Fun K "_law_floor" "_law_floor" Mi f fd) (T:Txt mg) (Z:Exs K mg u0 u1 u2 u3 u4)  : FnOk P w K mg base (CX1 P w) 1 f fd ["_law_number"] (spD K mg false Bo 1):=
 fnD (k:=0) F sc__law_floor rfl rfl fun cdv A outer s H E hr=>
  (c8 (sA 1 sc__law_floor.nd (c7 l8 l9 (c7 Ad Aa (qv 0) a9) (c7 Gw Hx a9 a9)))
   (c8 (sA 2 sc__law_floor.nd (v5 (a7 a9 (a7 a9 (a7 a9 (a7 (Q6 T0 T8 a9) (a7 a9 (a7 (c7 r8 r9 a9 (qv 1)) (a7 (c7 D8 D9 (Q6 T0 T8 a9) (qv 1)) (a7 E2 (a7 Gk (a7 m8 (a7 (QE.wk (v5 (a7 a9 b6))) (a7 (i7 (a7 a9 b6)) (a7 (c7 Gw Hx a9 a9) b6)))))))))))))))
   (c9 (h8 (qI hr (qv 2) (c7 l8 l9 (qv 0) a9))))))
theorem zu (F:Fun K "_law_meet" "_law_meet" Lz f fd) (T:Txt mg) (Z:Exs K mg u0 u1 u2 u3 u4)  : FnOk P w K mg base (CX1 P w) 1 f fd ["_law_one","_law_other"] (spD K mg false W1 2):=
 fnD (k:=0) F sc__law_meet rfl rfl fun cdv A outer s H E hr=>
  (c8 (sA 2 sc__law_meet.nd (y6 (Zt rfl) ke rfl T.sum boot_sum (a7 (QE.wk (W9 (G6 (caps:=["_law_one"]) (ix:=[0]) rfl rfl) (by decide +kernel) rfl (C5 (qv 1)) .nil (fun _ _ _=>(J4 Gm Hv rfl T.int boot_int (a7 (Y8 (qI hr (qv 1) a9) (N0 o7 o9 (qv 0) (Z7 o7 o9 (qI hr (qv 1) a9)))) b6))))) b6)))
   (c9 (h8 (Fa (n5 (z7 hr.units) z6 (qv 0) (qv 1) (d9 _)) (B9 (r6 (n5 (z7 hr.units) z6 (qv 2) a9 (d9 _)) (r6 (n5 (Tz hr.units) Of (qI hr (qv 0) a9) (qv 1) (by with_unfolding_all rfl)) (B9 (n5 (Tz hr.units) Of (qI hr (qv 0) a9) (qv 1) (by with_unfolding_all rfl))))))))))
theorem yD (F:Fun K "is_line" "is_line" Kz f fd) (T:Txt mg) (Z:Exs K mg u0 u1 u2 u3 u4) (G_is_side:Um P w K mg base):FnOk P w K mg base (CX1 P w) 2 f fd ["n","p"] (spD K mg false As 2):=
 fnD (k:=1) F yF rfl rfl fun cdv A outer s H E hr=>
  (c9 (h8 (r6 (Y8 a9 (N0 R1 S9 (qI hr (qv 1) a9) (N0 o7 o9 (qI hr (qv 1) a9) (Z7 o7 o9 (qv 0))))) (B9 (Da (i5 i4 G_is_side hr rfl (a7 (qv 0) (a7 (qv 1) b6))))))))
theorem xO (F:Fun K "is_two" "is_two" Kc f fd) (T:Txt mg) (Z:Exs K mg u0 u1 u2 u3 u4) (G_is_whole:Ll P w K mg base):FnOk P w K mg base (CX1 P w) 2 f fd ["thing"] (spD K mg false Ao 1):=
 fnD (k:=1) F xP rfl rfl fun cdv A outer s H E hr=>
  (c9 (h8 (r6 (G0 rfl T.isinstance boot_isinstance (qv 0) (F3 (v:=.ty "tuple") rfl T.tuple boot_tuple rfl)) (r6 (n5 (z7 hr.units) z6 (qL T.len (qv 0)) a9 (d9 _)) (r6 (i5 i4 G_is_whole hr rfl (a7 (qI hr (qv 0) a9) b6)) (B9 (i5 i4 G_is_whole hr rfl (a7 (qI hr (qv 0) a9) b6))))))))
theorem yZ (F:Fun K "is_floor" "is_floor" Lo f fd) (T:Txt mg) (Z:Exs K mg u0 u1 u2 u3 u4) (G_is_whole:Ll P w K mg base):FnOk P w K mg base (CX1 P w) 2 f fd ["thing"] (spD K mg false Ay 1):=
 fnD (k:=1) F zc rfl rfl fun cdv A outer s H E hr=>
  (c9 (h8 (r6 (i5 i4 G_is_whole hr rfl (a7 (qv 0) b6)) (B9 (Y8 a9 (N0 R1 S9 (qv 0) (Z7 R1 S9 a9)))))))
theorem zH (F:Fun K "room_under" "room_under" Ml f fd) (T:Txt mg) (Z:Exs K mg u0 u1 u2 u3 u4) (G_corner_behind:Xg P w K mg base):FnOk P w K mg base (CX1 P w) 2 f fd ["top","lines"] (spD K mg false Bn 2):=
 fnD (k:=1) F sc_room_under rfl rfl fun cdv A outer s H E hr=>
  (c8 (sA 2 sc_room_under.nd (v5 (a7 (qI hr (qv 0) a9) b6)))
   (c8 (vn (n:=1000) PassesOwn.leaving (v4 o7 o9 (qI hr (qv 2) (Q6 T0 T8 a9)) (qI hr (qv 0) a9) (d9 _))
    (c9 (Y7 PySem.F.plainAttrs_list PySem.F.slot_list_append PySem.F.type_list_append V7 Cy G3 (pw 2) (a7 (i5 i4 G_corner_behind hr rfl (a7 (qI hr (qv 2) (Q6 T0 T8 a9)) (a7 (qv 0) (a7 (qv 1) b6)))) b6))))
   (c9 (h8 (J4 Km Kl rfl T.tuple boot_tuple (a7 (qv 2) b6))))))
theorem zt (F:Fun K "_law_many" "_law_many" Ma f fd) (T:Txt mg) (Z:Exs K mg u0 u1 u2 u3 u4) (G__law_pick:Wd P w K mg base):FnOk P w K mg base (CX1 P w) 2 f fd ["_law_script"] (spD K mg false Bj 1):=
 fnD (k:=1) F sc__law_many rfl rfl fun cdv A outer s H E hr=>
  (c8 (sA 1 sc__law_many.nd (i5 i4 G__law_pick hr rfl (a7 (qv 0) (a7 a9 b6))))
   (c8 (m4 (tE hr (c7 l8 l9 (qv 1) a9) a9 (d9 _))
    (c9 (h8 (c7 l8 l9 (c7 Ad Aa (qv 1) a9) a9)))
    m7)
   (c8 (m4 (tE hr (c7 l8 l9 (qv 1) a9) a9 (d9 _))
    (c9 (h8 (c7 l8 l9 (c7 Ad Aa (qv 1) a9) a9)))
    m7)
   (c9 (h8 (y6 (kD rfl) vo rfl T.«min» boot_min (a7 a9 (a7 (y6 (kE rfl) vp rfl T.«max» boot_max (a7 a9 (a7 (c7 D8 D9 (qL T.len (qv 0)) a9) b6))) b6))))))))
theorem zG (F:Fun K "_law_spoil" "_law_spoil" Mh f fd) (T:Txt mg) (Z:Exs K mg u0 u1 u2 u3 u4) (G__law_bad:Vn P w K mg base):FnOk P w K mg base (CX1 P w) 2 f fd ["_law_some","_law_n","_law_four"] (spU K L5 3):=
 fnU (k:=1) F sc__law_spoil rfl rfl fun cdv A outer s H E hr=>
  (N1 (Gc (i:=3) (by decide) sc__law_spoil.nd rfl (Or.inl rfl) (c7 l8 l9 (qI hr (qv 2) a9) (c7 r8 r9 (qL T.len (qv 0)) a9)))
   (N1 (Q2 (QW.pt (S7 (tE hr (c7 l8 l9 (qI hr (qv 2) a9) a9) a9 (d9 _)) (Z8 (v4 (Gb hr.units) Hm (qv 0) (QE.wk (v5 b6)) (d9 _)))))
    (M8 (Cl PySem.F.plainAttrs_list PySem.F.slot_list_pop PySem.F.type_list_pop xG jH G3 (pw 0) (a7 (c7 l8 l9 (qI hr (qv 2) a9) (qL T.len (qv 0))) b6)))
    T4)
   (N1 (Q2 (tE hr (c7 l8 l9 (qI hr (qv 2) a9) a9) a9 (d9 _))
    (M8 (y0v PassesOwn.leaving rfl (Ey rfl T.range (a7 (c7 D8 D9 (qL T.len (qv 0)) (qv 3)) b6)) (y3k (i:=4) (by decide) sc__law_spoil.nd rfl (Or.inl rfl))
    (M8 (jC PySem.F.plainAttrs_list PySem.F.slot_list_pop PySem.F.type_list_pop kM qR G3 (pw 0)))))
    T4)
   (N1 (Q2 (tE hr (c7 l8 l9 (qI hr (qv 2) a9) a9) a9 (d9 _))
    (M8 (Cl PySem.F.plainAttrs_list PySem.F.slot_list_insert PySem.F.type_list_insert Ee Cv G3 (pw 0) (a7 (qv 3) (a7 (i5 Q9 G__law_bad hr rfl (a7 (qI hr (qv 2) a9) (a7 (qv 1) b6))) b6))))
    T4)
   (N1 (Q2 (QW.pt (S7 (tE hr (c7 l8 l9 (qI hr (qv 2) a9) a9) a9 (d9 _)) (Z8 (v4 X6 Z9 (qv 1) a9 (d9 _)))))
    (N1 (Gc (i:=5) (by decide) sc__law_spoil.nd rfl (Or.inl rfl) (c7 l8 l9 (qI hr (qv 2) a9) (qv 1)))
   (M8 (Cl PySem.F.plainAttrs_list PySem.F.slot_list_insert PySem.F.type_list_insert Ee Cv G3 (pw 0) (a7 (qv 3) (a7 (i7 (a7 (qv 5) (a7 (c7 l8 l9 (c7 r8 r9 (c7 r8 r9 (qv 5) a9) (c7 l8 l9 (qI hr (qv 2) a9) (c7 D8 D9 (qv 1) a9))) (qv 1)) b6))) b6)))))
    T4)
   (M8 (Q2 (QW.pt (S7 (tE hr (c7 l8 l9 (qI hr (qv 2) a9) a9) a9 (d9 _)) (Z8 (v4 (Gb hr.units) Hm (qv 0) (QE.wk (v5 b6)) (d9 _)))))
    (N1 (y10 (i:=0) (j:=6) (by decide) sc__law_spoil.nd rfl (Or.inl rfl) (pw 0) (c7 l8 l9 (qI hr (qv 2) a9) (qL T.len (qv 0))))
   (N1 (Q2 (QW.pt (S7 (v8 (G0 rfl T.isinstance boot_isinstance (qv 6) (F3 (v:=.ty "tuple") rfl T.tuple boot_tuple rfl))) (Z8 (tE hr (qL T.len (qv 6)) a9 (d9 _)))))
    (M8 (Gc (i:=6) (by decide) sc__law_spoil.nd rfl (Or.inl rfl) (i7 (a7 (qI hr (qv 6) a9) (a7 (qI hr (qv 6) a9) b6)))))
    T4)
   (M8 (Cl PySem.F.plainAttrs_list PySem.F.slot_list_insert PySem.F.type_list_insert Ee Cv G3 (pw 0) (a7 (qv 3) (a7 (qv 6) b6))))))
    T4)))))))
theorem zT (F:Fun K "_law_is_line" "_law_is_line" Mz f fd) (T:Txt mg) (Z:Exs K mg u0 u1 u2 u3 u4) (G__law_is_number:Bv P w K mg base):FnOk P w K mg base (CX1 P w) 2 f fd ["_law_n","_law_thing"] (spD K mg false P9 2):=
 fnD (k:=1) F sc__law_is_line rfl rfl fun cdv A outer s H E hr=>
  (c8 (m4 (QW.pt (D4 (B8 (v8 (G0 rfl T.isinstance boot_isinstance (qv 1) (F3 (v:=.ty "tuple") rfl T.tuple boot_tuple rfl)))) (D4 (tN hr (qL T.len (qv 1)) a9 (d9 _)) (D4 (B8 (v8 (i5 i4 G__law_is_number hr rfl (a7 (qI hr (qv 1) a9) b6)))) (M4 (B8 (v8 (i5 i4 G__law_is_number hr rfl (a7 (qI hr (qv 1) a9) b6)))))))))
    (c9 (h8 E2))
    m7)
   (c8 (sA 2 sc__law_is_line.nd (y6 (Pw rfl) Rl rfl T.«min» boot_min (a7 (qv 1) b6)))
   (c8 (sA 3 sc__law_is_line.nd (c7 D8 D9 (y6 (Hl rfl) Jm rfl T.«max» boot_max (a7 (qv 1) b6)) (qv 2)))
   (c9 (h8 (r6 (n5 R1 S9 a9 (qv 2) (d9 _)) (r6 (n5 o7 o9 (y6 (Hl rfl) Jm rfl T.«max» boot_max (a7 (qv 1) b6)) (qv 0) (d9 _)) (r6 (n5 R1 S9 a9 (qv 3) (d9 _)) (B9 (n5 o7 o9 (qv 3) (c7 D8 D9 (qv 0) a9) (d9 _)))))))))))
theorem zS (F:Fun K "_law_is_pair" "_law_is_pair" My f fd) (T:Txt mg) (Z:Exs K mg u0 u1 u2 u3 u4) (G__law_is_number:Bv P w K mg base):FnOk P w K mg base (CX1 P w) 2 f fd ["_law_found"] (spD K mg false N9 1):=
 fnD (k:=1) F zU rfl rfl fun cdv A outer s H E hr=>
  (c8 (m4 (QW.pt (D4 (B8 (v8 (G0 rfl T.isinstance boot_isinstance (qv 0) (F3 (v:=.ty "tuple") rfl T.tuple boot_tuple rfl)))) (M4 (tN hr (qL T.len (qv 0)) a9 (d9 _)))))
    (c9 (h8 E2))
    m7)
   (c9 (h8 (r6 (i5 i4 G__law_is_number hr rfl (a7 (qI hr (qv 0) a9) b6)) (r6 (i5 i4 G__law_is_number hr rfl (a7 (qI hr (qv 0) a9) b6)) (B9 (n5 o7 o9 (qI hr (qv 0) a9) (qI hr (qv 0) a9) (d9 _))))))))
theorem zO (F:Fun K "check_floor" "check_floor" Mp f fd) (T:Txt mg) (Z:Exs K mg u0 u1 u2 u3 u4) (G_is_floor:Vm P w K mg base):FnOk P w K mg base (CX1 P w) 3 f fd ["thing"] (spD K mg false P7 1):=
 fnD (k:=2) F zQ rfl rfl fun cdv A outer s H E hr=>
  (c9 (m4 (B8 (v8 (i5 i4 G_is_floor hr rfl (a7 (qv 0) b6))))
   (c9 (Jp (c:="NoFloor") i4 PySem.F.excBase_ValueError rfl rfl Z.a_NoFloor Z.q_NoFloor (a7 m8 b6)))
   m7))
theorem wA (F:Fun K "rooms" "rooms" Ji f fd) (T:Txt mg) (Z:Exs K mg u0 u1 u2 u3 u4) (G_room_under:Wn P w K mg base):FnOk P w K mg base (CX1 P w) 3 f fd ["n","lines"] (spD K mg true Ag 2):=
 fnD (k:=2) F sc_rooms rfl rfl fun cdv A outer s H E hr=>
  (c8 (sA 2 sc_rooms.nd (c7 Jb Hw (QE.wk (v5 (a7 (i7 (a7 a9 (a7 (c7 D8 D9 (qv 0) a9) b6))) b6))) (QE.wk (J4 Js Jr rfl T.list boot_list (a7 (qv 1) b6)))))
   (c9 (h8 (y6 (Jk rfl hr.units) Ke rfl T.sorted boot_sorted (a7 (QE.wk (W9 (G6 (caps:=["lines"]) (ix:=[1]) rfl rfl) (by decide +kernel) rfl (C5 (qv 2)) .nil (fun _ _ _=>(i5 Q9 G_room_under hr rfl (a7 (qv 0) (a7 (qv 1) b6)))))) b6)))))
theorem yC (F:Fun K "line_of" "line_of" Kx f fd) (T:Txt mg) (Z:Exs K mg u0 u1 u2 u3 u4) (G_is_line:Ul P w K mg base) (G_is_two:Tk P w K mg base) (G_pair:Pm P w K mg base):FnOk P w K mg base (CX1 P w) 3 f fd ["n","thing"] (spD K mg false V5 2):=
 fnD (k:=2) F sc_line_of rfl rfl fun cdv A outer s H E hr=>
  (c8 (m4 (B8 (v8 (i5 i4 G_is_two hr rfl (a7 (qv 1) b6))))
    (c9 (Jp (c:="NoLine") i4 PySem.F.excBase_ValueError rfl rfl Z.a_NoLine Z.q_NoLine (a7 m8 b6)))
    m7)
   (c8 (sA 2 sc_line_of.nd (i5 i4 G_pair hr rfl (a7 (qI hr (qv 1) a9) (a7 (qI hr (qv 1) a9) b6))))
   (c8 (m4 (B8 (v8 (i5 i4 G_is_line hr rfl (a7 (qv 0) (a7 (qv 2) b6)))))
    (c9 (Jp (c:="NoLine") i4 PySem.F.excBase_ValueError rfl rfl Z.a_NoLine Z.q_NoLine (a7 m8 b6)))
    m7)
   (c9 (h8 (qv 2))))))
theorem z63 (F:Fun K "check_uncrossed" "check_uncrossed" Nd f fd) (T:Txt mg) (Z:Exs K mg u0 u1 u2 u3 u4) (G_cross:Rf P w K mg base) (I_Crossed:Ini P w K mg base u0 ["one","other"] 1):FnOk P w K mg base (CX1 P w) 3 f fd ["lines"] (spD K mg false Bw 1):=
 fnD (k:=2) F sc_check_uncrossed rfl rfl fun cdv A outer s H E hr=>
  (c9 (M3 PassesOwn.leaving rfl (Ew rfl T.enumerate (a7 (qv 0) b6)) (g_t rfl (N4 (i:=1) sc_check_uncrossed.nd rfl (Or.inl rfl) (N4 (i:=2) sc_check_uncrossed.nd rfl (Or.inl rfl) Cz)))
   (c9 (M3 PassesOwn.leaving rfl (C5 (QE.wk (X0 Al Ak (qv 0) Ez (O1 (qv 1))))) (g_n (i:=3) sc_check_uncrossed.nd rfl (Or.inl rfl))
   (c9 (m4 (QW.pt (D4 (tE hr (qv 3) (qv 2) (d9 _)) (M4 (v8 (i5 i4 G_cross hr rfl (a7 (qv 3) (a7 (qv 2) b6)))))))
   (c9 (Ts (c:="Crossed") i4 rfl rfl Z.a_Crossed rfl (by decide) Z.i_Crossed I_Crossed hr (a7 (qv 3) (a7 (qv 2) b6))))
   m7))))))
theorem yY (F:Fun K "_law_due" "_law_due" Lm f fd) (T:Txt mg) (Z:Exs K mg u0 u1 u2 u3 u4) (G__law_is_line:Mx P w K mg base) (G__law_is_number:Bv P w K mg base) (G__law_meet:Lx P w K mg base):FnOk P w K mg base (CX1 P w) 3 f fd ["_law_n","_law_things"] (spD K mg false C8 2):=
 fnD (k:=2) F sc__law_due rfl rfl fun cdv A outer s H E hr=>
  (c8 (m4 (QW.pt (D4 (B8 (v8 (i5 i4 G__law_is_number hr rfl (a7 (qv 0) b6)))) (D4 (v4 o7 o9 (qv 0) a9 (d9 _)) (M4 (v4 X6 Z9 (qv 0) a9 (d9 _))))))
    (c9 (h8 (i7 (a7 m8 b6))))
    m7)
   (c8 (m4 (B8 (v8 (y6 (Om rfl) Ql rfl T.«all» boot_all (a7 (QE.wk (W9 (G6 (caps:=["_law_n"]) (ix:=[0]) rfl rfl) (by decide +kernel) rfl (C5 (qv 1)) .nil (fun _ _ _=>(i5 Q9 G__law_is_line hr rfl (a7 (qv 1) (a7 (qv 0) b6)))))) b6))))
    (c9 (h8 (i7 (a7 m8 b6))))
    m7)
   (c8 (Ev sc__law_due.nd (k:=2) rfl rfl (G6 (caps:=[]) (ix:=[]) rfl rfl) (by decide +kernel) rfl (C5 (qv 1)) .nil (fun _ _ _=>(i7 (a7 (y6 (Pw rfl) Rl rfl T.«min» boot_min (a7 (qv 0) b6)) (a7 (y6 (Hl rfl) Jm rfl T.«max» boot_max (a7 (qv 0) b6)) b6)))))
   (c8 (M3 PassesOwn.leaving rfl (Ew rfl T.enumerate (a7 (qv 2) b6)) (g_t rfl (N4 (i:=3) sc__law_due.nd rfl (Or.inl rfl) (N4 (i:=4) sc__law_due.nd rfl (Or.inl rfl) Cz)))
    (c9 (M3 PassesOwn.leaving rfl (C5 (QE.wk (X0 Al Ak (qv 2) Ez (O1 (qv 3))))) (g_n (i:=5) sc__law_due.nd rfl (Or.inl rfl))
    (c9 (m4 (v8 (i5 i4 G__law_meet hr rfl (a7 (qv 5) (a7 (qv 4) b6))))
    (c9 (h8 (i7 (a7 m8 (a7 (qv 5) (a7 (qv 4) b6))))))
    m7)))))
   (c8 (m4 (v4 o7 o9 (qL T.len (qv 2)) (c7 D8 D9 (qv 0) a9) (d9 _))
    (c9 (h8 (i7 (a7 m8 (a7 (qv 2) b6)))))
    m7)
   (c9 (h8 (i7 (a7 m8 (a7 (i7 (a7 (qv 0) (a7 (J4 Km Kl rfl T.tuple boot_tuple (a7 (QE.wk (y6 (Jk rfl hr.units) Ke rfl T.sorted boot_sorted (a7 (qv 2) b6))) b6)) b6))) b6))))))))))
theorem zr (F:Fun K "_law_told" "_law_told" Ly f fd) (T:Txt mg) (Z:Exs K mg u0 u1 u2 u3 u4) (G__law_is_line:Mx P w K mg base) (G__law_is_number:Bv P w K mg base) (G__law_is_pair:Xa P w K mg base) (G__law_meet:Lx P w K mg base):FnOk P w K mg base (CX1 P w) 3 f fd ["_law_answer_here","_law_due_here","_law_n"] (spD K mg false F6 3):=
 fnD (k:=2) F sc__law_told rfl rfl fun cdv A outer s H E hr=>
  (c8 (m4 (tN hr (qI hr (qv 0) a9) (qI hr (qv 1) a9) (d9 _))
    (c9 (h8 E2))
    m7)
   (c8 (m4 (tE hr (qI hr (qv 1) a9) m8 (d9 _))
    (c9 (h8 (r6 (i5 i4 G__law_is_pair hr rfl (a7 (qI hr (qv 0) a9) b6)) (r6 (i5 i4 G__law_is_pair hr rfl (a7 (qI hr (qv 0) a9) b6)) (B9 (n5 (z7 hr.units) z6 (qv 0) (qv 1) (d9 _)))))))
    m7)
   (c8 (m4 (tE hr (qI hr (qv 1) a9) m8 (d9 _))
    (c8 (sA 3 sc__law_told.nd (qI hr (qv 0) a9))
   (c8 (m4 (QW.pt (D4 (B8 (v8 (i5 i4 G__law_is_pair hr rfl (a7 (qv 3) b6)))) (M4 (B8 (v8 (i5 i4 G__law_is_line hr rfl (a7 (qv 2) (a7 (qv 3) b6))))))))
    (c9 (h8 E2))
    m7)
   (c9 (h8 (Da (y6 (Zs rfl) kc rfl T.«any» boot_any (a7 (QE.wk (W9 (G6 (caps:=["_law_line"]) (ix:=[3]) rfl rfl) (by decide +kernel) rfl (C5 (qI hr (qv 1) a9)) .nil (fun _ _ _=>(i5 Q9 G__law_meet hr rfl (a7 (qv 0) (a7 (qv 1) b6)))))) b6)))))))
    m7)
   (c8 (m4 (tE hr (qI hr (qv 1) a9) m8 (d9 _))
    (c8 (sA 4 sc__law_told.nd (qI hr (qv 0) a9))
   (c8 (m4 (QW.pt (D4 (B8 (v8 (G0 rfl T.isinstance boot_isinstance (qv 4) (F3 (v:=.ty "tuple") rfl T.tuple boot_tuple rfl)))) (D4 (tN hr (qL T.len (qv 4)) a9 (d9 _)) (M4 (B8 (v8 (i5 i4 G__law_is_number hr rfl (a7 (qI hr (qv 4) a9) b6))))))))
    (c9 (h8 E2))
    m7)
   (c9 (h8 (r6 (G0 rfl T.isinstance boot_isinstance (qI hr (qv 4) a9) (F3 (v:=.ty "tuple") rfl T.tuple boot_tuple rfl)) (r6 (y6 (Om rfl) Ql rfl T.«all» boot_all (a7 (QE.wk (W9 (G6 (caps:=[]) (ix:=[]) rfl rfl) (by decide +kernel) rfl (C5 (qI hr (qv 4) a9)) .nil (fun _ _ _=>(i5 Q9 G__law_is_pair hr rfl (a7 (qv 0) b6))))) b6)) (B9 (n5 (z7 hr.units) z6 (qv 0) (qv 1) (d9 _)))))))))
    m7)
   (c9 (h8 E2))))))
theorem zq (F:Fun K "free_line" "free_line" Mc f fd) (T:Txt mg) (Z:Exs K mg u0 u1 u2 u3 u4) (G_rooms:Re P w K mg base):FnOk P w K mg base (CX1 P w) 4 f fd ["n","lines"] (spD K mg false Bi 2):=
 fnD (k:=3) F sc_free_line rfl rfl fun cdv A outer s H E hr=>
  (c8 (Ev sc_free_line.nd (k:=2) rfl rfl (G6 (caps:=[]) (ix:=[]) rfl rfl) (by decide +kernel) rfl (C5 (QE.wk (i5 i4 G_rooms hr rfl (a7 (qv 0) (a7 (qv 1) b6))))) (.one fun _ _ _=>(v4 X6 Z9 (qL T.len (qv 0)) a9 (d9 _))) (fun _ _ _=>(qv 0)))
   (c9 (h8 (i7 (a7 (qI hr (qI hr (qv 2) a9) a9) (a7 (qI hr (qI hr (qv 2) a9) a9) b6))))))
theorem yB (F:Fun K "cutting" "cutting" Ky f fd) (T:Txt mg) (Z:Exs K mg u0 u1 u2 u3 u4) (G_check_floor:Wx P w K mg base) (G_check_uncrossed:Xj P w K mg base) (G_free_line:Wa P w K mg base) (G_line_of:Uk P w K mg base) (I_NotFull:Ini P w K mg base u4 ["line"] 1):FnOk P w K mg base (CX1 P w) 5 f fd ["n","lines"] (spD K mg false t7 2):=
 fnD (k:=4) F sc_cutting rfl rfl fun cdv A outer s H E hr=>
  (c8 (Qj (i5 i4 G_check_floor hr rfl (a7 (qv 0) b6)))
   (c8 (y12 sc_cutting.nd (k:=2) rfl rfl (G6 (caps:=["n"]) (ix:=[0]) rfl rfl) (by decide +kernel) rfl (C5 (qv 1)) .nil (fun _ _ _ _ _ I hf=>(jB nmF (y11 I hf) G_line_of hr rfl (a7 (qv 1) (a7 (qv 0) b6)))))
   (c8 (Qj (i5 i4 G_check_uncrossed hr rfl (a7 (qv 2) b6)))
   (c8 (m4 (v4 o7 o9 (qL T.len (qv 2)) (c7 D8 D9 (qv 0) a9) (d9 _))
    (c9 (Ts (c:="NotFull") i4 rfl rfl Z.a_NotFull rfl (by decide) Z.i_NotFull I_NotFull hr (a7 (i5 i4 G_free_line hr rfl (a7 (qv 0) (a7 (qv 2) b6))) b6)))
    m7)
   (c9 (h8 (i7 (a7 (qv 0) (a7 (J4 Km Kl rfl T.tuple boot_tuple (a7 (QE.wk (y6 (Jk rfl hr.units) Ke rfl T.sorted boot_sorted (a7 (qv 2) b6))) b6)) b6)))))))))
theorem zN (F:Fun K "_law_answer" "_law_answer" Mm f fd) (T:Txt mg) (Z:Exs K mg u0 u1 u2 u3 u4) (G_cutting:Kw P w K mg base):FnOk P w K mg base (CX1 P w) 6 f fd ["_law_n","_law_things"] (spD K mg false N8 2):=
 fnD (k:=5) F sc__law_answer rfl rfl fun cdv A outer s H E hr=>
  (c8 (sA 2 sc__law_answer.nd (i7 (a7 m8 b6)))
   (c8 (jV rfl rfl (Yy (k:=knX) (i:=3) Z.kn sc__law_answer.nd rfl (Or.inl rfl) G_cutting hr rfl (a7 (qv 0) (a7 (qv 1) b6)))
    (Eu (tb:=Bc) (i:=4) Z.t_Crossed (by decide) rfl sc__law_answer.nd rfl rfl (fun _=>(c9 (sA 2 sc__law_answer.nd (i7 (a7 m8 (a7 (Hq (f:="one") (qv 4) rfl Z.g_one) (a7 (Hq (f:="other") (qv 4) rfl Z.g_other) b6))))))) (Eu (tb:=Be) (i:=4) Z.t_NotFull (by decide) rfl sc__law_answer.nd rfl rfl (fun _=>(c9 (sA 2 sc__law_answer.nd (i7 (a7 m8 (a7 (Hq (f:="line") (qv 4) rfl Z.g_line) b6)))))) (Xv (tb:=Av) Z.t_NoLine (by decide) rfl (fun _=>(c9 (sA 2 sc__law_answer.nd (i7 (a7 m8 b6))))) (Xv (tb:=Bf) Z.t_NoFloor (by decide) rfl (fun _=>(c9 (sA 2 sc__law_answer.nd (i7 (a7 m8 b6))))) Ob))))
    (c9 (sA 2 sc__law_answer.nd (i7 (a7 m8 (a7 (qv 3) b6))))))
   (c9 (h8 (qv 2)))))
theorem zF (F:Fun K "_law_kinds" "_law_kinds" Mg f fd) (T:Txt mg) (Z:Exs K mg u0 u1 u2 u3 u4) (G_cutting:Kw P w K mg base):FnOk P w K mg base (CX1 P w) 6 f fd ["_law_n","_law_things"] (spD K mg true N7 2):=
 fnD (k:=5) F sc__law_kinds rfl rfl fun cdv A outer s H E hr=>
  (c8 (sA 2 sc__law_kinds.nd (v5 b6))
   (c8 (Yz rfl rfl (jU (k:=knX) Z.kn G_cutting hr rfl (a7 (qv 0) (a7 (qv 1) b6)))
    (Eu (tb:=Bs) (i:=3) Z.t_FloorError (by decide) rfl sc__law_kinds.nd rfl rfl (fun _=>(c8 (sA 2 sc__law_kinds.nd (v5 (a7 (Y4 (tb:=Br) rfl T.isinstance boot_isinstance (qv 3) (F3 (v:=.ty "ValueError") rfl T.ValueError PyProof.Rows.Boot.«ValueError» rfl) (.inr ⟨_,rfl,rfl⟩) Z.b_ValueError) (a7 (Y4 (tb:=Bb) rfl T.isinstance boot_isinstance (qv 3) (Dw (v:=.ref u2) rfl Z.a_NoFloor rfl) (.inl ⟨_,rfl,rfl⟩) Z.b_NoFloor) (a7 (Y4 (tb:=Au) rfl T.isinstance boot_isinstance (qv 3) (Dw (v:=.ref u3) rfl Z.a_NoLine rfl) (.inl ⟨_,rfl,rfl⟩) Z.b_NoLine) b6)))))
   (c9 (sA 2 sc__law_kinds.nd (c7 Jb Hw (qv 2) (QE.wk (v5 (a7 (Y4 (tb:=Az) rfl T.isinstance boot_isinstance (qv 3) (Dw (v:=.ref u0) rfl Z.a_Crossed rfl) (.inl ⟨_,rfl,rfl⟩) Z.b_Crossed) (a7 (Y4 (tb:=Ba) rfl T.isinstance boot_isinstance (qv 3) (Dw (v:=.ref u4) rfl Z.a_NotFull rfl) (.inl ⟨_,rfl,rfl⟩) Z.b_NotFull) b6))))))))) Ob))
   (c9 (Ht (i:=2)))))
theorem jr (F:Fun K "law" "law" Fy f fd) (T:Txt mg) (Z:Exs K mg u0 u1 u2 u3 u4) (G__law_answer:Ww P w K mg base) (G__law_due:Vl P w K mg base) (G__law_floor:Wo P w K mg base) (G__law_grown:Wq P w K mg base) (G__law_kinds:Wl P w K mg base) (G__law_many:Wc P w K mg base) (G__law_mixed:Wp P w K mg base) (G__law_spoil:Wm P w K mg base) (G__law_stream:Wy P w K mg base) (G__law_told:Wb P w K mg base):FnOk P w K mg base (CX1 P w) 7 f fd ["_law_script"] (spD K mg false R6 1):=
 fnD (k:=6) F sc_law rfl rfl fun cdv A outer s H E hr=>
  (c8 (sA 1 sc_law.nd (i5 i4 G__law_stream hr rfl (a7 (QE.wk (X0 Al Ak (qv 0) (O1 a9) (O1 a9))) (a7 a9 b6))))
   (c8 (sA 2 sc_law.nd (i5 i4 G__law_stream hr rfl (a7 (QE.wk (X0 Al Ak (qv 0) (O1 a9) Ez)) (a7 (i5 i4 G__law_many hr rfl (a7 (qv 0) b6)) b6))))
   (c8 (Za (i5 i4 G__law_grown hr rfl (a7 (qv 2) b6)) (g_t rfl (N4 (i:=3) sc_law.nd rfl (Or.inl rfl) (N4 (i:=4) sc_law.nd rfl (Or.inl rfl) Cz))))
   (c8 (sA 5 sc_law.nd (i5 i4 G__law_mixed hr rfl (a7 (qv 2) (a7 (qv 4) b6))))
   (c8 (sA 6 sc_law.nd (qv 3))
   (c8 (M3 PassesOwn.leaving rfl (Ey rfl T.range (a7 a9 b6)) (g_n (i:=7) sc_law.nd rfl (Or.inl rfl))
    (c8 (y0y (i:=5) G__law_spoil hr rfl (pw 5) (a7 (qv 3) (a7 (QE.wk (X0 Al Ak (qv 1) (O1 (c7 J6 K0 a9 (qv 7))) (O1 (c7 r8 r9 (c7 J6 K0 a9 (qv 7)) a9)))) b6)))
   (c9 (m4 (tE hr (c7 l8 l9 (qI hr (qv 1) (c7 J6 K0 a9 (qv 7))) a9) a9 (d9 _))
    (c9 (sA 6 sc_law.nd (i5 i4 G__law_floor hr rfl (a7 (qI hr (qv 1) (c7 r8 r9 (c7 J6 K0 a9 (qv 7)) a9)) b6))))
    m7))))
   (c8 (sA 8 sc_law.nd (i5 i4 G__law_due hr rfl (a7 (qv 6) (a7 (qv 5) b6))))
   (c8 (sA 9 sc_law.nd (J4 Js Jr rfl T.list boot_list (a7 (qv 5) b6)))
   (c8 (m4 (QW.pt (D4 (B8 (v8 (i5 i4 G__law_told hr rfl (a7 (i5 i4 G__law_answer hr rfl (a7 (qv 6) (a7 (qv 9) b6))) (a7 (qv 8) (a7 (qv 3) b6)))))) (M4 (v4 (Gb hr.units) Hm (qv 9) (qv 5) (d9 _)))))
    (c9 (h8 E2))
    m7)
   (c8 (sA 10 sc_law.nd (i5 i4 G__law_kinds hr rfl (a7 (qv 6) (a7 (QE.wk (J4 Js Jr rfl T.list boot_list (a7 (qv 5) b6))) b6))))
   (c8 (m4 (tE hr (qI hr (qv 8) a9) m8 (d9 _))
    (c9 (h8 (n5 (z7 hr.units) z6 (qv 10) (QE.wk (v5 b6)) (d9 _))))
    m7)
   (c9 (h8 (n5 (z7 hr.units) z6 (qv 10) (QE.wk (v5 (a7 E2 (a7 (n5 (z7 hr.units) z6 (qI hr (qv 8) a9) m8 (d9 _)) (a7 (n5 (z7 hr.units) z6 (qI hr (qv 8) a9) m8 (d9 _)) (a7 (n5 (z7 hr.units) z6 (qI hr (qv 8) a9) m8 (d9 _)) (a7 (n5 (z7 hr.units) z6 (qI hr (qv 8) a9) m8 (d9 _)) b6))))))) (d9 _)))))))))))))))
end
theorem all_mk {l:PySem.W.OpenLaw} {w:World} {K:Frag} {h:Heap} {mg:Str->Option Value} {fa:Addr} (X:K.In h) (G:h.Ns mainGlobals mg) (hfa:mg "law"=some (.ref fa))
  {f0 f1 f2 f3 f4 f5 f6 f7 f8 f9 f10 f11 f12 f13 f14 f15 f16 f17 f18 f19 f20 f21 f22 f23 f24 f25 f26 f27 f28 f29 f30 f31:Addr}
  {u0 u1 u2 u3 u4:Addr}
  {fI_Crossed:Addr} {oI_Crossed aI_Crossed:Option Addr} {sI_Crossed:Array (Option Value)} {cI_Crossed kI_Crossed dI_Crossed pI_Crossed eI_Crossed tI_Crossed:Value}
  {fI_NotFull:Addr} {oI_NotFull aI_NotFull:Option Addr} {sI_NotFull:Array (Option Value)} {cI_NotFull kI_NotFull dI_NotFull pI_NotFull eI_NotFull tI_NotFull:Value}
  (A0:FnAt K "is_whole" Lp f0)
  (A1:FnAt K "pair" Hi f1)
  (A2:FnAt K "is_side" La f2)
  (A3:FnAt K "cross" Jj f3)
  (A4:FnAt K "corner_behind" Nb f4)
  (A5:FnAt K "_law_pick" Mb f5)
  (A6:FnAt K "_law_is_number" Nc f6)
  (A7:FnAt K "_law_stream" Mn f7)
  (A8:FnAt K "_law_grown" Mk f8)
  (A9:FnAt K "_law_mixed" Mj f9)
  (A10:FnAt K "_law_bad" Ln f10)
  (A11:FnAt K "_law_floor" Mi f11)
  (A12:FnAt K "_law_meet" Lz f12)
  (A13:FnAt K "is_line" Kz f13)
  (A14:FnAt K "is_two" Kc f14)
  (A15:FnAt K "is_floor" Lo f15)
  (A16:FnAt K "room_under" Ml f16)
  (A17:FnAt K "_law_many" Ma f17)
  (A18:FnAt K "_law_spoil" Mh f18)
  (A19:FnAt K "_law_is_line" Mz f19)
  (A20:FnAt K "_law_is_pair" My f20)
  (A21:FnAt K "check_floor" Mp f21)
  (A22:FnAt K "rooms" Ji f22)
  (A23:FnAt K "line_of" Kx f23)
  (A24:FnAt K "check_uncrossed" Nd f24)
  (A25:FnAt K "_law_due" Lm f25)
  (A26:FnAt K "_law_told" Ly f26)
  (A27:FnAt K "free_line" Mc f27)
  (A28:FnAt K "cutting" Ky f28)
  (A29:FnAt K "_law_answer" Mm f29)
  (A30:FnAt K "_law_kinds" Mg f30)
  (A31:FnAt K "law" Fy f31)
  (T:Txt mg)
  (Z:Exs K mg u0 u1 u2 u3 u4)
  (ni_Crossed:PySem.W.findIn K (.ref u0) "__init__"=some (some (.ref fI_Crossed))) (li_Crossed:K.lookup fI_Crossed=some ⟨cI_Crossed,oI_Crossed,.func (PySem.W.fnOf "__init__" "Crossed.__init__" (G4 W4) (x8 W4) (d8 W4) .none kI_Crossed dI_Crossed pI_Crossed aI_Crossed eI_Crossed tI_Crossed),sI_Crossed⟩) (ci_Crossed:codeIn K eI_Crossed "Crossed.__init__"=true) (ki_Crossed:keepIn K (.ref fI_Crossed)=true) (ti_Crossed:typeIn K (.ref fI_Crossed)=some (.type "function"))
  (ni_NotFull:PySem.W.findIn K (.ref u4) "__init__"=some (some (.ref fI_NotFull))) (li_NotFull:K.lookup fI_NotFull=some ⟨cI_NotFull,oI_NotFull,.func (PySem.W.fnOf "__init__" "NotFull.__init__" (G4 W3) (x8 W3) (d8 W3) .none kI_NotFull dI_NotFull pI_NotFull aI_NotFull eI_NotFull tI_NotFull),sI_NotFull⟩) (ci_NotFull:codeIn K eI_NotFull "NotFull.__init__"=true) (ki_NotFull:keepIn K (.ref fI_NotFull)=true) (ti_NotFull:typeIn K (.ref fI_NotFull)=some (.type "function")) :
  ∃fd:FuncData,(∀(s:Shared) (v:Value),BindsTo s fd ⟨[v],[]⟩ [("_law_script",v)])/\∀base:Heap,K.In base->base.Ns mainGlobals mg->FnOk l.prog w K mg base (CX1 l.prog w) 7 fa fd ["_law_script"] (spL K false R6 1):=by
 refine jv X G hfa A31 (fun _ _ _ _ _ _ _ _=>.of_eq rfl) fun base kb nb fd F=>?_
 have I_Crossed:Ini l.prog w K mg base u0 ["one","other"] 1:=⟨fI_Crossed,_,["self","one","other"],wT (k:=0) (Ae (st:=W4) li_Crossed ci_Crossed ki_Crossed) zW (by decide) Z.i_Crossed Z.i1_Crossed rfl (Or.inl rfl) (Or.inl rfl) (Or.inl rfl),(Ae (st:=W4) li_Crossed ci_Crossed ki_Crossed).binds (ps:=["self","one","other"]) fun _ _ _ _ _ _ us hl=>by match us,hl with | [_,_,_],_=>rfl,ni_Crossed,ti_Crossed,rfl⟩
 have I_NotFull:Ini l.prog w K mg base u4 ["line"] 1:=⟨fI_NotFull,_,["self","line"],vf (k:=0) (Ae (st:=W3) li_NotFull ci_NotFull ki_NotFull) zV Z.i_NotFull rfl (Or.inl rfl) (Or.inl rfl),(Ae (st:=W3) li_NotFull ci_NotFull ki_NotFull).binds (ps:=["self","line"]) fun _ _ _ _ _ _ us hl=>by match us,hl with | [_,_],_=>rfl,ni_NotFull,ti_NotFull,rfl⟩
 have G_is_whole:Ll l.prog w K mg base:=got X G A0 fun F=>zb F T Z 
 have G_pair:Pm l.prog w K mg base:=got X G A1 fun F=>qz F T Z 
 have G_is_side:Um l.prog w K mg base:=got X G A2 fun F=>yE F T Z 
 have G_cross:Rf l.prog w K mg base:=got X G A3 fun F=>wB F T Z 
 have G_corner_behind:Xg l.prog w K mg base:=got X G A4 fun F=>zY F T Z 
 have G__law_pick:Wd l.prog w K mg base:=got X G A5 fun F=>zv F T Z 
 have G__law_is_number:Bv l.prog w K mg base:=got X G A6 fun F=>zZ F T Z 
 have G__law_stream:Wy l.prog w K mg base:=got X G A7 fun F=>zP F T Z 
 have G__law_grown:Wq l.prog w K mg base:=got X G A8 fun F=>zK F T Z 
 have G__law_mixed:Wp l.prog w K mg base:=got X G A9 fun F=>zJ F T Z 
 have G__law_bad:Vn l.prog w K mg base:=got X G A10 fun F=>za F T Z 
 have G__law_floor:Wo l.prog w K mg base:=got X G A11 fun F=>zI F T Z 
 have G__law_meet:Lx l.prog w K mg base:=got X G A12 fun F=>zu F T Z 
 have G_is_line:Ul l.prog w K mg base:=got X G A13 fun F=>yD F T Z G_is_side
 have G_is_two:Tk l.prog w K mg base:=got X G A14 fun F=>xO F T Z G_is_whole
 have G_is_floor:Vm l.prog w K mg base:=got X G A15 fun F=>yZ F T Z G_is_whole
 have G_room_under:Wn l.prog w K mg base:=got X G A16 fun F=>zH F T Z G_corner_behind
 have G__law_many:Wc l.prog w K mg base:=got X G A17 fun F=>zt F T Z G__law_pick
 have G__law_spoil:Wm l.prog w K mg base:=got X G A18 fun F=>zG F T Z G__law_bad
 have G__law_is_line:Mx l.prog w K mg base:=got X G A19 fun F=>zT F T Z G__law_is_number
 have G__law_is_pair:Xa l.prog w K mg base:=got X G A20 fun F=>zS F T Z G__law_is_number
 have G_check_floor:Wx l.prog w K mg base:=got X G A21 fun F=>zO F T Z G_is_floor
 have G_rooms:Re l.prog w K mg base:=got X G A22 fun F=>wA F T Z G_room_under
 have G_line_of:Uk l.prog w K mg base:=got X G A23 fun F=>yC F T Z G_is_line G_is_two G_pair
 have G_check_uncrossed:Xj l.prog w K mg base:=got X G A24 fun F=>z63 F T Z G_cross I_Crossed
 have G__law_due:Vl l.prog w K mg base:=got X G A25 fun F=>yY F T Z G__law_is_line G__law_is_number G__law_meet
 have G__law_told:Wb l.prog w K mg base:=got X G A26 fun F=>zr F T Z G__law_is_line G__law_is_number G__law_is_pair G__law_meet
 have G_free_line:Wa l.prog w K mg base:=got X G A27 fun F=>zq F T Z G_rooms
 have G_cutting:Kw l.prog w K mg base:=got X G A28 fun F=>yB F T Z G_check_floor G_check_uncrossed G_free_line G_line_of I_NotFull
 have G__law_answer:Ww l.prog w K mg base:=got X G A29 fun F=>zN F T Z G_cutting
 have G__law_kinds:Wl l.prog w K mg base:=got X G A30 fun F=>zF F T Z G_cutting
 exact (jr F T Z G__law_answer G__law_due G__law_floor G__law_grown G__law_kinds G__law_many G__law_mixed G__law_spoil G__law_stream G__law_told).imp fun _ _ _ _ z=>z.spD
abbrev kO (n:String) (t1:Nat) (q:String) (t2 t3:Nat) (a b c d e:Int) (r1:Nat) (g:Int) (r2 r3 r4 r5:Nat) (k l:Int) (t4:Nat):Obj:=⟨.type "code",none,.fields [vs n t1,vs q t2,vs "/claim/cut.py" t3,.int a 0,.int b 0,.int c 0,.int d 0,.int e 0,.ref r1,.bool true,.int g 0,.ref r2,.none,.ref r3,.ref r4,.ref r5,.int k 0,.int l 0,vs "/claim/cut.py" t4].toArray,#[]⟩
abbrev kCo (n:String) (t1:Nat) (q:String) (t2 t3:Nat) (a b c d e:Int) (r1:Nat) (g:Int) (r2 r5:Nat) (k l:Int) (t4:Nat):Obj:=⟨.type "code",none,.fields [vs n t1,vs q t2,vs "/claim/cut.py" t3,.int a 0,.int b 0,.int c 0,.int d 0,.int e 0,.ref r1,.bool true,.int g 0,.ref r2,.none,.none,.none,.ref r5,.int k 0,.int l 0,vs "/claim/cut.py" t4].toArray,#[]⟩
abbrev fO (i:Nat) (n m:String) (t r:Nat):Obj:=oF (top i) n n .none .none .none (vs m t) none (.ref r) .none
abbrev cO (n:String) (b a ns r t1 t2:Nat):Obj:=⟨.type "type",none,.cls { name:=Str.ofString n,bases:=[.ref b],mro:=[.ref a,.ref b,.type "ValueError",.type "Exception",.type "BaseException",.type "object"],ns:=ns,qualname:=Str.ofString n,hasDict:=true,slotNames:=[],subclasses:=[],abstract:=false,collection:=none,hasDel:=false },#[some (.ref r),none,some (vs n t1),some (vs n t2),some (.builtin "ValueError.__new__"),some (.bool true)]⟩
def K:Params->Frag:=fun P=>
 (nat_lit 2,⟨.none,none,(.dict [].toArray 0),#[]⟩) ::
 (nat_lit 3,oD [en P "__name__" 165 (vs "law_friezeyard_k13_cuttings_refused" 417),en P "__doc__" 166 .none,en P "__package__" 167 .none,en P "__loader__" 168 (.builtin "__main__.__loader__#opaque"),en P "__spec__" 169 .none,en P "__annotations__" 170 (.ref 6),en P "__builtins__" 171 (.ref 4),en P "__file__" 173 (vs "/claim/cut.py" 172),en P "__cached__" 174 .none,en P "FloorError" 206 (.ref 24),en P "NoFloor" 222 (.ref 37),en P "NoLine" 238 (.ref 49),en P "Crossed" 265 (.ref 68),en P "NotFull" 290 (.ref 87),en P "is_whole" 299 (.ref 96),en P "pair" 307 (.ref 103),en P "is_side" 317 (.ref 110),en P "is_line" 325 (.ref 117),en P "cross" 337 (.ref 124),en P "is_two" 346 (.ref 131),en P "is_floor" 353 (.ref 138),en P "check_floor" 360 (.ref 145),en P "rooms" 368 (.ref 150),en P "room_under" 377 (.ref 157),en P "corner_behind" 383 (.ref 162),en P "cutting" 391 (.ref 167),en P "line_of" 400 (.ref 174),en P "check_uncrossed" 410 (.ref 181),en P "free_line" 416 (.ref 186),en P "_law_pick" 426 (.ref 193),en P "_law_is_number" 433 (.ref 200),en P "_law_many" 441 (.ref 207),en P "_law_stream" 452 (.ref 214),en P "_law_grown" 458 (.ref 219),en P "_law_mixed" 470 (.ref 226),en P "_law_bad" 480 (.ref 233),en P "_law_floor" 489 (.ref 240),en P "_law_spoil" 502 (.ref 247),en P "_law_is_line" 512 (.ref 254),en P "_law_meet" 518 (.ref 259),en P "_law_due" 524 (.ref 264),en P "_law_answer" 535 (.ref 271),en P "_law_kinds" 545 (.ref 278),en P "_law_is_pair" 552 (.ref 285),en P "_law_told" 558 (.ref 290),en P "law" 575 (.ref 297)] 46) ::
 (nat_lit 15,oT [(.type "ValueError")]) ::
 (nat_lit 22,oT []) ::
 (nat_lit 23,oD [en P "__module__" 196 (vs "friezeyard.errors" 187),en P "__firstlineno__" 200 (.int 2 199),en P "__static_attributes__" 201 (.ref 22),en P "__weakref__" 203 (.ref 25),en P "__doc__" 204 .none] 3) ::
 (nat_lit 24,⟨(.type "type"),none,(.cls { name:=Str.ofString "FloorError",bases:=[(.type "ValueError")],mro:=[(.ref 24),(.type "ValueError"),(.type "Exception"),(.type "BaseException"),(.type "object")],ns:=23,qualname:=Str.ofString "FloorError",hasDict:=true,slotNames:=[],subclasses:=[(.ref 37),(.ref 49),(.ref 68),(.ref 87)],abstract:=false,collection:=none,hasDel:=false }),#[some (.ref 15),none,some (vs "FloorError" 189),some (vs "FloorError" 197),some (.builtin "ValueError.__new__"),some (.bool true)]⟩) ::
 (nat_lit 25,⟨(.type "getset_descriptor"),none,(.fields [(vs "__weakref__" 202),(.ref 24),(.builtin "ExceptionGroup.__weakref__"),.none].toArray),#[]⟩) ::
 (nat_lit 28,oT [(.ref 24)]) ::
 (nat_lit 35,oT []) ::
 (nat_lit 36,oD [en P "__module__" 214 (vs "friezeyard.errors" 187),en P "__firstlineno__" 218 (.int 4 217),en P "__static_attributes__" 219 (.ref 35),en P "__doc__" 220 .none] 2) ::
 (nat_lit 37,(cO "NoFloor" 24 37 36 28 207 215)) ::
 (nat_lit 40,oT [(.ref 24)]) ::
 (nat_lit 47,oT []) ::
 (nat_lit 48,oD [en P "__module__" 230 (vs "friezeyard.errors" 187),en P "__firstlineno__" 234 (.int 6 233),en P "__static_attributes__" 235 (.ref 47),en P "__doc__" 236 .none] 2) ::
 (nat_lit 49,(cO "NoLine" 24 49 48 40 223 231)) ::
 (nat_lit 52,oT [(.ref 24)]) ::
 (nat_lit 59,oT []) ::
 (nat_lit 61,oT [(vs "self" 254),(vs "one" 255),(vs "other" 256)]) ::
 (nat_lit 62,oT []) ::
 (nat_lit 64,(kO "__init__" 251 "Crossed.__init__" 252 253 10 3 0 0 3 59 181 60 61 62 63 257 10 258)) ::
 (nat_lit 65,oF (Nq (top 4) 0) "__init__" "Crossed.__init__" .none .none .none (vs "friezeyard.errors" 187) none (.ref 64) .none) ::
 (nat_lit 66,oT [(vs "one" 260),(vs "other" 261)]) ::
 (nat_lit 67,oD [en P "__module__" 246 (vs "friezeyard.errors" 187),en P "__firstlineno__" 250 (.int 8 249),en P "__init__" 259 (.ref 65),en P "__static_attributes__" 262 (.ref 66),en P "__doc__" 263 .none] 2) ::
 (nat_lit 68,(cO "Crossed" 24 68 67 52 239 247)) ::
 (nat_lit 71,oT [(.ref 24)]) ::
 (nat_lit 78,oT []) ::
 (nat_lit 80,oT [(vs "self" 281),(vs "line" 282)]) ::
 (nat_lit 81,oT []) ::
 (nat_lit 83,(kO "__init__" 278 "NotFull.__init__" 279 280 15 2 0 0 3 78 181 79 80 81 82 283 15 284)) ::
 (nat_lit 84,oF (Nq (top 5) 0) "__init__" "NotFull.__init__" .none .none .none (vs "friezeyard.errors" 187) none (.ref 83) .none) ::
 (nat_lit 85,oT [(vs "line" 286)]) ::
 (nat_lit 86,oD [en P "__module__" 273 (vs "friezeyard.errors" 187),en P "__firstlineno__" 277 (.int 13 276),en P "__init__" 285 (.ref 84),en P "__static_attributes__" 287 (.ref 85),en P "__doc__" 288 .none] 2) ::
 (nat_lit 87,(cO "NotFull" 24 87 86 71 266 274)) ::
 (nat_lit 90,oT []) ::
 (nat_lit 92,oT [(vs "thing" 296)]) ::
 (nat_lit 93,oT []) ::
 (nat_lit 95,(kO "is_whole" 293 "is_whole" 294 295 18 1 0 0 3 90 181 91 92 93 94 297 18 298)) ::
 (nat_lit 96,(fO 7 "is_whole" "friezeyard.pairs" 291 95)) ::
 (nat_lit 97,oT []) ::
 (nat_lit 99,oT [(vs "a" 303),(vs "b" 304)]) ::
 (nat_lit 100,oT []) ::
 (nat_lit 102,(kO "pair" 300 "pair" 301 302 20 2 0 0 3 97 181 98 99 100 101 305 20 306)) ::
 (nat_lit 103,(fO 8 "pair" "friezeyard.pairs" 291 102)) ::
 (nat_lit 104,oT []) ::
 (nat_lit 106,oT [(vs "n" 311),(vs "p" 312),(vs "a" 313),(vs "b" 314)]) ::
 (nat_lit 107,oT []) ::
 (nat_lit 109,(kO "is_side" 308 "is_side" 309 310 22 2 0 0 3 104 181 105 106 107 108 315 22 316)) ::
 (nat_lit 110,(fO 9 "is_side" "friezeyard.pairs" 291 109)) ::
 (nat_lit 111,oT []) ::
 (nat_lit 113,oT [(vs "n" 321),(vs "p" 322)]) ::
 (nat_lit 114,oT []) ::
 (nat_lit 116,(kO "is_line" 318 "is_line" 319 320 28 2 0 0 3 111 181 112 113 114 115 323 28 324)) ::
 (nat_lit 117,(fO 10 "is_line" "friezeyard.pairs" 291 116)) ::
 (nat_lit 118,oT []) ::
 (nat_lit 120,oT [(vs "p" 329),(vs "other" 330),(vs "a" 331),(vs "b" 332),(vs "c" 333),(vs "d" 334)]) ::
 (nat_lit 121,oT []) ::
 (nat_lit 123,(kO "cross" 326 "cross" 327 328 30 2 0 0 3 118 181 119 120 121 122 335 30 336)) ::
 (nat_lit 124,(fO 11 "cross" "friezeyard.pairs" 291 123)) ::
 (nat_lit 125,oT []) ::
 (nat_lit 127,oT [(vs "thing" 343)]) ::
 (nat_lit 128,oT []) ::
 (nat_lit 130,(kO "is_two" 340 "is_two" 341 342 37 1 0 0 3 125 181 126 127 128 129 344 37 345)) ::
 (nat_lit 131,(fO 13 "is_two" "friezeyard.common" 338 130)) ::
 (nat_lit 132,oT []) ::
 (nat_lit 134,oT [(vs "thing" 350)]) ::
 (nat_lit 135,oT []) ::
 (nat_lit 137,(kO "is_floor" 347 "is_floor" 348 349 39 1 0 0 3 132 181 133 134 135 136 351 39 352)) ::
 (nat_lit 138,(fO 14 "is_floor" "friezeyard.common" 338 137)) ::
 (nat_lit 139,oT []) ::
 (nat_lit 141,oT [(vs "thing" 357)]) ::
 (nat_lit 142,oT []) ::
 (nat_lit 144,(kO "check_floor" 354 "check_floor" 355 356 41 1 0 0 3 139 181 140 141 142 143 358 41 359)) ::
 (nat_lit 145,(fO 15 "check_floor" "friezeyard.common" 338 144)) ::
 (nat_lit 146,oT []) ::
 (nat_lit 149,(kCo "rooms" 363 "rooms" 364 365 45 2 0 0 3 146 181 147 148 366 45 367)) ::
 (nat_lit 150,(fO 17 "rooms" "friezeyard.rooms" 361 149)) ::
 (nat_lit 151,oT []) ::
 (nat_lit 153,oT [(vs "top" 372),(vs "lines" 373),(vs "room" 374)]) ::
 (nat_lit 154,oT []) ::
 (nat_lit 156,(kO "room_under" 369 "room_under" 370 371 48 2 0 0 3 151 181 152 153 154 155 375 48 376)) ::
 (nat_lit 157,(fO 18 "room_under" "friezeyard.rooms" 361 156)) ::
 (nat_lit 158,oT []) ::
 (nat_lit 161,(kCo "corner_behind" 378 "corner_behind" 379 380 53 3 0 0 3 158 181 159 160 381 53 382)) ::
 (nat_lit 162,(fO 19 "corner_behind" "friezeyard.rooms" 361 161)) ::
 (nat_lit 163,oT []) ::
 (nat_lit 166,(kCo "cutting" 386 "cutting" 387 388 57 2 0 0 3 163 181 164 165 389 57 390)) ::
 (nat_lit 167,(fO 21 "cutting" "friezeyard.cuttings" 384 166)) ::
 (nat_lit 168,oT []) ::
 (nat_lit 170,oT [(vs "n" 395),(vs "thing" 396),(vs "line" 397)]) ::
 (nat_lit 171,oT []) ::
 (nat_lit 173,(kO "line_of" 392 "line_of" 393 394 64 2 0 0 3 168 181 169 170 171 172 398 64 399)) ::
 (nat_lit 174,(fO 22 "line_of" "friezeyard.cuttings" 384 173)) ::
 (nat_lit 175,oT []) ::
 (nat_lit 177,oT [(vs "lines" 404),(vs "k" 405),(vs "other" 406),(vs "one" 407)]) ::
 (nat_lit 178,oT []) ::
 (nat_lit 180,(kO "check_uncrossed" 401 "check_uncrossed" 402 403 71 1 0 0 3 175 181 176 177 178 179 408 71 409)) ::
 (nat_lit 181,(fO 23 "check_uncrossed" "friezeyard.cuttings" 384 180)) ::
 (nat_lit 182,oT []) ::
 (nat_lit 185,(kCo "free_line" 411 "free_line" 412 413 76 2 0 0 3 182 181 183 184 414 76 415)) ::
 (nat_lit 186,(fO 24 "free_line" "friezeyard.cuttings" 384 185)) ::
 (nat_lit 187,oT []) ::
 (nat_lit 189,oT [(vs "_law_script" 422),(vs "_law_k" 423)]) ::
 (nat_lit 190,oT []) ::
 (nat_lit 192,(kO "_law_pick" 419 "_law_pick" 420 421 80 2 0 0 3 187 181 188 189 190 191 424 80 425)) ::
 (nat_lit 193,(fO 26 "_law_pick" "law_friezeyard_k13_cuttings_refused" 417 192)) ::
 (nat_lit 194,oT []) ::
 (nat_lit 196,oT [(vs "_law_found" 430)]) ::
 (nat_lit 197,oT []) ::
 (nat_lit 199,(kO "_law_is_number" 427 "_law_is_number" 428 429 84 1 0 0 3 194 181 195 196 197 198 431 84 432)) ::
 (nat_lit 200,(fO 27 "_law_is_number" "law_friezeyard_k13_cuttings_refused" 417 199)) ::
 (nat_lit 201,oT []) ::
 (nat_lit 203,oT [(vs "_law_script" 437),(vs "_law_cell" 438)]) ::
 (nat_lit 204,oT []) ::
 (nat_lit 206,(kO "_law_many" 434 "_law_many" 435 436 86 1 0 0 3 201 181 202 203 204 205 439 86 440)) ::
 (nat_lit 207,(fO 28 "_law_many" "law_friezeyard_k13_cuttings_refused" 417 206)) ::
 (nat_lit 208,oT []) ::
 (nat_lit 210,oT [(vs "_law_cells" 445),(vs "_law_many_here" 446),(vs "_law_found" 447),(vs "_law_number" 448),(vs "_law_k" 449)]) ::
 (nat_lit 211,oT []) ::
 (nat_lit 213,(kO "_law_stream" 442 "_law_stream" 443 444 93 2 0 0 3 208 181 209 210 211 212 450 93 451)) ::
 (nat_lit 214,(fO 29 "_law_stream" "law_friezeyard_k13_cuttings_refused" 417 213)) ::
 (nat_lit 215,oT []) ::
 (nat_lit 218,(kCo "_law_grown" 453 "_law_grown" 454 455 102 1 0 0 3 215 181 216 217 456 102 457)) ::
 (nat_lit 219,(fO 30 "_law_grown" "law_friezeyard_k13_cuttings_refused" 417 218)) ::
 (nat_lit 220,oT []) ::
 (nat_lit 222,oT [(vs "_law_stream_here" 462),(vs "_law_lines" 463),(vs "_law_some" 464),(vs "_law_k" 465),(vs "_law_line" 466),(vs "_law_number" 467)]) ::
 (nat_lit 223,oT []) ::
 (nat_lit 225,(kO "_law_mixed" 459 "_law_mixed" 460 461 114 2 0 0 3 220 181 221 222 223 224 468 114 469)) ::
 (nat_lit 226,(fO 31 "_law_mixed" "law_friezeyard_k13_cuttings_refused" 417 225)) ::
 (nat_lit 227,oT []) ::
 (nat_lit 229,oT [(vs "_law_number" 474),(vs "_law_n" 475),(vs "_law_a" 476),(vs "_law_some" 477)]) ::
 (nat_lit 230,oT []) ::
 (nat_lit 232,(kO "_law_bad" 471 "_law_bad" 472 473 120 2 0 0 3 227 181 228 229 230 231 478 120 479)) ::
 (nat_lit 233,(fO 32 "_law_bad" "law_friezeyard_k13_cuttings_refused" 417 232)) ::
 (nat_lit 234,oT []) ::
 (nat_lit 236,oT [(vs "_law_number" 484),(vs "_law_far" 485),(vs "_law_some" 486)]) ::
 (nat_lit 237,oT []) ::
 (nat_lit 239,(kO "_law_floor" 481 "_law_floor" 482 483 125 1 0 0 3 234 181 235 236 237 238 487 125 488)) ::
 (nat_lit 240,(fO 33 "_law_floor" "law_friezeyard_k13_cuttings_refused" 417 239)) ::
 (nat_lit 241,oT []) ::
 (nat_lit 243,oT [(vs "_law_some" 493),(vs "_law_n" 494),(vs "_law_four" 495),(vs "_law_at" 496),(vs "_law_k" 497),(vs "_law_a" 498),(vs "_law_line" 499)]) ::
 (nat_lit 244,oT []) ::
 (nat_lit 246,(kO "_law_spoil" 490 "_law_spoil" 491 492 129 3 0 0 3 241 181 242 243 244 245 500 129 501)) ::
 (nat_lit 247,(fO 34 "_law_spoil" "law_friezeyard_k13_cuttings_refused" 417 246)) ::
 (nat_lit 248,oT []) ::
 (nat_lit 250,oT [(vs "_law_n" 506),(vs "_law_thing" 507),(vs "_law_least" 508),(vs "_law_far" 509)]) ::
 (nat_lit 251,oT []) ::
 (nat_lit 253,(kO "_law_is_line" 503 "_law_is_line" 504 505 146 2 0 0 3 248 181 249 250 251 252 510 146 511)) ::
 (nat_lit 254,(fO 35 "_law_is_line" "law_friezeyard_k13_cuttings_refused" 417 253)) ::
 (nat_lit 255,oT []) ::
 (nat_lit 258,(kCo "_law_meet" 513 "_law_meet" 514 515 152 2 0 0 3 255 181 256 257 516 152 517)) ::
 (nat_lit 259,(fO 36 "_law_meet" "law_friezeyard_k13_cuttings_refused" 417 258)) ::
 (nat_lit 260,oT []) ::
 (nat_lit 263,(kCo "_law_due" 519 "_law_due" 520 521 155 2 0 0 3 260 181 261 262 522 155 523)) ::
 (nat_lit 264,(fO 37 "_law_due" "law_friezeyard_k13_cuttings_refused" 417 263)) ::
 (nat_lit 265,oT []) ::
 (nat_lit 267,oT [(vs "_law_n" 528),(vs "_law_things" 529),(vs "_law_told_here" 530),(vs "_law_found" 531),(vs "e" 532)]) ::
 (nat_lit 268,oT []) ::
 (nat_lit 270,(kO "_law_answer" 525 "_law_answer" 526 527 168 2 0 0 3 265 181 266 267 268 269 533 168 534)) ::
 (nat_lit 271,(fO 38 "_law_answer" "law_friezeyard_k13_cuttings_refused" 417 270)) ::
 (nat_lit 272,oT []) ::
 (nat_lit 274,oT [(vs "_law_n" 539),(vs "_law_things" 540),(vs "_law_told_here" 541),(vs "e" 542)]) ::
 (nat_lit 275,oT []) ::
 (nat_lit 277,(kO "_law_kinds" 536 "_law_kinds" 537 538 183 2 0 0 3 272 181 273 274 275 276 543 183 544)) ::
 (nat_lit 278,(fO 39 "_law_kinds" "law_friezeyard_k13_cuttings_refused" 417 277)) ::
 (nat_lit 279,oT []) ::
 (nat_lit 281,oT [(vs "_law_found" 549)]) ::
 (nat_lit 282,oT []) ::
 (nat_lit 284,(kO "_law_is_pair" 546 "_law_is_pair" 547 548 191 1 0 0 3 279 181 280 281 282 283 550 191 551)) ::
 (nat_lit 285,(fO 40 "_law_is_pair" "law_friezeyard_k13_cuttings_refused" 417 284)) ::
 (nat_lit 286,oT []) ::
 (nat_lit 289,(kCo "_law_told" 553 "_law_told" 554 555 195 3 0 0 3 286 181 287 288 556 195 557)) ::
 (nat_lit 290,(fO 41 "_law_told" "law_friezeyard_k13_cuttings_refused" 417 289)) ::
 (nat_lit 291,oT []) ::
 (nat_lit 293,oT [(vs "_law_script" 562),(vs "_law_spoils" 563),(vs "_law_stream_here" 564),(vs "_law_n" 565),(vs "_law_lines" 566),(vs "_law_some" 567),(vs "_law_told_here" 568),(vs "_law_k" 569),(vs "_law_due_here" 570),(vs "_law_handed" 571),(vs "_law_kinds_here" 572)]) ::
 (nat_lit 294,oT []) ::
 (nat_lit 296,(kO "law" 559 "law" 560 561 211 1 0 0 3 291 181 292 293 294 295 573 211 574)) ::
 (nat_lit 297,(fO 42 "law" "law_friezeyard_k13_cuttings_refused" 417 296))::[]
noncomputable def places:List Addr:=[2,3,15,22,23,24,25,28,35,36,37,40,47,48,49,52,59,61,62,64,65,66,67,68,71,78,80,81,83,84,85,86,87,90,92,93,95,96,97,99,100,102,103,104,106,107,109,110,111,113,114,116,117,118,120,121,123,124,125,127,128,130,131,132,134,135,137,138,139,141,142,144,145,146,149,150,151,153,154,156,157,158,161,162,163,166,167,168,170,171,173,174,175,177,178,180,181,182,185,186,187,189,190,192,193,194,196,197,199,200,201,203,204,206,207,208,210,211,213,214,215,218,219,220,222,223,225,226,227,229,230,232,233,234,236,237,239,240,241,243,244,246,247,248,250,251,253,254,255,258,259,260,263,264,265,267,268,270,271,272,274,275,277,278,279,281,282,284,285,286,289,290,291,293,294,296,297]
theorem wz:∀P,places=(K P).map (·.1):=fun _=>by kernel_rfl
def hook:PySem.W.Hook:=PySem.W.kHook K places wz
noncomputable def q:Program:=PySem.W.view PySem.Challenge.pw_friezeyard_k13_cuttings_refused [1,2,3,4,5,7,8,9,10,11,13,14,15,17,18,19,21,22,23,24,26,27,28,29,30,31,32,33,34,35,36,37,38,39,40,41,42]
def xtH (s:Shared):Bool:=PySem.W.xlAt q [] s&&PySem.W.recOk (PySem.W.RowW.records PySem.Challenge.rw_friezeyard_k13_cuttings_refused.row.toRowW) s
def out (w:World) (os:OsState):=outAt PySem.Challenge.pw_friezeyard_k13_cuttings_refused q [] xtH (fun s=>places.map s.heap.get?) 4368 w os
def good:=PySem.W.openGood q []
example:((fun (_:Params->Obj) (_:Str)=>true) PySem.W.boot_o_0 (Str.ofString "dull"))=true:=by k_qdec
lay_quick out good
theorem jq:∀w os,out w os=some (true,good,(K w.params).map fun p=>some p.2):=fun w os=>(congrFun (congrFun PySem.W.Fast.te7108210619368604177 w) os).trans (by rw [PySem.W.Fast.te3762890766266754209];kernel_rfl)
theorem left:PySem.W.LeftO PySem.Challenge.pw_friezeyard_k13_cuttings_refused q [] xtH (PySem.W.Hook.obs hook) (PySem.W.Hook.val hook) 4368:=qF (by kernel_rfl) (by kernel_rfl) (fun _=>by kernel_rfl) jq
end K13
namespace K13
open L2 Cu
local macro_rules | `(tactic| walk_at "dz")=>do
 let a:=("Pf,Je,jM,zvu,zvt,zzb,O9,sNx,Cf,u9,Z3,y34,B7,J8,Jd,zvw,zvx,zqr,we,zvk,zvl,zvo,zvm,zvn,zqo,zvp,zvq,zvr,zvs,zqq,zqs,Df,y08,y09,y0a,Pe,Pd,zvy,Rt,Ui,zqv,zvz,zwp,y0l,y0m,y0n,zwq,zwr,zr8,zr9,zm0,zqw,zm1,zm2,zm3,Vk,zwl,zx,zre,zw0,zw1,Uh,zw2,zqx,zqy,zqz,zr0,J2,Dg,Option.bind_some,Bool.and_true,Bool.true_and,Pc,y0b,y0c,y0d,y3d,y3e,eC,eOp,eUn,a8,a6,e8,eCB,e9,k7,eIf,eSl,oSo,oNo,zwt,z5,bOr,v0,c6,o4,eOr,M1,y32,M6,E8,zu9,zua,z8,iL,zrc,zrd,zr6,zr5,xX,L2.R.bind_ok,L2.R.of_some,m5,y9,o3,dLe,O5,dGe,y0e,M0,y0f,znx,zw3,zw4,zw5,zw6,zw7,wd,zw8,P5,wc,wb,zw9,zwa,zwb,Rs,wa,y0h,zwm,y0i,y0k,y0p,zwx,zwy,zrh,zri,zmb,zmc,y3g,zwn,y0j,y3h,y3i,Hf,Hg,y0q,y0r,zwz,zx0,zx1,zx2,zx3,y0s,y0t,zmd,E9,vY,y0g,zwc,zwd,zr3,zwe,zwf,zwg,Rr,vZ,zwh,K5,zwi,zwj,zwk,zr4,List.map_cons,List.map_nil,List.length_cons,List.length_nil,List.cons_append,List.nil_append,List.replicate_succ,List.replicate_zero,List.getElem?_cons_zero,List.getElem?_cons_succ,List.set_cons_zero,List.set_cons_succ,Option.map_some,Option.getD_some,if_true,if_false,Bool.false_eq_true,Bool.not_true,Bool.not_false,Bool.and_false,Bool.false_and,Bool.or_true,Bool.true_or,Bool.or_false,Bool.false_or,Nat.reduceAdd,Nat.reduceLeDiff,Nat.reduceEqDiff,reduceCtorEq,decide_true,decide_false,Int.reduceEq".splitOn ",").toArray.map fun s=>Lean.mkIdent s.toName
 `(tactic| try simp (implicitDefEqProofs:=false) only [$[$a:term],*])
theorem Tj {α:Type} (ls:List α) (f:α->D) (n:Nat) (hn:n<=20) (h1:∀x,(f x).oi=true) (h2:∀x,(f x).dep<=n) (h3:∀x y,(g7 (f x) (f y)).isSome=true) (h4:((ls.map f).all isI||(ls.map f).all E1||(ls.map f).all L7)=true) (hl:ls.length<64):J9 [.lst (ls.map f)]=some (.lst (v7 (ls.map f))):=by
 have ok:Ai (ls.map f)=true:=by unfold Ai;rw [Z6 _ _ h1,decide_eq_true (Nat.le_trans (Jo ls f n h2) hn),T6 ls f (fun d=>(ls.map f).all fun e=>(g7 d e).isSome) (fun x=>T6 _ _ _ fun y=>h3 x y),h4,List.length_map,decide_eq_true hl];rfl
 simp only [J9,ok,if_true]
theorem sorted_T2 (ls:List P2) (hl:ls.length<64):J9 [.lst (ls.map T2)]=some (.lst ((so2 ls).map T2)):=by rw [Tj ls T2 1 (by decide) Ge Z5 Pz (by rw [T6 ls T2 E1 fun _=>rfl,Bool.or_true,Bool.true_or]) hl,Dj]
theorem jp (d:Int) (ns:List Int):S0 [L ns,.int d]=some (.int (mxD d ns)):=by simp only [L,S0,Lu,Option.map_some]
theorem Ti (t:DE->R Bool) (g:DS->SR) (n:Nat) (ρ:DS):G2 t g (n+1) ρ=(t (see ρ)).toS fun b=>if b=true then (g ρ).itr (G2 t g n) else .nx ρ:=by rw [G2];congr 1
theorem Pl (xs:List Int) (v:Int):dIx (L (xs++[v])) (.int (-1))=some (.int v):=by
 have:(xs++[v]).map D.int=xs.map D.int++[D.int v]:=by simp
 simp only [L,dIx,dOr,y8,this,xH]
def X9 (n a b:Int):Bool:=!(decide (a<0)||decide (n<=b))&&(decide (b=a+1)||(decide (a=0)&&decide (b=n - 1)))
theorem jo (n:Int) (p:P2):At [.int n,T2 p]=.ok (.bl (X9 n p.1 p.2)):=by unfold At Ur X9;walk_at "dz";generalize (decide (p.1<0)||decide (n<=p.2))=c;cases c<;>rfl
theorem wy {n a b:Int}:X9 n a b=true↔(0<=a/\b<n)/\(b=a+1\/(a=0/\b=n - 1)):=by simp only [X9,Bool.and_eq_true,Bool.not_eq_true',Bool.or_eq_false_iff,Bool.or_eq_true,decide_eq_true_eq,decide_eq_false_iff_not];rw [Int.not_lt,Int.not_le]
theorem wx (r:Int) (p:P2):As [.int r,T2 p]=.ok (.bl (t8 r p)):=by
 have hs:=jo r p;have e:t8 r p=if decide (0<=p.1)=true then (if decide (p.1<p.2)=true then (decide (p.2<r)&&!X9 r p.1 p.2) else false) else false:=by
  rw [Bool.eq_iff_iff];unfold t8;rw [decide_eq_true_eq];by_cases c1:0<=p.1
  . by_cases c2:p.1<p.2
    . rw [ξ (decide_eq_true c1),ξ (decide_eq_true c2),Bool.and_eq_true,Bool.not_eq_true',decide_eq_true_eq,<-Bool.not_eq_true,wy];exact ⟨fun h=>⟨h.2.2.1,fun z=>h.2.2.2 z.2⟩,fun h=>⟨c1,c2,h.1,fun z=>h.2 ⟨⟨c1,h.1⟩,z⟩⟩⟩
    . rw [ξ (decide_eq_true c1),decide_eq_false c2];simp;omega
  . rw [decide_eq_false c1];simp;omega
 unfold As Uq;walk_at "dz";rw [hs];rw [e];by_cases c1:0<=p.1
 . rw [decide_eq_true c1];by_cases c2:p.1<p.2
   . rw [decide_eq_true c2];simp only [if_true];walk_at "dz"
   . rw [decide_eq_false c2];simp only [if_true,Bool.false_eq_true,if_false];walk_at "dz"
 . rw [decide_eq_false c1];simp only [Bool.false_eq_true,if_false];walk_at "dz"
theorem qy (c:Int) (p:P2) (ls:List P2) (hl:ls.length<=1000):Bu [.int c,T2 p,.lst (ls.map T2)]=.ok (.int (nxt ls p c)):=by
 unfold Bu Xh;walk_at "dz";rw [ξ (by rw [List.length_map];omega),Uw (en:=T2) (bs:=fun l=>[T2 l]) (p:=pk c p) (g:=fun l=>D.int l.2) ls (fun x _=>rfl) (fun l _=>by
  unfold Xm;simp only [T2];walk_at "dz";rfl) (fun l _ _=>by
  unfold Xl;simp only [T2];walk_at "dz")]
 simp only [R.bind_ok];rw [show D.lst ((ls.filter (pk c p)).map fun l=>D.int l.2)=L (ends c p ls) by unfold L ends;rw [List.map_map];rfl];walk_at "dz";rw [jp];walk_at "dz";rfl
theorem Tf (ls:List P2) (p:P2) (xs:List Int) (v:Int):Ep [some (T2 p),some (.lst (ls.map T2)),some (L (xs++[v]))]=.ok (decide (v<p.2)):=by unfold Ep;simp only [T2];walk_at "dz";rw [Pl];walk_at "dz"
theorem ww (ls:List P2) (hl:ls.length<=1000) (p:P2) (xs:List Int) (v:Int) (hx:xs.length<1000):Eo [.im (T2 p),.im (.lst (ls.map T2)),.ow (L (xs++[v]))]=.nx [.im (T2 p),.im (.lst (ls.map T2)),.ow (L (xs++[v]++[nxt ls p v]))]:=by unfold Eo;walk_at "dz";rw [Pl];walk_at "dz";rw [qy _ _ _ hl];walk_at "dz";rw [Gg (by simp;omega)];walk_at "dz"
theorem wv (ls:List P2) (hl:ls.length<=1000) (p:P2) {c:Int} {l:List Int} {es:List P2} (h:Ch p.2 (nxt ls p) c l es):∀(f:Nat) (xs:List Int),l.length<=f->xs.length+l.length<1000 ->
  G2 Ep Eo f [.im (T2 p),.im (.lst (ls.map T2)),.ow (L (xs++[c]))]=.nx [.im (T2 p),.im (.lst (ls.map T2)),.ow (L (xs++l))]:=by
 induction h with
 | last=>
  intro f xs hf hx
  obtain ⟨f,rfl⟩:∃g,f=g+1:=⟨f - 1,by simp at hf;omega⟩
  rw [Ti]
  simp only [Pd,Rt,Ui,Pe]
  rw [Tf,Jd,decide_eq_false (show ¬p.2<p.2 by omega),ψ η]
 | @step c l es h r ih=>
  intro f xs hf hx
  rw [List.length_cons] at hf hx
  obtain ⟨f,rfl⟩:∃g,f=g+1:=⟨f - 1,by omega⟩
  rw [Ti]
  simp only [Pd,Rt,Ui,Pe]
  rw [Tf,Jd,decide_eq_true h,ξ rfl,ww ls hl p xs c (by omega),K5,ih f (xs++[c]) (by omega) (by simp;omega)]
  simp
theorem wu (ls:List P2) (hl:ls.length<=1000) (p:P2) {l:List Int} {es:List P2} (h:Ch p.2 (nxt ls p) p.1 l es) (hn:l.length<=100):Bn [T2 p,.lst (ls.map T2)]=.ok (TuI l):=by unfold Bn Wr;walk_at "dz";have w:=wv ls hl p h 1000 [] (by omega) (by simp;omega);rw [List.nil_append,List.nil_append] at w;rw [show D.lst [D.int p.1]=L [p.1] from rfl];unfold Db;rw [w];walk_at "dz";rfl
theorem wt {n:Int} {ls:List P2} (I:Lns n ls) (hn:n<=60):∃(C:P2->List Int) (E:P2->List P2),∀t,v6 n ls t->Ch t.2 (nxt ls t) t.1 (C t) (E t)/\(C t).length<=60:=by
 have ex:∀t,∃q:List Int×List P2,v6 n ls t->Ch t.2 (nxt ls t) t.1 q.1 q.2/\q.1.length<=60:=fun t=>by
  by_cases h:v6 n ls t
  . have tt:=I.top (a:=t.1) (b:=t.2) h;have X:=Np I t;obtain ⟨l,es,r⟩:=Ch.ex X.up (t.2 - t.1).toNat t.1 (by omega) (ζ _);have:=r.len X.up;exact ⟨(l,es),fun _=>⟨r,by simp only;omega⟩⟩
  . exact ⟨([],[]),fun z=>absurd z h⟩
 exact ⟨fun t=>(Classical.choose (ex t)).1,fun t=>(Classical.choose (ex t)).2,fun t ht=>Classical.choose_spec (ex t) ht⟩
theorem qx (l:List Int):(TuI l).dep<=1:=by simp only [TuI,D.dep,(Kg l).2];omega
theorem qw (a b:List Int):(g7 (TuI a) (TuI b)).isSome=true:=by obtain ⟨r,h⟩:=Uu a b;simp only [TuI,g7,h,Option.isSome_some]
def soT {α:Type} (F:α->List Int) (ts:List α):List α:=J3 (fun a b=>ltT (TuI (F a)) (TuI (F b))) ts
theorem Te {α:Type} (F:α->List Int) (ts:List α):(soT F ts).Perm ts:=Bg _ _
theorem wq {α:Type} (F:α->List Int) (ts:List α) (hF:∀t∈ts,F t≠[]) (hl:ts.length<64):J9 [.lst (ts.map fun t=>TuI (F t))]=some (.lst ((soT F ts).map fun t=>TuI (F t))):=by
 rw [Tj ts (fun t=>TuI (F t)) 1 (by omega) (fun t=>jF _) (fun t=>qx _) (fun _ _=>qw _ _) ?_ hl,Aw (f:=fun t=>TuI (F t))]
 . rfl
 . rw [Bool.or_eq_true,Bool.or_eq_true,List.all_eq_true,List.all_eq_true];refine .inl (.inr ?_);intro d hd;obtain ⟨t,ht,rfl⟩:=List.mem_map.mp hd;have:=hF t ht;cases e:F t with
   | nil=>exact absurd e this
   | cons a r=>simp only [TuI,List.map_cons,E1]
theorem wo {n:Int} {ls:List P2} (hl:ls.length<=57) {C:P2->List Int} {E:P2->List P2} (hC:∀t,v6 n ls t->Ch t.2 (nxt ls t) t.1 (C t) (E t)/\(C t).length<=60) :
  Ag [.int n,.lst (ls.map T2)]=.ok (.lst ((soT C ((0,n - 1)::ls)).map fun t=>TuI (C t))):=by
 unfold Ag Rg
 walk_at "dz"
 rw [show E3 (D.lst [D.tup [D.int 0,D.int (n - 1)]]) (D.lst (ls.map T2))=some (.lst (((0,n - 1)::ls).map T2)) by simp only [E3];rw [ξ (by simp;omega)];rfl]
 obtain ⟨tops,ht⟩:∃tops:List P2,tops=(0,n - 1)::ls:=⟨_,rfl⟩
 have hlt:tops.length<=58:=by rw [ht,List.length_cons];omega
 rw [<-ht]
 have kp:keeps true (D.lst (tops.map T2))=true:=by rw [Vk];exact F5 _ _ fun x _=>E9 x
 simp only [R.of_some,Jd,kp]
 walk_at "dz"
 rw [ξ (by rw [List.length_map];omega),Ax (en:=T2) (bs:=fun q=>[T2 q]) (g:=fun q=>TuI (C q)) tops (fun x _=>rfl) (fun q hq=>by unfold Up;walk_at "dz";have:=hC q (by rw [ht] at hq;exact List.mem_cons.mp hq);exact wu ls (by omega) q this.1 (by omega))]
 walk_at "dz"
 rw [wq C tops (fun t htt=>by have:=(hC t (by rw [ht] at htt;exact List.mem_cons.mp htt)).1.ends.2;obtain ⟨m,e⟩:=this;rw [e];simp) (by rw [ht,List.length_cons];omega)]
 walk_at "dz"
theorem jm (a b:Int):Z4 [.int a,.int b]=.ok (T2 (nr (a,b))):=by
 unfold Z4 Pn nr;walk_at "dz";by_cases h:a<b
 . rw [decide_eq_true h,ξ h];walk_at "dz";rfl
 . rw [decide_eq_false h,ψ h];walk_at "dz";rfl
theorem Xo (c x:Int):x+(if decide (c<x)=true then 1 else 0)=sh c x:=by
 unfold sh;by_cases h:c<x
 . rw [decide_eq_true h,ξ rfl,ξ h]
 . rw [decide_eq_false h,ψ η,ψ h];omega
theorem k8 {a r:DS->SR} {ρ ρ':DS} (h:a ρ=.nx ρ'):b7 a r ρ=r ρ':=by rw [Je,h,we]
theorem Hh {α:Type} (f:α->D) (d:α) (xs:List α):((zD 0 (xs.map f).length).zip (xs.map f)).map (fun p=>D.tup [p.1,p.2])=(List.range xs.length).map fun (i:Nat)=>D.tup [.int (i:Int),f (xs.getD i d)]:=by
 have e:xs.map f=(List.range xs.length).map fun i=>f (xs.getD i d):=by
  conv=>lhs;rw [jL xs d]
  rw [List.map_map];rfl
 rw [e,wL]
theorem jk (ns:List Int) (k:Int) (hk:0<=k):Bk [.scr ns,.int k]=.ok (.int (ns.getD k.toNat 0)):=by
 unfold Bk Wh;walk_at "dz";by_cases h:k<ns.length
 . rw [ξ (by simpa using h),qU hk h];rfl
 . rw [ψ (by simpa using h)];rw [List.getD_eq_getElem?_getD,List.getElem?_eq_none (by omega)];rfl
theorem wn (cells:List Int) (m:Int) (cs:List Int) (x i:Int) (hx:0<=x/\x<2147483647) (hi:0<=i/\i<1000) (hc:cs.length<1000) :
  ∃y:Int,(0<=y/\y<2147483647)/\Et [.im (L cells),.im (.int m),.ow (L cs),.im (.int x),.im (.int i)]=.nx [.im (L cells),.im (.int m),.ow (L (cs++[y])),.im (.int y),.im (.int i)]:=by
 unfold Et
 walk_at "dz"
 rw [Y3 (by omega),Y3 (by omega)]
 walk_at "dz"
 rw [j7 (by omega)]
 walk_at "dz"
 by_cases h:i<cells.length
 . rw [decide_eq_true h];walk_at "dz";rw [Xu hi.1 (by omega)];walk_at "dz";rw [j7 (by omega)];walk_at "dz";rw [Gg (by omega)];walk_at "dz";exact ⟨_,⟨Int.emod_nonneg _ (by decide),Int.emod_lt_of_pos _ (by decide)⟩,rfl⟩
 . rw [decide_eq_false h];walk_at "dz";rw [Gg (by omega)];walk_at "dz";exact ⟨_,⟨Int.emod_nonneg _ (by decide),Int.emod_lt_of_pos _ (by decide)⟩,rfl⟩
theorem Td (cells:List Int) (m:Nat) (hm:m<=57):∃st:List Int,st.length=m/\P8 [L cells,.int (m:Int)]=.ok (L st):=by
 unfold P8 Wz;walk_at "dz";rw [Gf (m:Int) (by omega) (by walk_at "dz")];walk_at "dz";simp only [zD];obtain ⟨ρ',e,cs,x,s4,⟨hl,hx⟩,hr⟩:=Tq (tg:=.n 4) (g:=Et) m (fun (i:Nat)=>D.int (0+(i:Int)))
  (fun k ρ=>∃(cs:List Int) (x:Int) (s4:Sl),(cs.length=k/\0<=x/\x<2147483647)/\ρ=[.im (L cells),.im (.int (m:Int)),.ow (L cs),.im (.int x),s4])
  [.im (L cells),.im (.int (m:Int)),.ow (L []),.im (.int 7),.em] ⟨[],7,.em,⟨rfl,by omega,by omega⟩,rfl⟩ (by rintro i hi ρ ⟨cs,x,s4,⟨hl,hx⟩,rfl⟩;obtain ⟨y,hy,e⟩:=wn cells (m:Int) cs x (0+(i:Int)) hx (by omega) (by omega);exact ⟨_,_,rfl,Or.inl e,⟨_,_,_,⟨by simp [hl],hy⟩,rfl⟩⟩)
 rw [show (D.lst []:D)=L [] from rfl,Int.toNat_natCast,e,hr];walk_at "dz";exact ⟨cs,hl,rfl⟩
theorem Pk {xs:List P2} {x:Int} (y:P2) (h0:0<=x) (h1:x<=xs.length) (h:xs.length<1000):w6 (.lst (xs.map T2)) [.int x,T2 y]=some (.lst ((xs.take x.toNat++y::xs.drop x.toNat).map T2)):=by simp only [w6,List.length_map];rw [ξ (by refine ⟨by omega,by omega,by omega⟩)];congr 2;simp only [p6,W8,List.length_map,ψ (show ¬x<0 by omega),List.map_append,List.map_take,List.map_cons,List.map_drop];rw [Nat.min_eq_left (by omega)]
def p7:D->Bool
 | .int _=>true
 | _=>false
def Atm:D->Bool
 | .int _=>true
 | .non=>true
 | .str _=>true
 | .bl _=>true
 | _=>false
def Th:D->Bool
 | .int _=>true
 | .non=>true
 | .str _=>true
 | .lst ds=>ds.all p7
 | .dk [] []=>true
 | .tup ds=>ds.all Atm
 | _=>false
def lnD (n:Int):D->Option P2
 | .tup [.int a,.int b]=>if t8 n (nr (a,b))=true then some (nr (a,b)) else none
 | _=>none
theorem Jh {x:D} (h:Atm x=true):N5 [x]=.ok (.bl (p7 x)):=by
 unfold N5 Lr;cases x<;>first | (exfalso;simp [Atm] at h;done) | skip
 all_goals rfl
theorem K6 (h:Atm x=true):G7 [x]=.ok (.bl (p7 x)):=by
 unfold G7 Xi;cases x<;>first | (exfalso;simp [Atm] at h;done) | skip
 all_goals rfl
def X8:D->Bool
 | .tup [x,y]=>p7 x&&p7 y
 | _=>false
theorem Tc (h:Th t=true):(∃a b,t=.tup [.int a,.int b])\/(X8 t=false/\∀n,lnD n t=none):=by
 cases t<;>first | (exfalso;simp [Th] at h;done) | exact .inr ⟨rfl,fun _=>rfl⟩ | skip
 rename_i ds
 match ds with
 | []=>exact .inr ⟨rfl,fun _=>rfl⟩
 | [x]=>exact .inr ⟨rfl,fun _=>by cases x<;>rfl⟩
 | x::y::z::r=>exact .inr ⟨rfl,fun _=>by cases x<;>first | rfl | (cases y<;>rfl)⟩
 | [x,y]=>
  cases x<;>first | exact .inr ⟨rfl,fun _=>rfl⟩ | skip
  cases y<;>first | exact .inr ⟨rfl,fun _=>rfl⟩ | exact .inl ⟨_,_,rfl⟩
theorem y16 {t:D} (h:Th t=true):Ao [t]=.ok (.bl (X8 t)):=by
 unfold Ao Tm;cases t<;>first | (exfalso;simp [Th] at h;done) | rfl | skip
 . rename_i ds;simp only [Th,List.all_eq_true] at h
   match ds with
   | []=>rfl
   | [x]=>rfl
   | [x,y]=>
    have hx:=Jh (h x (by simp))
    have hy:=Jh (h y (by simp))
    walk_at "dz"
    rw [hx]
    walk_at "dz"
    cases e:p7 x<;>simp only [X8,e]
    . walk_at "dz"
    . walk_at "dz";rw [hy];walk_at "dz";rfl
   | x::y::z::r=>
    walk_at "dz"
    rw [decide_eq_false (show ¬(((r.length+1+1+1:Nat):Int)=2) by omega)]
    rfl
theorem Fx (h:a<b):nr (a,b)=(a,b):=by unfold nr;rw [ξ h]
theorem Ci (h:¬a<b):nr (a,b)=(b,a):=by unfold nr;rw [ψ h]
theorem Nn (n a b:Int):lnD n (.tup [.int a,.int b])=if t8 n (nr (a,b))=true then some (nr (a,b)) else none:=rfl
theorem wm (h:Th t=true):V5 [.int n,t]=match lnD n t with | some p=>.ok (T2 p) | none=>.er ⟨"NoLine",[]⟩:=by
 have e2:=y16 h;unfold V5 Uo;rcases Tc h with ⟨a,b,rfl⟩ | ⟨h1,h2⟩
 . walk_at "dz";rw [e2];simp only [X8,p7];walk_at "dz";rw [jm];walk_at "dz";rw [show keeps false (T2 (nr (a,b)))=true from E9 (nr (a,b))];walk_at "dz";rw [wx];walk_at "dz";rw [Nn];cases e:t8 n (nr (a,b))
   . simp only [M9];walk_at "dz"
   . walk_at "dz"
 . rw [h1] at e2;rw [h2];walk_at "dz";rw [e2];walk_at "dz";simp only [M9];walk_at "dz"
theorem qu:t8 n (nr (a,b))=(decide (0<=p8 a [b])&&(decide (o6 a [b]<n)&&(decide (2<=o6 a [b] - p8 a [b])&&decide (o6 a [b] - p8 a [b]<n - 1)))):=by
 rw [Bool.eq_iff_iff];unfold t8;simp only [Bool.and_eq_true,decide_eq_true_eq];have e1:p8 a [b]=if b<a then b else a:=rfl
 have e2:o6 a [b]=if b > a then b else a:=rfl
 by_cases h:a<b
 . rw [Fx h,e1,e2,ψ (by omega),ξ h];simp only;omega
 . by_cases h2:a=b
   . rw [Ci h,e1,e2,ψ (by omega),ψ (by omega)];simp only;omega
   . rw [Ci h,e1,e2,ξ (by omega),ψ (by omega)];simp only;omega
theorem Uj (h:Th t=true):P9 [.int n,t]=.ok (.bl (lnD n t).isSome):=by
 unfold P9 Xd;rcases Tc h with ⟨a,b,rfl⟩ | ⟨h1,h2⟩
 . walk_at "dz";rw [K6 (x:=.int a) rfl,K6 (x:=.int b) rfl];simp only [p7];walk_at "dz";rw [show R8 [.tup [.int a,.int b]]=some (.int (p8 a [b])) from rfl];walk_at "dz";have mx:O6 [.tup [.int a,.int b]]=some (.int (o6 a [b])):=rfl;rw [mx];walk_at "dz";rw [mx];walk_at "dz";rw [Nn,qu];cases decide (0<=p8 a [b])<;>cases decide (o6 a [b]<n)<;>cases decide (2<=o6 a [b] - p8 a [b])<;>cases decide (o6 a [b] - p8 a [b]<n - 1)<;>rfl
 . rw [h2];cases t<;>first | (exfalso;simp [Th] at h;done) | rfl | skip
   rename_i ds;simp only [Th,List.all_eq_true] at h
   match ds with
   | []=>rfl
   | [x]=>rfl
   | [x,y]=>
    have hx:=K6 (h x (by simp))
    have hy:=K6 (h y (by simp))
    walk_at "dz"
    rw [hx]
    walk_at "dz"
    cases e:p7 x
    . walk_at "dz";rfl
    . walk_at "dz";rw [hy];simp only [X8,e,Bool.true_and] at h1;rw [h1];walk_at "dz";rfl
   | x::y::z::r=>
    walk_at "dz"
    rw [decide_eq_false (show ¬(((r.length+1+1+1:Nat):Int)=2) by omega)]
    rfl
def crs (p q:P2):Bool:=decide (p=q)||decide ((p.1<q.1/\q.1<p.2/\p.2<q.2)\/(q.1<p.1/\p.1<q.2/\q.2<p.2))
theorem qt (p q:P2):Ah [T2 p,T2 q]=.ok (.bl (decide ((p.1<q.1/\q.1<p.2/\p.2<q.2)\/(q.1<p.1/\p.1<q.2/\q.2<p.2)))):=by unfold Ah Rh;simp only [T2];walk_at "dz";by_cases a1:p.1<q.1<;>by_cases a2:q.1<p.2<;>by_cases a3:p.2<q.2<;>by_cases b1:q.1<p.1<;>by_cases b2:p.1<q.2<;>by_cases b3:q.2<p.2<;>simp [a1,a2,a3,b1,b2,b3]
theorem Nm (p q:P2):dEq (T2 p) (T2 q)=some (.bl (decide (p=q))):=by simp only [T2];rw [wd];congr 2;rw [Bool.eq_iff_iff];simp [Prod.ext_iff]
theorem Xn (a c e:Int):dIn true (.int a) (.tup [.int c,.int e])=some (.bl (!((c==a)||(e==a)))):=by unfold dIn dOr By;simp only [D.pl,pls,i9,D.dep,Bool.and_self,true_and,ξ (show max 0 (max 0 0)<=20 by decide),List.any_cons,List.any_nil,eqD,Bool.or_false,if_true]
def bt (p:P2) (x:Int):Int:=if (decide (p.1<x)&&decide (x<p.2))=true then 1 else 0
theorem Pj (p:P2) (x:Int):Mv [some (.int x),some (.tup [.int p.1,.int p.2])]=.ok (.int (bt p x)):=by unfold Mv bt;walk_at "dz"
theorem qr {p q:P2} (hp:p.1<p.2) (hq:q.1<q.2):crs p q=(decide (p=q)||(decide (bt p q.1+(bt p q.2+0)=1)&&(!((q.1==p.1)||(q.2==p.1))&&!((q.1==p.2)||(q.2==p.2))))):=by unfold crs;congr 1;rw [Bool.eq_iff_iff];obtain ⟨a,b⟩:=p;obtain ⟨c,e⟩:=q;simp only [Bool.and_eq_true,Bool.not_eq_true',Bool.or_eq_false_iff,beq_eq_false_iff_ne,decide_eq_true_eq,bt];simp only at hp hq;by_cases a1:a<c<;>by_cases a2:c<b<;>by_cases a3:a<e<;>by_cases a4:e<b<;>simp [a1,a2,a3,a4]<;>omega
theorem Pi {p q:P2} (hp:p.1<p.2) (hq:q.1<q.2):W1 [T2 p,T2 q]=.ok (.bl (crs p q)):=by
 have ns:=Xn p.1 q.1 q.2;have nt:=Xn p.2 q.1 q.2;have eq':=Nm p q;simp only [T2] at eq';unfold W1 Wg;simp only [T2];walk_at "dz";rw [Pj,Pj];walk_at "dz";rw [show F8 [D.lst [D.int (bt p q.1),D.int (bt p q.2)]]=some (.int (bt p q.1+(bt p q.2+0))) from rfl];walk_at "dz";have ep:(decide (p.1=q.1)&&decide (p.2=q.2))=decide (p=q):=by rw [Bool.eq_iff_iff];simp [Prod.ext_iff]
 rw [qr hp hq,ep,ns,nt];generalize decide (p=q)=b1;generalize decide (bt p q.1+(bt p q.2+0)=1)=b2;generalize (q.1==p.1||q.2==p.1)=b3;generalize (q.1==p.2||q.2==p.2)=b4;cases b1<;>cases b2<;>cases b3<;>cases b4<;>rfl
def fc:List P2->List P2->Option (P2×P2)
 | _,[]=>none
 | pre,q::r=>match pre.find? (fun p=>crs p q) with
  | some p=>some (p,q)
  | none=>fc (pre++[q]) r
theorem Ta (xs:List α) (k:Nat) (h:k<=xs.length):y0 xs none (some (k:Int))=xs.take k:=by unfold y0;simp only [HT.sIx,ψ (show ¬((k:Int)<0) by omega),Int.toNat_natCast,List.drop_zero,Nat.sub_zero];rw [Nat.min_eq_left h]
theorem y17 (A0 s1:Sl) (p q:P2):W5 [A0,s1,.im (T2 q),.im (T2 p)]=if crs p q=true then .er ⟨"Crossed",[T2 p,T2 q]⟩ else .nx [A0,s1,.im (T2 q),.im (T2 p)]:=by
 unfold W5;have e:=Nm p q;have c:=qt p q;have nl:((T2 p).noL&&(T2 q).noL)=true:=by simp only [E9,Bool.and_self]
 have pl:pls [T2 p,T2 q]=true:=by simp only [pls,Cm,Bool.and_self]
 unfold crs;generalize T2 p=P at *;generalize T2 q=Q at *;walk_at "dz";rw [e];walk_at "dz";cases decide (p=q)
 . walk_at "dz";rw [c];walk_at "dz";cases decide ((p.1<q.1/\q.1<p.2/\p.2<q.2)\/(q.1<p.1/\p.1<q.2/\q.2<p.2))
   . walk_at "dz"
   . walk_at "dz";simp only [N3];walk_at "dz";rw [ξ ⟨rfl,nl,pl⟩]
 . walk_at "dz";simp only [N3];walk_at "dz";rw [ξ ⟨rfl,nl,pl⟩]
theorem Nl (A0 s1:Sl) (q:P2):∀(pre:List P2) (s3:Sl),(∃p,pre.find? (fun p=>crs p q)=some p/\j8 (.n 3) W5 (pre.map T2) [A0,s1,.im (T2 q),s3]=.er ⟨"Crossed",[T2 p,T2 q]⟩)\/(pre.find? (fun p=>crs p q)=none/\∃s3',j8 (.n 3) W5 (pre.map T2) [A0,s1,.im (T2 q),s3]=.nx [A0,s1,.im (T2 q),s3'])
 | [],s3=>.inr ⟨rfl,s3,rfl⟩
 | p::r,s3=>by
  rw [List.map_cons,T7];simp only [List.set_cons_succ,List.set_cons_zero];rw [y17,List.find?_cons];cases h:crs p q
  . simp only [Bool.false_eq_true,if_false,K5];exact Nl A0 s1 q r _
  . exact .inl ⟨p,rfl,rfl⟩
theorem Nk (ls:List P2):∀(pre r:List P2) (s1 s2 s3:Sl),pre++r=ls->ls.length<=1000 ->
  (∃p q,fc pre r=some (p,q)/\j8 (.t [1,2]) Bx ((List.range' pre.length r.length).map fun (i:Nat)=>D.tup [.int (i:Int),T2 (ls.getD i (0,0))]) [.im (.lst (ls.map T2)),s1,s2,s3]=.er ⟨"Crossed",[T2 p,T2 q]⟩) \/
  (fc pre r=none/\∃s1' s2' s3',j8 (.t [1,2]) Bx ((List.range' pre.length r.length).map fun (i:Nat)=>D.tup [.int (i:Int),T2 (ls.getD i (0,0))]) [.im (.lst (ls.map T2)),s1,s2,s3]=.nx [.im (.lst (ls.map T2)),s1',s2',s3'])
 | pre,[],s1,s2,s3,_,_=>.inr ⟨rfl,s1,s2,s3,rfl⟩
 | pre,q::r,s1,s2,s3,e,hl=>by
  have hq:ls.getD pre.length (0,0)=q:=by rw [<-e];simp
  have hp:pre.length<=(ls.map T2).length:=by rw [<-e];simp
  have ht:(ls.map T2).take pre.length=pre.map T2:=by rw [<-e,List.map_append,List.take_left' (by simp)]
  have ih:=Nk ls (pre++[q]) r;rw [θ,List.length_singleton] at ih;rw [List.length_cons,List.range'_succ,List.map_cons,Rq,hq];simp only [List.set_cons_succ,List.set_cons_zero];have b:Bx [.im (.lst (ls.map T2)),.im (.int (pre.length:Int)),.im (T2 q),s3]=j8 (.n 3) W5 (pre.map T2) [.im (.lst (ls.map T2)),.im (.int (pre.length:Int)),.im (T2 q),s3]:=by unfold Bx;generalize hX:ls.map T2=X at *;walk_at "dz";rw [show dSl (.lst X) none (some (pre.length:Int))=some (.lst (X.take pre.length)) by rw [<-Ta X pre.length hp];rfl,ht];generalize T2 q=Q;generalize hY:pre.map T2=Y;walk_at "dz"
  rw [b];unfold fc;rcases Nl (.im (.lst (ls.map T2))) (.im (.int (pre.length:Int))) q pre s3 with ⟨p,h1,h2⟩ | ⟨h1,s3',h2⟩
  . rw [h1,h2];exact .inl ⟨p,q,rfl,rfl⟩
  . rw [h1,h2,K5];exact ih _ _ _ (by rw [<-e];simp) hl
theorem y18 (ls:List P2) (hl:ls.length<=1000):Bw [.lst (ls.map T2)]=match fc [] ls with | some (p,q)=>.er ⟨"Crossed",[T2 p,T2 q]⟩ | none=>.ok .non:=by
 unfold Bw Xk;have u:=Nk ls [] ls .em .em .em rfl hl;rw [List.length_nil,<-List.range_eq_range'] at u;have en:=Hh T2 (0,0) ls;rw [<-en] at u;generalize ls.map T2=X at *;walk_at "dz";simp only [iEn];walk_at "dz";rcases u with ⟨p,q,h1,h2⟩ | ⟨h1,s1,s2,s3,h2⟩
 . rw [h1,h2];walk_at "dz"
 . rw [h1,h2];walk_at "dz"
def C9 (n:Int):List D->Option (List P2)
 | []=>some []
 | t::r=>match lnD n t with
  | none=>none
  | some p=>(C9 n r).map (p::·)
theorem Sz (n:Int):∀ts:List D,ts.all Th=true->P1 b1 u7 Bh [some (.int n)] ts=match C9 n ts with | some ls=>.ok (ls.map T2) | none=>.er ⟨"NoLine",[]⟩
 | [],_=>rfl
 | t::r,h=>by
  simp only [List.all_cons,Bool.and_eq_true] at h;have ih:=Sz n r h.2;have e:Bh [some t,some (.int n)]=V5 [.int n,t]:=by unfold Bh;walk_at "dz"
  have l:=wm (n:=n) h.1;show (R.of (b1 t)).bind _=_;simp only [b1,R.of_some,R.bind_ok,u7,Df,if_true,List.map_cons,List.map_nil,List.cons_append,List.nil_append];rw [e,l,ih];simp only [C9];cases lnD n t with
  | none=>rfl
  | some p=>
   simp only [R.bind_ok]
   cases C9 n r with
   | none=>rfl
   | some ls=>rfl
theorem wl (n:Int) (ts:List D) (h:ts.all Th=true):C0 b1 u7 Em [some (.int n)] ts=.ok (ts.map fun t=>D.bl (lnD n t).isSome):=by have:=Ax (bn:=b1) (f:=Em) (cs:=[some (.int n)]) (en:=fun t:D=>t) (bs:=fun t=>[t]) (g:=fun t=>D.bl (lnD n t).isSome) ts (fun t _=>rfl) (fun t ht=>by unfold Em;walk_at "dz";exact Uj (List.all_eq_true.mp h t ht));rwa [List.map_id'] at this
theorem Rc (n:Int):∀ts:List D,(ts.all fun t=>(lnD n t).isSome)=(C9 n ts).isSome
 | []=>rfl
 | t::r=>by rw [List.all_cons,Rc n r];simp only [C9];cases lnD n t<;>cases C9 n r<;>rfl
theorem Sy:∀{ts:List D} {ls:List P2},C9 n ts=some ls->ls.length=ts.length/\∀p∈ls,t8 n p=true
 | [],ls,h=>by cases h;exact ⟨rfl,fun p hp=>(by cases hp)⟩
 | t::r,ls,h=>by
  simp only [C9] at h;cases e:lnD n t with
  | none=>rw [e] at h;cases h
  | some p=>
   rw [e] at h
   obtain ⟨l,hl,rfl⟩:=Option.map_eq_some_iff.mp h
   obtain ⟨h1,h2⟩:=Sy hl
   refine ⟨by simp [h1],fun q hq=>?_⟩
   rcases List.mem_cons.mp hq with rfl | hq
   . unfold lnD at e;split at e
     . split at e
       . rename_i z;cases e;exact z
       . cases e
     . cases e
   . exact h2 q hq
theorem Sx:∀{ts:List D} {ls:List P2},C9 n ts=some ls->C0 b1 u7 El [] ts=.ok (ls.map T2)
 | [],ls,h=>by cases h;rfl
 | t::r,ls,h=>by
  simp only [C9] at h;cases e:lnD n t with
  | none=>rw [e] at h;cases h
  | some p=>
   rw [e] at h
   obtain ⟨l,hl,rfl⟩:=Option.map_eq_some_iff.mp h
   have ih:=Sx hl
   rw [xX,ih]
   have:El [some t]=.ok (T2 p):=by
    unfold lnD at e;split at e
    . rename_i a b;split at e
      . cases e;unfold El;walk_at "dz";have mn:R8 [.tup [.int a,.int b]]=some (.int (p8 a [b])):=rfl;have mx:O6 [.tup [.int a,.int b]]=some (.int (o6 a [b])):=rfl;rw [mn,mx];walk_at "dz";have e1:p8 a [b]=if b<a then b else a:=rfl
        have e2:o6 a [b]=if b > a then b else a:=rfl
        rw [e1,e2];by_cases hab:a<b
        . rw [Fx hab,ψ (by omega),ξ hab];rfl
        . by_cases h2:b<a
          . rw [Ci hab,ξ h2,ψ (by omega)];rfl
          . rw [Ci hab,ψ h2,ψ (by omega),show a=b by omega];rfl
      . cases e
    . cases e
   rw [this]
   rfl
theorem wj (p q:P2):crs p q=crs q p:=by
 unfold crs;rw [Bool.eq_iff_iff];simp only [Bool.or_eq_true,decide_eq_true_eq];constructor
 . rintro (h | h | h)
   . exact .inl h.symm
   . exact .inr (.inr h)
   . exact .inr (.inl h)
 . rintro (h | h | h)
   . exact .inl h.symm
   . exact .inr (.inr h)
   . exact .inr (.inl h)
theorem Rb:∀{pre r:List P2},fc pre r=none->(∀p∈pre,∀q∈r,crs p q=false)/\r.Pairwise fun p q=>crs p q=false
 | pre,[],_=>⟨fun p _ q hq=>(by cases hq),.nil⟩
 | pre,q::r,h=>by
  unfold fc at h;split at h
  . cases h
  . rename_i hf;rw [List.find?_eq_none] at hf;obtain ⟨h1,h2⟩:=Rb h;refine ⟨fun p hp y hy=>?_,List.pairwise_cons.mpr ⟨fun y hy=>h1 q (by simp) y hy,h2⟩⟩;rcases List.mem_cons.mp hy with rfl | hy
    . simpa using hf p hp
    . exact h1 p (by simp [hp]) y hy
theorem ji (h3:3<=n) (hl:∀p∈ls,t8 n p=true) (hf:fc [] ls=none):Lns n ls:=by
 have pw:=(Rb hf).2;have lin:∀a b,(a,b)∈ls->0<=a/\a+2<=b/\b<=n - 1/\¬(a=0/\b=n - 1):=fun a b h=>by have:=ln_iff.mp (hl _ h);omega
 have nc:∀p∈ls,∀q∈ls,p≠q->crs p q=false:=by
  intro p hp q hq hne;obtain ⟨i,hi,rfl⟩:=List.mem_iff_getElem.mp hp;obtain ⟨j,hj,rfl⟩:=List.mem_iff_getElem.mp hq;rcases Nat.lt_trichotomy i j with z | z | z
  . exact List.pairwise_iff_getElem.mp pw i j hi hj z
  . subst z;exact absurd rfl hne
  . rw [wj];exact List.pairwise_iff_getElem.mp pw j i hj hi z
 refine ⟨h3,lin,fun a b c d h1 h2=>?_,?_⟩
 . by_cases e:(a,b)=(c,d)
   . cases e;omega
   . have:=nc _ h1 _ h2 e;unfold crs at this;simp only [Bool.or_eq_false_iff,decide_eq_false_iff_not] at this;exact fun z=>this.2 (.inl z)
 . refine pw.imp fun {p q} h e=>?_
   subst e;unfold crs at h;simp at h
theorem qq (l:List Int):j4 [TuI l]=some (.int (l.length:Int)):=by unfold TuI;rw [wa,List.length_map]
theorem Ra (l:List Int):(TuI l).noL=true:=by simp only [TuI,D.noL];exact F5 _ _ fun x _=>Uh x
theorem jh (I:Lns n ls) (hn:n<=60) (hl:(ls.length:Int)+3<n):∃w:P2,Bi [.int n,.lst (ls.map T2)]=.ok (T2 w)/\t8 n w=true/\∀p∈ls,crs p w=false:=by
 obtain ⟨C,E,hC⟩:=wt I hn;have hR:∀t,v6 n ls t->Rm n ls t (C t):=fun t ht=>Rm.of I ht (Np I t) (hC t ht).1
 have er:=wo (by omega) hC;obtain ⟨t0,ht0,hw0⟩:=qE I hR hl;obtain ⟨tops,htp⟩:∃tops,tops=soT C ((0,n - 1)::ls):=⟨_,rfl⟩;have mt:∀t,t∈tops↔v6 n ls t:=fun t=>by rw [htp,(Te C _).mem_iff,List.mem_cons];rfl
 have hlen:tops.length<=58:=by rw [htp,(Te C _).length_eq,List.length_cons];omega
 rw [<-htp] at er;have flt:=Uw (bn:=b1) (t:=Mr) (f:=Mq) (cs:=[]) (en:=fun t:P2=>TuI (C t)) (bs:=fun t=>[TuI (C t)]) (p:=fun t=>decide (3<(C t).length)) (g:=fun t=>TuI (C t)) tops (fun t _=>rfl) (fun t _=>by
  unfold Mr;generalize hX:C t=l;have:=qq l;generalize TuI l=X at *;walk_at "dz";rw [this];walk_at "dz";congr 1;rw [decide_eq_decide];omega) (fun t _ _=>by
  unfold Mq;generalize TuI (C t)=X;walk_at "dz")
 cases hF:tops.filter (fun t=>decide (3<(C t).length)) with
 | nil=>
  have:t0∈tops.filter (fun t=>decide (3<(C t).length)):=List.mem_filter.mpr ⟨(mt t0).mpr ht0,by simpa using hw0⟩
  rw [hF] at this;cases this
 | cons t rest=>
  have hm:t∈tops.filter (fun t=>decide (3<(C t).length)):=by rw [hF];simp
  obtain ⟨h1,h2⟩:=List.mem_filter.mp hm
  have tp:=(mt t).mp h1
  have h2:3<(C t).length:=by simpa using h2
  obtain ⟨r0,r1,r2,r3,q,eD⟩:∃r0 r1 r2 r3 q,C t=r0::r1::r2::r3::q:=by
   match C t,h2 with
   | a::b::c::d::q,_=>exact ⟨a,b,c,d,q,rfl⟩
  have fo:=qC I (hR t tp) eD (by simp)
  refine ⟨(r0,r2),?_,ln_iff.mpr (by omega),fun p hp=>?_⟩
  . rw [hF,List.map_cons] at flt;have k1:dIx (TuI (C t)) (.int 0)=some (.int r0):=by rw [eD];exact P5 _ _
    have k2:dIx (TuI (C t)) (.int 2)=some (.int r2):=by rw [eD];exact wb _ _ _ _
    have n1:=Ra (C t);have n2:g9 (rest.map fun t=>TuI (C t))=true:=F5 _ _ fun x _=>Ra _
    generalize TuI (C t)=W at *;generalize (rest.map fun t=>TuI (C t))=RR at *;have hL:((tops.map fun t=>TuI (C t))).length<=100000:=by rw [List.length_map];omega
    generalize hX:(tops.map fun t=>TuI (C t))=XX at *;unfold Bi We;walk_at "dz";rw [er];walk_at "dz";rw [ξ hL,flt];walk_at "dz";rw [n1,n2];walk_at "dz";rw [k1,k2];walk_at "dz";rfl
  . have:=fo.2.2.2.2 p.1 p.2 hp;unfold crs;simp only [Bool.or_eq_false_iff,decide_eq_false_iff_not];refine ⟨fun e=>this.1 (by rw [e];exact ⟨rfl,rfl⟩),fun z=>?_⟩;rcases z with z | z
    . exact this.2.1 z
    . exact this.2.2 z
def cD (n:Int) (ls:List P2):D:=.tup [.int n,.tup (ls.map T2)]
theorem y19 (A0 A1 A2 s3:Sl) {p q:P2} (hp:p.1<p.2) (hq:q.1<q.2):W2 [A0,A1,A2,s3,.im (T2 q),.im (T2 p)]=if crs p q=true then .rt (.tup [.str "crossed",T2 p,T2 q]) else .nx [A0,A1,A2,s3,.im (T2 q),.im (T2 p)]:=by unfold W2;have e:=Pi hp hq;generalize T2 p=P at *;generalize T2 q=Q at *;walk_at "dz";rw [e];walk_at "dz"
theorem Nj (A0 A1 A2 s3:Sl) {q:P2} (hq:q.1<q.2):∀(pre:List P2) (s5:Sl),(∀p∈pre,p.1<p.2)->(∃p,pre.find? (fun p=>crs p q)=some p/\j8 (.n 5) W2 (pre.map T2) [A0,A1,A2,s3,.im (T2 q),s5]=.rt (.tup [.str "crossed",T2 p,T2 q]))\/(pre.find? (fun p=>crs p q)=none/\∃s5',j8 (.n 5) W2 (pre.map T2) [A0,A1,A2,s3,.im (T2 q),s5]=.nx [A0,A1,A2,s3,.im (T2 q),s5'])
 | [],s5,_=>.inr ⟨rfl,s5,rfl⟩
 | p::r,s5,h=>by
  rw [List.map_cons,T7];simp only [List.set_cons_succ,List.set_cons_zero];rw [y19 A0 A1 A2 s3 (h p (by simp)) hq,List.find?_cons];cases e:crs p q
  . simp only [Bool.false_eq_true,if_false,K5];exact Nj A0 A1 A2 s3 hq r _ fun x hx=>h x (List.mem_cons_of_mem _ hx)
  . exact .inl ⟨p,rfl,rfl⟩
theorem Ni (a0 a1:D) (ls:List P2) (hlt:∀p∈ls,p.1<p.2):∀(pre r:List P2) (s3 s4 s5:Sl),pre++r=ls->ls.length<=1000 ->
  (∃p q,fc pre r=some (p,q)/\p∈ls/\q∈ls/\j8 (.t [3,4]) Bl ((List.range' pre.length r.length).map fun (i:Nat)=>D.tup [.int (i:Int),T2 (ls.getD i (0,0))]) [.im a0,.im a1,.im (.lst (ls.map T2)),s3,s4,s5]=.rt (.tup [.str "crossed",T2 p,T2 q])) \/
  (fc pre r=none/\∃s3' s4' s5',j8 (.t [3,4]) Bl ((List.range' pre.length r.length).map fun (i:Nat)=>D.tup [.int (i:Int),T2 (ls.getD i (0,0))]) [.im a0,.im a1,.im (.lst (ls.map T2)),s3,s4,s5]=.nx [.im a0,.im a1,.im (.lst (ls.map T2)),s3',s4',s5'])
 | pre,[],s3,s4,s5,_,_=>.inr ⟨rfl,s3,s4,s5,rfl⟩
 | pre,q::r,s3,s4,s5,e,hl=>by
  have hq:ls.getD pre.length (0,0)=q:=by rw [<-e];simp
  have hp:pre.length<=(ls.map T2).length:=by rw [<-e];simp
  have ht:(ls.map T2).take pre.length=pre.map T2:=by rw [<-e,List.map_append,List.take_left' (by simp)]
  have hqm:q∈ls:=by rw [<-e];simp
  have hpm:∀p∈pre,p∈ls:=fun p hp=>by rw [<-e];simp [hp]
  have ih:=Ni a0 a1 ls hlt (pre++[q]) r;rw [θ,List.length_singleton] at ih;rw [List.length_cons,List.range'_succ,List.map_cons,Rq,hq];simp only [List.set_cons_succ,List.set_cons_zero];have b:Bl [.im a0,.im a1,.im (.lst (ls.map T2)),.im (.int (pre.length:Int)),.im (T2 q),s5]=j8 (.n 5) W2 (pre.map T2) [.im a0,.im a1,.im (.lst (ls.map T2)),.im (.int (pre.length:Int)),.im (T2 q),s5]:=by unfold Bl;generalize hX:ls.map T2=X at *;walk_at "dz";rw [show dSl (.lst X) none (some (pre.length:Int))=some (.lst (X.take pre.length)) by rw [<-Ta X pre.length hp];rfl,ht];generalize T2 q=Q;generalize hY:pre.map T2=Y;walk_at "dz"
  rw [b];unfold fc;rcases Nj (.im a0) (.im a1) (.im (.lst (ls.map T2))) (.im (.int (pre.length:Int))) (hlt q hqm) pre s5 (fun p hp=>hlt p (hpm p hp)) with ⟨p,h1,h2⟩ | ⟨h1,s5',h2⟩
  . rw [h1,h2];exact .inl ⟨p,q,rfl,hpm p (List.mem_of_find?_eq_some h1),hqm,rfl⟩
  . rw [h1,h2,K5];exact ih _ _ _ (by rw [<-e];simp) hl
inductive Oc (n:Int):D->R D->Prop
 | floor:Oc n (.tup [.str "floor"]) (.er ⟨"NoFloor",[]⟩)
 | line:Oc n (.tup [.str "line"]) (.er ⟨"NoLine",[]⟩)
 | crossed (p q:P2) (hp:p.1<p.2) (hq:q.1<q.2):Oc n (.tup [.str "crossed",T2 p,T2 q]) (.er ⟨"Crossed",[T2 p,T2 q]⟩)
 | full (ls:List P2) (w:P2) (hl:ls.length<=60) (hw:t8 n w=true) (h:∀p∈ls,crs p w=false) (hp:∀p∈ls,p.1<p.2):Oc n (.tup [.str "full",.lst (ls.map T2)]) (.er ⟨"NotFull",[T2 w]⟩)
 | made (ls:List P2) (hl:ls.length<=60) (hp:∀p∈ls,p.1<p.2):Oc n (.tup [.str "made",cD n ls]) (.ok (cD n ls))
theorem jg (h:3<=n) (h2:n<=60):P7 [.int n]=.ok .non:=by unfold P7 Mu Ay Lq N5 Lr;walk_at "dz";rw [decide_eq_true h];walk_at "dz";rw [decide_eq_true h2];walk_at "dz"
theorem Qz (h:t8 n p=true):p.1<p.2:=by have:=ln_iff.mp (show t8 n (p.1,p.2)=true from h);omega
theorem y3n (h3:3<=n) (h60:n<=60) (ht:ts.all Th=true) (hl:ts.length<=60):∃d r,C8 [.int n,.lst ts]=.ok d/\t7 [.int n,.lst ts]=r/\Oc n d r:=by
 have fl:=jg h3 h60;have nu:=K6 (x:=.int n) rfl;have cc:=Sz n ts ht;have ac:=wl n ts ht;have la:=Rc n ts;have al:=all_map ts (fun t=>(lnD n t).isSome);cases hL:C9 n ts with
 | none=>
  rw [hL] at cc la
  replace la:(ts.all fun t=>(lnD n t).isSome)=false:=la
  refine ⟨_,_,?_,?_,.line⟩
  . unfold C8 V8;walk_at "dz";rw [nu];simp only [p7];walk_at "dz";rw [decide_eq_false (show ¬n<3 by omega),decide_eq_false (show ¬60<n by omega)];walk_at "dz";rw [ξ (by omega),ac];walk_at "dz";rw [al,la];walk_at "dz"
  . unfold t7 V4;walk_at "dz";rw [fl];walk_at "dz";simp only [M7];walk_at "dz";rw [ξ (by omega),cc];walk_at "dz"
 | some ls=>
  rw [hL] at cc la
  replace la:(ts.all fun t=>(lnD n t).isSome)=true:=la
  replace cc:P1 b1 u7 Bh [some (.int n)] ts=.ok (ls.map T2):=cc
  obtain ⟨l1,l2⟩:=Sy hL
  have hlt:∀p∈ls,p.1<p.2:=fun p hp=>Qz (l2 p hp)
  have mc:=Sx hL
  have u:=y18 ls (by omega)
  have du:=Ni (.int n) (.lst ts) ls hlt [] ls .em .em .em rfl (by omega)
  rw [List.length_nil,<-List.range_eq_range'] at du
  have en:=Hh T2 (0,0) ls
  rw [<-en] at du
  have so:=sorted_T2 ls (by omega)
  have nX:g9 (ls.map T2)=true:=F5 _ _ fun x _=>E9 x
  have lenX:(ls.map T2).length=ls.length:=List.length_map ..
  cases hf:fc [] ls with
  | some pq=>
   obtain ⟨p,q⟩:=pq
   rw [hf] at u
   rcases du with ⟨p',q',h1,hp,hq,h2⟩ | ⟨h1,_⟩
   . rw [hf] at h1;cases h1;refine ⟨_,_,?_,?_,.crossed p q (hlt p hp) (hlt q hq)⟩
     . generalize ls.map T2=X at *;unfold C8 V8;walk_at "dz";rw [nu];simp only [p7];walk_at "dz";rw [decide_eq_false (show ¬n<3 by omega),decide_eq_false (show ¬60<n by omega)];walk_at "dz";rw [ξ (by omega),ac];walk_at "dz";rw [al,la];walk_at "dz";rw [ξ (by omega),mc];walk_at "dz";rw [nX];walk_at "dz";simp only [iEn];walk_at "dz";rw [h2];walk_at "dz"
     . generalize ls.map T2=X at *;unfold t7 V4;walk_at "dz";rw [fl];walk_at "dz";simp only [M7];walk_at "dz";rw [ξ (by omega),cc];walk_at "dz";rw [nX];walk_at "dz";rw [u];walk_at "dz"
   . rw [hf] at h1;cases h1
  | none=>
   rw [hf] at u
   rcases du with ⟨p',q',h1,_,_,_⟩ | ⟨_,s3,s4,s5,h2⟩
   . rw [hf] at h1;cases h1
   . by_cases hn:(ls.length:Int)+3<n
     . obtain ⟨w,f1,f2,f3⟩:=jh (ji h3 l2 hf) h60 hn;refine ⟨_,_,?_,?_,.full ls w (by omega) f2 f3 hlt⟩
       . have dl:j4 [.lst (ls.map T2)]=some (.int (ls.length:Int)):=by rw [Rs,lenX]
         generalize ls.map T2=X at *;unfold C8 V8;walk_at "dz";rw [nu];simp only [p7];walk_at "dz";rw [decide_eq_false (show ¬n<3 by omega),decide_eq_false (show ¬60<n by omega)];walk_at "dz";rw [ξ (by omega),ac];walk_at "dz";rw [al,la];walk_at "dz";rw [ξ (by omega),mc];walk_at "dz";rw [nX];walk_at "dz";simp only [iEn];walk_at "dz";rw [h2];walk_at "dz";rw [lenX,decide_eq_true (show (ls.length:Int)<n - 3 by omega)];walk_at "dz"
       . have nl:=E9 w;have pl:pls [T2 w]=true:=by simp only [pls,Cm,Bool.and_self]
         generalize T2 w=W at *;generalize ls.map T2=X at *;unfold t7 V4;walk_at "dz";rw [fl];walk_at "dz";simp only [M7];walk_at "dz";rw [ξ (by omega),cc];walk_at "dz";rw [nX];walk_at "dz";rw [u];walk_at "dz";rw [lenX,decide_eq_true (show (ls.length:Int)<n - 3 by omega)];walk_at "dz";simp only [N3];walk_at "dz";rw [f1];walk_at "dz";rw [ξ ⟨rfl,nl,pl⟩]
     . refine ⟨_,_,?_,?_,.made (so2 ls) (by rw [(Ki ls).length_eq];omega) (fun p hp=>hlt p ((Ki ls).mem_iff.mp hp))⟩
       . generalize ls.map T2=X at *;unfold C8 V8;walk_at "dz";rw [nu];simp only [p7];walk_at "dz";rw [decide_eq_false (show ¬n<3 by omega),decide_eq_false (show ¬60<n by omega)];walk_at "dz";rw [ξ (by omega),ac];walk_at "dz";rw [al,la];walk_at "dz";rw [ξ (by omega),mc];walk_at "dz";rw [nX];walk_at "dz";simp only [iEn];walk_at "dz";rw [h2];walk_at "dz";rw [lenX,decide_eq_false (show ¬(ls.length:Int)<n - 3 by omega)];walk_at "dz";rw [so];walk_at "dz";rfl
       . generalize ls.map T2=X at *;unfold t7 V4;walk_at "dz";rw [fl];walk_at "dz";simp only [M7];walk_at "dz";rw [ξ (by omega),cc];walk_at "dz";rw [nX];walk_at "dz";rw [u];walk_at "dz";rw [lenX,decide_eq_false (show ¬(ls.length:Int)<n - 3 by omega)];walk_at "dz";rw [so];walk_at "dz";rfl
def Fl:D->Bool
 | .int n=>decide (n<3\/60<n)
 | .bl _=>true
 | .non=>true
 | .str _=>true
 | .lst [.int _]=>true
 | .tup [.int _]=>true
 | _=>false
theorem y1a (h:Fl x=true) (ts:List D):C8 [x,.lst ts]=.ok (.tup [.str "floor"])/\P7 [x]=.er ⟨"NoFloor",[]⟩:=by
 by_cases hx:∃n,x=.int n
 . obtain ⟨n,rfl⟩:=hx;have h:n<3\/60<n:=of_decide_eq_true h;have nu:=K6 (x:=.int n) rfl;have wh:=Jh (x:=.int n) rfl;constructor
   . unfold C8 V8;walk_at "dz";rw [nu];simp only [p7];walk_at "dz";by_cases z:n<3
     . rw [decide_eq_true z];walk_at "dz"
     . rw [decide_eq_false z,decide_eq_true (show 60<n by omega)];walk_at "dz"
   . unfold P7 Mu Ay Lq;walk_at "dz";rw [wh];simp only [p7];walk_at "dz";by_cases z:n<3
     . rw [decide_eq_false (show ¬3<=n by omega)];walk_at "dz";rfl
     . rw [decide_eq_true (show 3<=n by omega)];walk_at "dz";rw [decide_eq_false (show ¬n<=60 by omega)];walk_at "dz";rfl
 . unfold Fl at h;split at h
   . exact absurd ⟨_,rfl⟩ hx
   . exact ⟨rfl,rfl⟩
   . exact ⟨rfl,rfl⟩
   . exact ⟨rfl,rfl⟩
   . exact ⟨rfl,rfl⟩
   . exact ⟨rfl,rfl⟩
   . cases h
theorem y3o (n:Int) (h:Fl x=true) (ts:List D):∃d r,C8 [x,.lst ts]=.ok d/\t7 [x,.lst ts]=r/\Oc n d r:=by obtain ⟨h1,h2⟩:=y1a h ts;refine ⟨_,_,h1,?_,.floor⟩;unfold t7 V4;walk_at "dz";rw [h2];walk_at "dz"
theorem y1b (k:(R.er e:R D).kn knX=.er e) (hr:t7 [x,.lst ts]=.er e):b9 false 3 [true,true] (D3 knX t7 (a6 (a5 0) (a6 (a5 1) a8))) [.im x,.im (.lst ts),.im (.tup [.str "none"]),.em,.em]=.er e:=by walk_at "dz";simp only [D3];walk_at "dz";rw [hr,k];rfl
theorem y1c (k:(R.er e:R D).kn knX=.er e) (hr:t7 [x,.lst ts]=.er e):J8 (D3 knX t7 (a6 (a5 0) (a6 (a5 1) a8))) [.im x,.im (.lst ts),.ow (.lst []),.em]=.er e:=by walk_at "dz";simp only [D3];walk_at "dz";rw [hr,k];rfl
theorem y1d (x y:D):b9 false 2 [] (e9 (a6 (eC (.str "none")) a8)) [.im x,.im y,.em,.em,.em]=.nx [.im x,.im y,.im (.tup [.str "none"]),.em,.em]:=by walk_at "dz"
theorem y1e (x y:D):b9 true 2 [] (k7 a8) [.im x,.im y,.em,.em]=.nx [.im x,.im y,.ow (.lst []),.em]:=by walk_at "dz"
theorem Cs (k:(R.er e:R D).kn knX=.er e) (hr:t7 [x,.lst ts]=.er e):N8 [x,.lst ts]=SR.out false (((hAs Bc 4 (b9 false 2 [false,false,false,false,true] (e9 (a6 (eC (.str "crossed")) (a6 (eUn (G8 "one") (a5 4)) (a6 (eUn (G8 "other") (a5 4)) a8))))) (hAs Be 4 (b9 false 2 [false,false,false,false,true] (e9 (a6 (eC (.str "full")) (a6 (eUn (G8 "line") (a5 4)) a8)))) (hNo Av (b9 false 2 [] (e9 (a6 (eC (.str "line")) a8))) (hNo Bf (b9 false 2 [] (e9 (a6 (eC (.str "floor")) a8))) W6)))) e [.im x,.im (.lst ts),.im (.tup [.str "none"]),.em,.em]).thn (e7 [false,false,true] (a5 2))):=by unfold N8;rw [Pf,ξ (show [x,D.lst ts].length=2 from rfl)];show SR.out false (En [.im x,.im (.lst ts),.em,.em,.em])=_;unfold En;rw [k8 (y1d x _),Je];unfold Y5;rw [y1b k hr]
theorem Cr (k:(R.er e:R D).kn knX=.er e) (hr:t7 [x,.lst ts]=.er e):N7 [x,.lst ts]=SR.out true (((hAs Bs 3 (b7 (b9 true 2 [false,false,false,true] (k7 (a6 (eUn (C3 Br) (a5 3)) (a6 (eUn (C3 Bb) (a5 3)) (a6 (eUn (C3 Au) (a5 3)) a8)))))
  (b9 true 2 [false,false,true,true] (eOp E3 (a5 2) (k7 (a6 (eUn (C3 Az) (a5 3)) (a6 (eUn (C3 Ba) (a5 3)) a8)))))) W6) e [.im x,.im (.lst ts),.ow (.lst []),.em]).thn (O9 2)):=by
 unfold N7
 rw [Pf,ξ (show [x,D.lst ts].length=2 from rfl)]
 show SR.out true (Ek [.im x,.im (.lst ts),.em,.em])=_
 unfold Ek
 rw [k8 (y1e x _),Je]
 unfold W7
 rw [y1c k hr]
def b5 (a b c d e:Bool):D:=.lst [.bl a,.bl b,.bl c,.bl d,.bl e]
inductive Kd:D->D->Prop
 | floor (r:List D):Kd (.tup (.str "floor"::r)) (b5 true true false false false)
 | line (r:List D):Kd (.tup (.str "line"::r)) (b5 true false true false false)
 | crossed (r:List D):Kd (.tup (.str "crossed"::r)) (b5 true false false true false)
 | full (r:List D):Kd (.tup (.str "full"::r)) (b5 true false false false true)
 | made (r:List D):Kd (.tup (.str "made"::r)) (.lst [])
theorem y3p:dNe (.str "crossed") (.str "crossed")=some (.bl false):=rfl
theorem y3q:dEq (.str "crossed") (.str "crossed")=some (.bl true):=rfl
theorem y3r:dNe (.str "full") (.str "full")=some (.bl false):=rfl
theorem y3s:dEq (.str "full") (.str "full")=some (.bl true):=rfl
theorem y3t:dNe (.str "made") (.str "made")=some (.bl false):=rfl
theorem y3u:dEq (.str "made") (.str "made")=some (.bl true):=rfl
theorem y1f:dEq (.str "full") (.str "crossed")=some (.bl false):=rfl
theorem y1g:dEq (.str "made") (.str "crossed")=some (.bl false):=rfl
theorem y1h:dEq (.str "made") (.str "full")=some (.bl false):=rfl
theorem Cg (h:p.1<p.2):N9 [T2 p]=.ok (.bl true):=by have n1:=K6 (x:=.int p.1) rfl;have n2:=K6 (x:=.int p.2) rfl;unfold N9 Xb T2;walk_at "dz";rw [n1];simp only [p7];walk_at "dz";rw [n2];simp only [p7];walk_at "dz";rw [decide_eq_true h];rfl
theorem y1i {p q:P2} (n:Int) (hp:p.1<p.2) (hq:q.1<q.2):F6 [.tup [.str "crossed",T2 p,T2 q],.tup [.str "crossed",T2 p,T2 q],.int n]=.ok (.bl true):=by have ip:=Cg hp;have iq:=Cg hq;have e:dEq (.tup [.str "crossed",T2 p,T2 q]) (.tup [.str "crossed",T2 p,T2 q])=some (.bl true):=Kh (by simp [D.pl,pls,Cm]) (by have:=Z5 p;have:=Z5 q;simp only [D.dep,i9];omega);generalize T2 p=P at *;generalize T2 q=Q at *;unfold F6 Ej;walk_at "dz";rw [y3p];walk_at "dz";rw [y3q];walk_at "dz";rw [ip];walk_at "dz";rw [iq];walk_at "dz";rw [e];rfl
theorem y1j {n:Int} {ls:List P2} {w:P2} (hl:ls.length<=60) (hw:t8 n w=true) (h:∀p∈ls,crs p w=false) (hp:∀p∈ls,p.1<p.2):F6 [.tup [.str "full",T2 w],.tup [.str "full",.lst (ls.map T2)],.int n]=.ok (.bl true):=by
 have lw:=Qz hw;have ip:=Cg lw;have il:P9 [.int n,T2 w]=.ok (.bl true):=by have:=Uj (n:=n) (t:=T2 w) rfl;rw [this];simp only [T2,lnD];rw [Fx lw,ξ hw];rfl
 have cm:=Ax (bn:=b1) (f:=Mt) (cs:=[some (T2 w)]) (en:=T2) (bs:=fun t=>[T2 t]) (g:=fun _=>D.bl false) ls (fun t _=>rfl) (fun t ht=>by unfold Mt;have e:=Pi (hp t ht) lw;rw [h t ht] at e;generalize T2 t=P at *;generalize T2 w=W at *;walk_at "dz";exact e);have kW:keeps false (T2 w)=true:=E9 w;have an:=any_map ls (fun _=>false);have lenX:(ls.map T2).length=ls.length:=List.length_map ..;generalize T2 w=W at *;generalize ls.map T2=X at *;unfold F6 Ej;walk_at "dz";rw [y3r];walk_at "dz";rw [y1f];walk_at "dz";rw [y3s];walk_at "dz";rw [kW];walk_at "dz";rw [ip];walk_at "dz";rw [il];walk_at "dz";rw [ξ (by omega),cm];walk_at "dz";rw [an];walk_at "dz";simp
theorem y1k (hl:ls.length<=60) (hp:∀p∈ls,p.1<p.2):F6 [.tup [.str "made",cD n ls],.tup [.str "made",cD n ls],.int n]=.ok (.bl true):=by
 have e:dEq (.tup [.str "made",cD n ls]) (.tup [.str "made",cD n ls])=some (.bl true):=Kh (by simp [D.pl,pls,cD,jK ls T2 Cm]) (by have:=Jo ls T2 1 Z5;simp only [cD,D.dep,i9];omega);have cm:=Ax (bn:=b1) (f:=Ms) (cs:=[]) (en:=T2) (bs:=fun t=>[T2 t]) (g:=fun _=>D.bl true) ls (fun t _=>rfl) (fun t ht=>by unfold Ms;have e:=Cg (hp t ht);generalize T2 t=P at *;walk_at "dz";exact e);have al:=all_map ls (fun _=>true);have nX:g9 (ls.map T2)=true:=F5 _ _ fun x _=>E9 x
 have nu:=K6 (x:=.int n) rfl;have lenX:(ls.map T2).length=ls.length:=List.length_map ..;unfold cD at *;generalize ls.map T2=X at *;unfold F6 Ej;walk_at "dz";rw [y3t];walk_at "dz";rw [y1g];walk_at "dz";rw [y1h];walk_at "dz";rw [y3u];walk_at "dz";rw [nX];walk_at "dz";rw [nu];simp only [p7,show decide (((2:Nat):Int)=2)=true from rfl];walk_at "dz";rw [ξ (by omega),cm];walk_at "dz";rw [al,List.all_eq_true.mpr (fun _ _=>rfl)];walk_at "dz";rw [e];rfl
theorem y1l (hr:t7 [x,.lst ts]=r) (h:Oc n d r):∃a,N8 [x,.lst ts]=.ok a/\F6 [a,d,.int n]=.ok (.bl true)/\∃k,N7 [x,.lst ts]=.ok k/\Kd d k:=by
 cases h with
 | floor=>
  refine ⟨.tup [.str "floor"],?_,?_,?_⟩
  . rw [Cs rfl hr];rfl
  . rfl
  . exact ⟨_,by rw [Cr rfl hr];rfl,.floor _⟩
 | line=>
  refine ⟨.tup [.str "line"],?_,?_,?_⟩
  . rw [Cs rfl hr];rfl
  . rfl
  . exact ⟨_,by rw [Cr rfl hr];rfl,.line _⟩
 | crossed p q hp hq=>
  refine ⟨.tup [.str "crossed",T2 p,T2 q],?_,?_,?_⟩
  . rw [Cs rfl hr];rfl
  . exact y1i n hp hq
  . exact ⟨_,by rw [Cr rfl hr];rfl,.crossed _⟩
 | full ls w hl hw h hp=>
  refine ⟨.tup [.str "full",T2 w],?_,?_,?_⟩
  . rw [Cs rfl hr];rfl
  . exact y1j hl hw h hp
  . exact ⟨_,by rw [Cr rfl hr];rfl,.full _⟩
 | made ls hl hp=>
  refine ⟨.tup [.str "made",cD n ls],?_,y1k hl hp,.lst [],?_,.made _⟩
  . have nl:(cD n ls).noL=true:=by simp only [cD,D.noL,g9,F5 _ _ fun x _=>E9 x,Bool.and_self]
    generalize cD n ls=C at *;unfold N8 En;walk_at "dz";simp only [Y5];walk_at "dz";simp only [D3];walk_at "dz";rw [hr];simp only [R.kn];walk_at "dz";rw [show keeps false C=true from nl];walk_at "dz";rw [nl];walk_at "dz"
  . generalize cD n ls=C at *;unfold N7 Ek;walk_at "dz";simp only [W7];walk_at "dz";simp only [D3];walk_at "dz";rw [hr];simp only [R.kn];walk_at "dz"
theorem jf (ns:List Int):∃m:Nat,m<=57/\Bj [.scr ns]=.ok (.int (m:Int)):=by
 unfold Bj Wf;walk_at "dz";rw [jk _ _ (by omega)];walk_at "dz";generalize ns.getD (Int.toNat 0) 0=x;rw [j7 (by omega)];walk_at "dz";rw [Cn (by omega)];walk_at "dz";rw [j7 (by omega),j7 (by omega)];walk_at "dz";have a0:0<=x / 4 % 58:=Int.emod_nonneg _ (by decide);have a1:x / 4 % 58<58:=Int.emod_lt_of_pos _ (by decide);have b0:0<=x / 4 % 9:=Int.emod_nonneg _ (by decide);have b1:x / 4 % 9<9:=Int.emod_lt_of_pos _ (by decide);by_cases h1:x % 4=3
 . rw [decide_eq_true h1];exact ⟨(x / 4 % 58).toNat,by omega,by walk_at "dz";rw [show (((x / 4 % 58).toNat:Nat):Int)=x / 4 % 58 by omega]⟩
 . rw [decide_eq_false h1];by_cases h2:x % 4=2
   . rw [decide_eq_true h2];exact ⟨(x / 4 % 9).toNat,by omega,by walk_at "dz";rw [j7 (by omega)];walk_at "dz";rw [show (((x / 4 % 9).toNat:Nat):Int)=x / 4 % 9 by omega]⟩
   . rw [decide_eq_false h2];walk_at "dz";generalize hy:(if (ns.length:Int) - 13 > 0 then (ns.length:Int) - 13 else 0)=y;generalize hz:(if y<57 then y else 57)=z;have z0:0<=z/\z<=57:=by subst hz;subst hy;split<;>split<;>omega
     exact ⟨z.toNat,by omega,by rw [show ((z.toNat:Nat):Int)=z by omega]⟩
theorem qp (st:List Int) (n:Int) (ls:List P2) (num:Int) (s4:Sl) (hn:3<=n) (hl:ls.length<1000) :
  ∃c:Int,Es [.im (L st),.im (.int n),.ow (.lst (ls.map T2)),.im (.int num),s4] =
   .nx [.im (L st),.im (.int (n+1)),.ow (.lst ((ls.map (sh2 c)++[Ga n c]).map T2)),.im (.int num),.im (.int c)]:=by
 refine ⟨num % n,?_⟩
 unfold Es
 walk_at "dz"
 rw [j7 (by omega)]
 walk_at "dz"
 generalize num % n=c
 rw [ξ (by rw [List.length_map];omega),Ax (en:=T2) (bs:=fun q=>[D.int q.1,D.int q.2]) (g:=fun q=>T2 (sh2 c q)) ls (fun x _=>rfl) (fun q _=>by unfold Xe;walk_at "dz";rw [Xo,Xo];rfl)]
 simp only [R.bind_ok]
 rw [show ls.map (fun q=>T2 (sh2 c q))=(ls.map (sh2 c)).map T2 by rw [List.map_map];rfl]
 generalize hls:ls.map (sh2 c)=ls'
 have hl':ls'.length<1000:=by rw [<-hls,List.length_map];exact hl
 walk_at "dz"
 by_cases q:c=n - 1
 . rw [decide_eq_true q];walk_at "dz";rw [Px (by omega)];walk_at "dz";unfold Ga;rw [ξ q]
 . rw [decide_eq_false q];walk_at "dz";rw [Px (by omega)];walk_at "dz";unfold Ga;rw [ψ q]
theorem qo (st:List Int) (hs:st.length<=57):∃ls:List P2,ls.length=st.length /\
  Bq [L st]=.ok (.tup [.int ((st.length:Int)+3),.lst (ls.map T2)]):=by
 unfold Bq Wu
 walk_at "dz"
 obtain ⟨ρ',e,n,ls,s4,s5,hn,h3,hl,hr⟩:=wM (tg:=.n 3) (g:=Es) (en:=D.int)
  (fun r ρ=>∃(n:Int) (ls:List P2) (s4 s5:Sl),n+r.length=st.length+3/\3<=n/\(ls.length:Int)=n - 3/\ρ=[.im (L st),.im (.int n),.ow (.lst (ls.map T2)),s4,s5])
  st [.im (L st),.im (.int 3),.ow (.lst []),.em,.em] ⟨3,[],.em,.em,by omega,by omega,rfl,rfl⟩ (by rintro x r ρ ⟨n,ls,s4,s5,hn,h3,hl,rfl⟩;simp only [List.length_cons] at hn;obtain ⟨c,e⟩:=qp st n ls x s5 h3 (by omega);refine ⟨_,_,rfl,Or.inl e,⟨_,_,_,_,by omega,by omega,?_,rfl⟩⟩;rw [θ,List.length_map,List.length_singleton];omega)
 rw [e,hr]
 simp only [List.length_nil] at hn
 walk_at "dz"
 exact ⟨ls,by omega,by rw [show n=(st.length:Int)+3 by omega]⟩
theorem y1m (A1:Sl) (st:List Int) (xs:List P2) (i:Nat) (l:P2) (s5:Sl) (hi:i<st.length) (hi2:i<1000) (hx:xs.length<1000) :
  ∃(ys:List P2) (s:Sl),ys.length=xs.length+1/\Er [.im (L st),A1,.ow (.lst (xs.map T2)),.im (.int (i:Int)),.im (T2 l),s5]=.nx [.im (L st),A1,.ow (.lst (ys.map T2)),.im (.int (i:Int)),.im (T2 l),s]:=by
 unfold Er
 walk_at "dz"
 rw [y3f hi]
 walk_at "dz"
 rw [Ny (by omega),Y3 (by omega)]
 walk_at "dz"
 rw [Ny (by omega)]
 walk_at "dz"
 rw [j7 (by omega)]
 walk_at "dz"
 have x0:0<=(st.getD i 0 * 69621+(i:Int) * i * 16807+11) % 2147483629:=Int.emod_nonneg _ (by decide)
 generalize (st.getD i 0 * 69621+(i:Int) * i * 16807+11) % 2147483629=x at x0
 rw [List.length_map,j7 (by omega),Cn (by omega)]
 walk_at "dz"
 rw [j7 (by omega)]
 walk_at "dz"
 have j0:0<=x % ((xs.length:Int)+1):=Int.emod_nonneg _ (by omega)
 have j1:x % ((xs.length:Int)+1)<(xs.length:Int)+1:=Int.emod_lt_of_pos _ (by omega)
 generalize x % ((xs.length:Int)+1)=j at j0 j1
 have key:∀y:P2,(xs.take j.toNat++y::xs.drop j.toNat).length=xs.length+1:=fun y=>by
  have:(xs.take j.toNat++y::xs.drop j.toNat).Perm (y::xs):=by refine List.perm_middle.trans ?_;rw [List.take_append_drop]
  rw [this.length_eq];rfl
 have m0:0<=x / 64 % 2:=Int.emod_nonneg _ (by decide)
 have m1:x / 64 % 2<2:=Int.emod_lt_of_pos _ (by decide)
 generalize x / 64 % 2=m at m0 m1
 obtain rfl | rfl:m=0\/m=1:=by omega
 . walk_at "dz";rw [Pk l j0 (by omega) hx];walk_at "dz";exact ⟨_,_,key l,rfl⟩
 . walk_at "dz";rw [show D.tup [D.int l.2,D.int l.1]=T2 (l.2,l.1) from rfl,Pk (l.2,l.1) j0 (by omega) hx];walk_at "dz";exact ⟨_,_,key (l.2,l.1),rfl⟩
theorem ql {ls:List P2} (st:List Int) (hl:ls.length=st.length) (hs:st.length<=57):∃xs:List P2,xs.length=ls.length/\Bp [L st,.lst (ls.map T2)]=.ok (.lst (xs.map T2)):=by
 unfold Bp Wt;walk_at "dz";simp only [iEn];walk_at "dz";rw [Hh T2 (0,0) ls];obtain ⟨ρ',e,xs,s5,s6,s7,hp,hr⟩:=Tq (tg:=.t [3,4]) (g:=Er) ls.length (fun (i:Nat)=>D.tup [.int (i:Int),T2 (ls.getD i (0,0))])
  (fun k ρ=>∃(xs:List P2) (s5 s6 s7:Sl),xs.length=k/\ρ=[.im (L st),.im (.lst (ls.map T2)),.ow (.lst (xs.map T2)),s5,s6,s7])
  [.im (L st),.im (.lst (ls.map T2)),.ow (.lst []),.em,.em,.em] ⟨[],.em,.em,.em,rfl,rfl⟩ (by rintro i hi ρ ⟨xs,s5,s6,s7,hp,rfl⟩;obtain ⟨ys,s,py,e⟩:=y1m (.im (.lst (ls.map T2))) st xs i (ls.getD i (0,0)) s7 (by omega) (by omega) (by omega);exact ⟨_,_,rfl,Or.inl e,⟨ys,_,_,_,by omega,rfl⟩⟩)
 rw [e,hr];walk_at "dz";exact ⟨xs,hp,rfl⟩
theorem Ph (h:ds.all P=true) (h0:0<=j) (h1:j<ds.length):∃d,dIx (.lst ds) (.int j)=some d/\P d=true:=by
 have hl:j.toNat<ds.length:=by omega
 refine ⟨ds[j.toNat],?_,List.all_eq_true.mp h _ (List.getElem_mem hl)⟩;have:=Qa (List.getElem?_eq_getElem hl);rwa [Int.toNat_of_nonneg h0] at this
theorem p59:Q7 (D.int 10) (D.int 59)=some (D.int (10 ^ 59)):=rfl
theorem y1n (h:xs.length+ys.length<=100000):E3 (.lst xs) (.lst ys)=some (.lst (xs++ys)):=by simp only [E3];rw [ξ h]
theorem p9:Q7 (D.int 10) (D.int 9)=some (D.int (10 ^ 9)):=rfl
theorem y1o (h3:3<=n) (h60:n<=60) (x:Int):∃d,V9 [.int x,.int n]=.ok d/\Th d=true:=by have p:=p59;generalize (10 ^ 59:Int)=c at p;have j0:0<=x % 18:=Int.emod_nonneg _ (by decide);have j1:x % 18<18:=Int.emod_lt_of_pos _ (by decide);unfold V9 Vo;walk_at "dz";rw [Cn (by omega)];walk_at "dz";rw [j7 (by omega)];walk_at "dz";generalize x / 18 % n=a;rw [j7 (by omega)];walk_at "dz";generalize (a+1) % n=b;rw [p];walk_at "dz";simp only [Gj];walk_at "dz";rw [y1n (by simp only [List.length_cons,List.length_nil];omega)];obtain ⟨d,e,hd⟩:=Ph (P:=Th) (ds:=[D.non,D.str (PySem.Str.ofString "0-2"),D.int 7,D.lst [D.int 0,D.int 2],D.tup [D.int 0],D.tup [D.int 0,D.int 2,D.int 4],D.tup [D.int 0,D.non],D.tup [D.str (PySem.Str.ofString "0"),D.int 2],D.tup [D.bl true,D.int 3],D.tup [D.int a,D.int a],D.tup [D.int a,D.int b],D.tup [D.int (n - 1),D.int 0],D.tup [D.int (-1),D.int 2],D.tup [D.int 0,D.int n],D.tup [D.int 2,D.int (-n)],D.tup [D.int 0,D.int c],D.dk [] [],D.tup []]) rfl j0 j1;simp only [List.cons_append,List.nil_append];walk_at "dz";rw [j7 (by omega)];walk_at "dz";rw [e];exact ⟨d,rfl,hd⟩
theorem y1p (x:Int):∃d,Bo [.int x]=.ok d/\Fl d=true:=by
 have p:=p59;have q:=p9;have hc:(60:Int)<10 ^ 59:=by decide
 have hd:(0:Int)<10 ^ 9:=by decide
 generalize (10 ^ 59:Int)=c at p hc;generalize (10 ^ 9:Int)=d at q hd;have j0:0<=x % 13:=Int.emod_nonneg _ (by decide);have j1:x % 13<13:=Int.emod_lt_of_pos _ (by decide);unfold Bo Ws;walk_at "dz";rw [Cn (by omega),q];walk_at "dz";rw [j7 (by omega)];walk_at "dz";have f0:0<=x / 13 % d:=Int.emod_nonneg _ (by omega);generalize x / 13 % d=f at f0;rw [p];walk_at "dz";rw [j7 (by omega)];walk_at "dz";obtain ⟨d,e,hd⟩:=Ph (P:=Fl) (ds:=[D.int 2,D.int 61,D.int 0,D.int (-1),D.int 1,D.int (62+f),D.int (-2 - f),D.bl true,D.non,D.str (PySem.Str.ofString "5"),D.lst [D.int 5],D.tup [D.int 5],D.int c]) (by simp only [List.all_cons,List.all_nil,Fl,Bool.and_true,Bool.true_and,Bool.and_eq_true,decide_eq_true_eq];omega) j0 j1;rw [e];exact ⟨d,rfl,hd⟩
theorem Jg (h:ds.all Th=true) (hd:Th d=true) (i:Int):(p6 ds i d).all Th=true/\(p6 ds i d).length=ds.length+1:=by
 refine ⟨?_,Wv ..⟩;unfold p6;rw [List.all_eq_true] at h ⊢;intro x hx;rcases List.mem_append.mp hx with hx | hx
 . exact h x (List.mem_of_mem_take hx)
 . rcases List.mem_cons.mp hx with rfl | hx
   . exact hd
   . exact h x (List.mem_of_mem_drop hx)
theorem Fw (h0:0<=j) (h1:j<=1000) (h:ds.length<=1000):w6 (.lst ds) [.int j,d]=some (.lst (p6 ds j d)):=by simp only [w6];rw [ξ ⟨by omega,by omega,by omega⟩]
theorem xN {ds:List D} (h:ds.all Th=true) (k:Nat):(ds.eraseIdx k).all Th=true:=by rw [List.all_eq_true] at h ⊢;exact fun x hx=>h x (List.mem_of_mem_eraseIdx hx)
theorem Pg (s1 s2 s3 s5 s6:Sl):∀(k:Nat) (js:List D) (ds:List D) (s4:Sl),js.length=k->k<=ds.length->∃s4',j8 (.n 4) Bt js [.ow (.lst ds),s1,s2,s3,s4,s5,s6]=.nx [.ow (.lst (ds.take (ds.length - k))),s1,s2,s3,s4',s5,s6]
 | 0,js,ds,s4,hj,hk=>by rw [List.eq_nil_of_length_eq_zero hj];exact ⟨s4,by rw [Nat.sub_zero,List.take_length];rfl⟩
 | k+1,[],ds,s4,hj,hk=>by cases hj
 | k+1,j::js,ds,s4,hj,hk=>by
  rw [T7];simp only [List.set_cons_succ,List.set_cons_zero];have e:Bt [.ow (.lst ds),s1,s2,s3,.im j,s5,s6]=.nx [.ow (.lst ds.dropLast),s1,s2,s3,.im j,s5,s6]:=by unfold Bt Z3;show (if isT "list" (D.lst ds)=true then (R.of (Y2 (D.lst ds) [])).toS fun d'=>SR.nx [.ow d',s1,s2,s3,.im j,s5,s6] else SR.st)=_;rw [ξ (show isT "list" (D.lst ds)=true from rfl)];simp only [Y2];rw [ξ (by omega)];rfl
  rw [e,K5];obtain ⟨s4',q⟩:=Pg s1 s2 s3 s5 s6 k js ds.dropLast (.im j) (by simpa using hj) (by rw [List.length_dropLast];omega);refine ⟨s4',q.trans ?_⟩;rw [List.length_dropLast,List.dropLast_eq_take,List.take_take,Nat.min_eq_left (by omega),show ds.length - 1 - k=ds.length - (k+1) by omega]
abbrev S1:DS->SR:=(sIf (z5 (c6 asB (eOp dEq (eOp g8 (eOp dIx (a5 2) (eC (.int 0))) (eC (.int 7))) (eC (.int 1)))) (c6 asB (eOp C2 (a5 0) (k7 a8)))) (u9 "list" Q3 0 [true,false,true] (a6 (eOp g8 (eOp dIx (a5 2) (eC (.int 1))) (eCB j4 (a6 (a5 0) a8))) a8)) sNx)
abbrev S2:DS->SR:=(sIf (c6 asB (eOp dEq (eOp g8 (eOp dIx (a5 2) (eC (.int 0))) (eC (.int 7))) (eC (.int 6)))) (B7 true [true,false,false,true] (L8 (a6 (eOp y9 (eCB j4 (a6 (a5 0) a8)) (a5 3)) a8)) (.n 4) Bt) sNx)
abbrev S3:DS->SR:=(sIf (c6 asB (eOp dEq (eOp g8 (eOp dIx (a5 2) (eC (.int 0))) (eC (.int 7))) (eC (.int 2)))) (u9 "list" w6 0 [false,true,true,true] (a6 (a5 3) (a6 (e8 V9 (a6 (eOp dIx (a5 2) (eC (.int 2))) (a6 (a5 1) a8))) a8))) sNx)
abbrev S4:DS->SR:=(sIf (z5 (c6 asB (eOp dEq (eOp g8 (eOp dIx (a5 2) (eC (.int 0))) (eC (.int 7))) (eC (.int 3)))) (c6 asB (eOp O5 (a5 1) (eC (.int 3))))) (b7 (b9 false 5 [false,true,true] (eOp g8 (eOp dIx (a5 2) (eC (.int 2))) (a5 1))) (u9 "list" w6 0 [false,true,true,true,false,true] (a6 (a5 3) (a6 (e9 (a6 (a5 5) (a6 (eOp g8 (eOp m5 (eOp m5 (a5 5) (eC (.int 2))) (eOp g8 (eOp dIx (a5 2) (eC (.int 3))) (eOp y9 (a5 1) (eC (.int 3))))) (a5 1)) a8))) a8)))) sNx)
abbrev S5:DS->SR:=(sIf (z5 (c6 asB (eOp dEq (eOp g8 (eOp dIx (a5 2) (eC (.int 0))) (eC (.int 7))) (eC (.int 4)))) (c6 asB (eOp C2 (a5 0) (k7 a8)))) (b7 (O0 6 0 [true,false,true] (eOp g8 (eOp dIx (a5 2) (eC (.int 2))) (eCB j4 (a6 (a5 0) a8)))) (b7 (sIf (z5 (c6 j9 (eUn (k9 "tuple") (a5 6))) (c6 asB (eOp dEq (eCB j4 (a6 (a5 6) a8)) (eC (.int 2))))) (b9 false 6 [false,false,false,false,false,false,true] (e9 (a6 (eOp dIx (a5 6) (eC (.int 1))) (a6 (eOp dIx (a5 6) (eC (.int 0))) a8)))) sNx) (u9 "list" w6 0 [false,false,false,true,false,false,true] (a6 (a5 3) (a6 (a5 6) a8))))) sNx)
abbrev sp (ds:List D) (n:Int) (F:D) (j:Int) (s4 s5 s6:Sl):DS:=[.ow (.lst ds),.im (.int n),.im F,.im (.int j),s4,s5,s6]
section
variable {ds:List D} {n:Int} {F:D} {j w x y z:Int} {s4 s5 s6:Sl}
theorem sk1 (i0:dIx F (.int 0)=some (.int w)) (h:w % 7≠1):S1 (sp ds n F j s4 s5 s6)=.nx (sp ds n F j s4 s5 s6):=by walk_at "dz";rw [i0];walk_at "dz";rw [j7 (by omega)];walk_at "dz";rw [decide_eq_false h];walk_at "dz"
theorem sk2 (i0:dIx F (.int 0)=some (.int w)) (h:w % 7≠6):S2 (sp ds n F j s4 s5 s6)=.nx (sp ds n F j s4 s5 s6):=by walk_at "dz";rw [i0];walk_at "dz";rw [j7 (by omega)];walk_at "dz";rw [decide_eq_false h];walk_at "dz"
theorem sk3 (i0:dIx F (.int 0)=some (.int w)) (h:w % 7≠2):S3 (sp ds n F j s4 s5 s6)=.nx (sp ds n F j s4 s5 s6):=by walk_at "dz";rw [i0];walk_at "dz";rw [j7 (by omega)];walk_at "dz";rw [decide_eq_false h];walk_at "dz"
theorem sk4 (i0:dIx F (.int 0)=some (.int w)) (h:w % 7≠3):S4 (sp ds n F j s4 s5 s6)=.nx (sp ds n F j s4 s5 s6):=by walk_at "dz";rw [i0];walk_at "dz";rw [j7 (by omega)];walk_at "dz";rw [decide_eq_false h];walk_at "dz"
theorem sk5 (i0:dIx F (.int 0)=some (.int w)) (h:w % 7≠4):S5 (sp ds n F j s4 s5 s6)=.nx (sp ds n F j s4 s5 s6):=by walk_at "dz";rw [i0];walk_at "dz";rw [j7 (by omega)];walk_at "dz";rw [decide_eq_false h];walk_at "dz"
theorem Qy (ds:List D):C2 (.lst ds) (.lst [])=some (.bl (decide (ds≠[]))):=by
 cases ds with
 | nil=>rfl
 | cons d r=>simp only [C2];rw [ψ (by simp)];rfl
theorem fi1 (i0:dIx F (.int 0)=some (.int w)) (i1:dIx F (.int 1)=some (.int x)) (h:w % 7=1) (hl:ds.length<=1000) (ht:ds.all Th=true):∃ds',S1 (sp ds n F j s4 s5 s6)=.nx (sp ds' n F j s4 s5 s6)/\ds'.all Th=true/\ds'.length<=ds.length:=by
 have nk:=Qy ds;walk_at "dz";rw [i0];walk_at "dz";rw [j7 (by omega)];walk_at "dz";rw [decide_eq_true h];walk_at "dz";rw [nk];walk_at "dz";by_cases hd:ds≠[]
 . have hp:0<ds.length:=by cases ds with
    | nil=>exact absurd rfl hd
    | cons _ _=>simp
   have k0:0<=x % (ds.length:Int):=Int.emod_nonneg _ (by omega)
   have k1:x % (ds.length:Int)<ds.length:=Int.emod_lt_of_pos _ (by omega)
   rw [decide_eq_true hd]
   walk_at "dz"
   rw [i1]
   walk_at "dz"
   rw [j7 (by omega)]
   walk_at "dz"
   rw [show Q3 (.lst ds) [.int (x % (ds.length:Int))]=some (.lst (ds.eraseIdx (x % (ds.length:Int)).toNat)) by simp only [Q3];rw [ξ ⟨k0,k1,by omega⟩]]
   walk_at "dz"
   exact ⟨_,rfl,xN ht _,List.length_eraseIdx_le ..⟩
 . rw [decide_eq_false hd];walk_at "dz";exact ⟨ds,rfl,ht,ζ _⟩
theorem fi2 (i0:dIx F (.int 0)=some (.int w)) (h:w % 7=6) (hj:0<=j) (hj2:j<=ds.length) (hl:ds.length<=1000) (ht:ds.all Th=true):∃ds' s4',S2 (sp ds n F j s4 s5 s6)=.nx (sp ds' n F j s4' s5 s6)/\ds'.all Th=true/\ds'.length<=ds.length:=by
 walk_at "dz";rw [i0];walk_at "dz";rw [j7 (by omega)];walk_at "dz";rw [decide_eq_true h];walk_at "dz";rw [Gf ((ds.length:Int) - j) (by omega) (by walk_at "dz")];walk_at "dz";obtain ⟨s4',q⟩:=Pg (.im (.int n)) (.im F) (.im (.int j)) s5 s6 ((ds.length:Int) - j).toNat (zD 0 ((ds.length:Int) - j).toNat) ds s4 (by simp [zD]) (by omega);rw [q];refine ⟨_,s4',rfl,?_,?_⟩
 . rw [List.all_eq_true] at ht ⊢;exact fun x hx=>ht x (List.mem_of_mem_take hx)
 . rw [List.length_take];omega
theorem fi3 (i0:dIx F (.int 0)=some (.int w)) (i2:dIx F (.int 2)=some (.int y)) (h3:3<=n) (h60:n<=60) (h:w % 7=2) (hj:0<=j) (hj2:j<=ds.length) (hl:ds.length<=1000) (ht:ds.all Th=true):∃ds',S3 (sp ds n F j s4 s5 s6)=.nx (sp ds' n F j s4 s5 s6)/\ds'.all Th=true/\ds'.length<=ds.length+1:=by
 obtain ⟨b,eb,tb⟩:=y1o h3 h60 y;obtain ⟨k1,k2⟩:=Jg ht tb j;have ie:=Fw (d:=b) (ds:=ds) hj (by omega) hl;walk_at "dz";rw [i0];walk_at "dz";rw [j7 (by omega)];walk_at "dz";rw [decide_eq_true h];walk_at "dz";rw [i2];walk_at "dz";rw [eb];walk_at "dz";have tw:l7 b.noL [false,true,true,true] (sp ds n F j s4 s5 s6)=sp ds n F j s4 s5 s6:=by cases b.noL<;>rfl
 rw [tw];show ∃ds',((R.of (w6 (.lst ds) [D.int j,b])).toS fun d'=>SR.nx [.ow d',.im (.int n),.im F,.im (.int j),s4,s5,s6])=_/\_;rw [ie];exact ⟨_,rfl,k1,by omega⟩
theorem fi4 (i0:dIx F (.int 0)=some (.int w)) (i2:dIx F (.int 2)=some (.int y)) (i3:dIx F (.int 3)=some (.int z)) (h3:3<=n) (h60:n<=60) (h:w % 7=3) (hj:0<=j) (hj2:j<=ds.length) (hl:ds.length<=1000) (ht:ds.all Th=true):∃ds' s5',S4 (sp ds n F j s4 s5 s6)=.nx (sp ds' n F j s4 s5' s6)/\ds'.all Th=true/\ds'.length<=ds.length+1:=by
 walk_at "dz";rw [i0];walk_at "dz";rw [j7 (by omega)];walk_at "dz";rw [decide_eq_true h];walk_at "dz";by_cases hn:3<n
 . rw [decide_eq_true hn];walk_at "dz";rw [i2];walk_at "dz";rw [j7 (by omega)];walk_at "dz";generalize y % n=a;rw [i3];walk_at "dz";rw [j7 (by omega)];walk_at "dz";rw [j7 (by omega)];walk_at "dz";generalize (a+2+z % (n - 3)) % n=b;obtain ⟨k1,k2⟩:=Jg ht (d:=.tup [.int a,.int b]) rfl j;rw [Fw hj (by omega) hl];walk_at "dz";exact ⟨_,_,rfl,k1,by omega⟩
 . rw [decide_eq_false hn];walk_at "dz";exact ⟨ds,s5,rfl,ht,by omega⟩
abbrev S5i:DS->SR:=(sIf (z5 (c6 j9 (eUn (k9 "tuple") (a5 6))) (c6 asB (eOp dEq (eCB j4 (a6 (a5 6) a8)) (eC (.int 2))))) (b9 false 6 [false,false,false,false,false,false,true] (e9 (a6 (eOp dIx (a5 6) (eC (.int 1))) (a6 (eOp dIx (a5 6) (eC (.int 0))) a8)))) sNx)
theorem Qx (h:Atm d=true):d.noL=true:=by cases d<;>first | rfl | (exfalso;simp [Atm] at h;done)
theorem s5i (h:Th d=true):∃d',S5i (sp ds n F j s4 s5 (.im d))=.nx (sp ds n F j s4 s5 (.im d'))/\Th d'=true:=by
 cases d<;>first | exact ⟨_,rfl,h⟩ | (exfalso;simp [Th] at h;done) | skip
 rename_i es
 match es,h with
 | [],h=>exact ⟨_,rfl,h⟩
 | [a],h=>exact ⟨_,rfl,h⟩
 | [a,b],h=>
  simp only [Th,List.all_cons,List.all_nil,Bool.and_true,Bool.and_eq_true] at h
  have na:=Qx h.1
  have nb:=Qx h.2
  refine ⟨.tup [b,a],?_,by simp only [Th,List.all_cons,List.all_nil,h.1,h.2,Bool.and_self]⟩
  walk_at "dz"
  rw [na,nb]
  rfl
 | a::b::c::r,h=>
  refine ⟨_,?_,h⟩
  generalize hq:a::b::c::r=q
  have hl:q.length=r.length+3:=by rw [<-hq];rfl
  walk_at "dz"
  rw [decide_eq_false (show ¬(q.length:Int)=2 by omega)]
  walk_at "dz"
theorem fi5 (i0:dIx F (.int 0)=some (.int w)) (i2:dIx F (.int 2)=some (.int y)) (h:w % 7=4) (hj:0<=j) (hj2:j<=ds.length) (hl:ds.length<=1000) (ht:ds.all Th=true):∃ds' s6',S5 (sp ds n F j .em .em s6)=.nx (sp ds' n F j .em .em s6')/\ds'.all Th=true/\ds'.length<=ds.length+1:=by
 have nk:=Qy ds;by_cases hd:ds≠[]
 . have hp:0<ds.length:=by cases ds with
    | nil=>exact absurd rfl hd
    | cons _ _=>simp
   have k0:0<=y % (ds.length:Int):=Int.emod_nonneg _ (by omega)
   have k1:y % (ds.length:Int)<ds.length:=Int.emod_lt_of_pos _ (by omega)
   have hk:(y % (ds.length:Int)).toNat<ds.length:=by omega
   have at1:atI ds (y % (ds.length:Int))=some ds[(y % (ds.length:Int)).toNat]:=by have:=U9 (List.getElem?_eq_getElem hk);rwa [Int.toNat_of_nonneg k0] at this
   have td:=List.all_eq_true.mp ht _ (List.getElem_mem hk)
   generalize ds[(y % (ds.length:Int)).toNat]=d at at1 td
   obtain ⟨d',e',td'⟩:=s5i (ds:=ds) (n:=n) (F:=F) (j:=j) (s4:=.em) (s5:=.em) td
   obtain ⟨q1,q2⟩:=Jg ht td' j
   have a1:O0 6 0 [true,false,true] (eOp g8 (eOp dIx (a5 2) (eC (.int 2))) (eCB j4 (a6 (a5 0) a8))) (sp ds n F j .em .em s6)=.nx (sp ds n F j .em .em (.im d)):=by
    have e:(eOp g8 (eOp dIx (a5 2) (eC (.int 2))) (eCB j4 (a6 (a5 0) a8))) (vis [true,false,true] (sp ds n F j .em .em s6))=.ok (.int (y % (ds.length:Int))):=by walk_at "dz";rw [i2];walk_at "dz";rw [j7 (by omega)];walk_at "dz"
    unfold O0;show ((eOp g8 (eOp dIx (a5 2) (eC (.int 2))) (eCB j4 (a6 (a5 0) a8))) (vis [true,false,true] (sp ds n F j .em .em s6))).toS _=_;rw [e];show (match atI ds (y % (ds.length:Int)) with
     | some d=>SR.nx _
     | none=>SR.st)=_
    rw [at1];rfl
   have a3:u9 "list" w6 0 [false,false,false,true,false,false,true] (a6 (a5 3) (a6 (a5 6) a8)) (sp ds n F j .em .em (.im d'))=.nx (sp (p6 ds j d') n F j .em .em (.im d')):=by
    have ie:=Fw (d:=d') (ds:=ds) hj (by omega) hl;walk_at "dz";have tw:l7 d'.noL [false,false,false,true,false,false,true] (sp ds n F j .em .em (.im d'))=sp ds n F j .em .em (.im d'):=by cases d'.noL<;>rfl
    rw [tw];show ((R.of (w6 (.lst ds) [D.int j,d'])).toS fun d=>SR.nx [.ow d,.im (.int n),.im F,.im (.int j),.em,.em,.im d'])=_;rw [ie];rfl
   have cnd:(z5 (c6 asB (eOp dEq (eOp g8 (eOp dIx (a5 2) (eC (.int 0))) (eC (.int 7))) (eC (.int 4)))) (c6 asB (eOp C2 (a5 0) (k7 a8)))) (see (sp ds n F j .em .em s6))=.ok true:=by walk_at "dz";rw [i0];walk_at "dz";rw [j7 (by omega)];walk_at "dz";rw [decide_eq_true h];walk_at "dz";rw [nk,decide_eq_true hd];walk_at "dz"
   refine ⟨p6 ds j d',.im d',?_,q1,by omega⟩
   unfold S5
   rw [jM,cnd]
   show b7 _ (b7 S5i _) _=_
   rw [k8 a1,k8 e',a3]
 . walk_at "dz";rw [i0];walk_at "dz";rw [j7 (by omega)];walk_at "dz";rw [decide_eq_true h];walk_at "dz";rw [nk,decide_eq_false hd];walk_at "dz";exact ⟨ds,s6,rfl,ht,by omega⟩
end
theorem qk (h3:3<=n) (h60:n<=60) (h:ds.all Th=true) (hl:ds.length<=1000) (w x y z:Int):∃ds',L5 [.lst ds,.int n,L [w,x,y,z]]=.ok (.lst ds')/\ds'.all Th=true/\ds'.length<=ds.length+1:=by
 have i0:dIx (L [w,x,y,z]) (.int 0)=some (.int w):=rfl;have i1:dIx (L [w,x,y,z]) (.int 1)=some (.int x):=rfl;have i2:dIx (L [w,x,y,z]) (.int 2)=some (.int y):=rfl;have i3:dIx (L [w,x,y,z]) (.int 3)=some (.int z):=rfl;have j0:0<=x % ((ds.length:Int)+1):=Int.emod_nonneg _ (by omega);have j1:x % ((ds.length:Int)+1)<(ds.length:Int)+1:=Int.emod_lt_of_pos _ (by omega);have a0:0<=w % 7:=Int.emod_nonneg _ (by decide);have a1:w % 7<7:=Int.emod_lt_of_pos _ (by decide);generalize L [w,x,y,z]=F at *;have b1:b9 false 3 [true,false,true] (eOp g8 (eOp dIx (a5 2) (eC (.int 1))) (eOp m5 (eCB j4 (a6 (a5 0) a8)) (eC (.int 1)))) [.ow (.lst ds),.im (.int n),.im F,.em,.em,.em,.em]=.nx (sp ds n F (x % ((ds.length:Int)+1)) .em .em .em):=by walk_at "dz";rw [i1];walk_at "dz";rw [j7 (by omega)];walk_at "dz"
 have hj2:x % ((ds.length:Int)+1)<=ds.length:=by omega
 generalize x % ((ds.length:Int)+1)=j at j0 hj2 b1;have key:∀{r:SR} {ds':List D} {s4 s5 s6:Sl},Bm [.ow (.lst ds),.im (.int n),.im F,.em,.em,.em,.em]=r->r=.nx (sp ds' n F j s4 s5 s6)->L5 [.lst ds,.int n,F]=.ok (.lst ds'):=by
  intro r ds' s4 s5 s6 e1 e2;unfold L5;show (match Bm [.ow (.lst ds),.im (.int n),.im F,.em,.em,.em,.em] with
   | .nx (.ow d'::_)=>R.ok d'
   | _=>R.st)=_
  rw [e1,e2]
 have st:Bm [.ow (.lst ds),.im (.int n),.im F,.em,.em,.em,.em]=b7 S1 (b7 S2 (b7 S3 (b7 S4 S5))) (sp ds n F j .em .em .em):=by unfold Bm;rw [k8 b1]
 by_cases c1:w % 7=1
 . obtain ⟨ds',e,t,l⟩:=fi1 (n:=n) (j:=j) (s4:=.em) (s5:=.em) (s6:=.em) i0 i1 c1 hl h;exact ⟨ds',key st (by rw [k8 e,k8 (sk2 i0 (by omega)),k8 (sk3 i0 (by omega)),k8 (sk4 i0 (by omega)),sk5 i0 (by omega)]),t,by omega⟩
 by_cases c2:w % 7=6
 . obtain ⟨ds',s4',e,t,l⟩:=fi2 (n:=n) (j:=j) (s4:=.em) (s5:=.em) (s6:=.em) i0 c2 j0 hj2 hl h;exact ⟨ds',key st (by rw [k8 (sk1 i0 (by omega)),k8 e,k8 (sk3 i0 (by omega)),k8 (sk4 i0 (by omega)),sk5 i0 (by omega)]),t,by omega⟩
 by_cases c3:w % 7=2
 . obtain ⟨ds',e,t,l⟩:=fi3 (n:=n) (j:=j) (s4:=.em) (s5:=.em) (s6:=.em) i0 i2 h3 h60 c3 j0 hj2 hl h;exact ⟨ds',key st (by rw [k8 (sk1 i0 (by omega)),k8 (sk2 i0 (by omega)),k8 e,k8 (sk4 i0 (by omega)),sk5 i0 (by omega)]),t,by omega⟩
 by_cases c4:w % 7=3
 . obtain ⟨ds',s5',e,t,l⟩:=fi4 (n:=n) (j:=j) (s4:=.em) (s5:=.em) (s6:=.em) i0 i2 i3 h3 h60 c4 j0 hj2 hl h;exact ⟨ds',key st (by rw [k8 (sk1 i0 (by omega)),k8 (sk2 i0 (by omega)),k8 (sk3 i0 (by omega)),k8 e,sk5 i0 (by omega)]),t,by omega⟩
 by_cases c5:w % 7=4
 . obtain ⟨ds',s6',e,t,l⟩:=fi5 (n:=n) (j:=j) (s6:=.em) i0 i2 c5 j0 hj2 hl h;exact ⟨ds',key st (by rw [k8 (sk1 i0 (by omega)),k8 (sk2 i0 (by omega)),k8 (sk3 i0 (by omega)),k8 (sk4 i0 (by omega)),e]),t,by omega⟩
 . exact ⟨ds,key st (by rw [k8 (sk1 i0 (by omega)),k8 (sk2 i0 (by omega)),k8 (sk3 i0 (by omega)),k8 (sk4 i0 (by omega)),sk5 i0 (by omega)]),h,by omega⟩
abbrev lw (ns:List Int) (s1:Sl) (st:List Int) (n:Int) (X ds:List D) (t:D) (s7:Sl):DS:=[.im (.scr ns),s1,.im (L st),.im (.int n),.im (.lst X),.ow (.lst ds),.im t,s7,.em,.em,.em]
def Tl (n:Int) (t:D):Prop:=t=.int n\/Fl t=true
theorem y1q (hs1:s1=.ow (L sp0)\/s1=.im (L sp0)) (hi:0<=i/\i<=2)
  (hc:dSl (L sp0) (some (4 * i)) (some (4 * i+4))=some (L [w,x,y,z])) (es:L5 [.lst ds,.int n,L [w,x,y,z]]=.ok (.lst ds')) :
  Q1 5 [false,true,false,true,false,false,false,true] L5 3 (a6 (a5 3) (a6 (eSl dSl (a5 1) (oSo (eOp p5 (eC (.int 4)) (a5 7))) (oSo (eOp m5 (eOp p5 (eC (.int 4)) (a5 7)) (eC (.int 4))))) a8)) (lw ns s1 st n X ds t (.im (.int i)))=.nx (lw ns (.im (L sp0)) st n X ds' t (.im (.int i))):=by
 have fe:(a6 (a5 3) (a6 (eSl dSl (a5 1) (oSo (eOp p5 (eC (.int 4)) (a5 7))) (oSo (eOp m5 (eOp p5 (eC (.int 4)) (a5 7)) (eC (.int 4))))) a8)) (vis [false,true,false,true,false,false,false,true] (lw ns s1 st n X ds t (.im (.int i))))=.ok [.int n,L [w,x,y,z]]:=by
  generalize L [w,x,y,z]=F4 at hc;rcases hs1 with rfl | rfl
  all_goals
   generalize L sp0=SP at *
   walk_at "dz"
   rw [Y3 (by omega)]
   walk_at "dz"
   rw [hc]
   walk_at "dz"
 rcases hs1 with rfl | rfl
 all_goals
  unfold Q1
  show R.toS ((a6 (a5 3) (a6 (eSl dSl (a5 1) (oSo (eOp p5 (eC (.int 4)) (a5 7))) (oSo (eOp m5 (eOp p5 (eC (.int 4)) (a5 7)) (eC (.int 4))))) a8)) (vis [false,true,false,true,false,false,false,true] (lw ns _ st n X ds t (.im (.int i))))) _=_
  rw [fe]
  show (match L5 [.lst ds,.int n,L [w,x,y,z]] with
   | .ok d'=>SR.nx [.im (.scr ns),.im (L sp0),.im (L st),.im (.int n),.im (.lst X),.ow d',.im t,.im (.int i),.em,.em,.em]
   | _=>SR.st)=_
  rw [es]
theorem Nf (hs1:s1=.ow (L sp0)\/s1=.im (L sp0)) (hi:0<=i/\i<=2) (h3:3<=n) (h60:n<=60) (hd:ds.all Th=true) (hl:ds.length<=1000) (ht:Tl n t)
  (hc:dSl (L sp0) (some (4 * i)) (some (4 * i+4))=some (L [w,x,y,z])) (c0:dIx (L sp0) (.int (4 * i))=some (.int w)) (c1:dIx (L sp0) (.int (4 * i+1))=some (.int x)) :
  ∃ds' t',Af (lw ns s1 st n X ds t (.im (.int i)))=.nx (lw ns (.im (L sp0)) st n X ds' t' (.im (.int i)))/\ds'.all Th=true/\ds'.length<=ds.length+1/\Tl n t':=by
 obtain ⟨ds',es,h1,h2⟩:=qk h3 h60 hd hl w x y z
 have hi':=y1q (ns:=ns) (st:=st) (X:=X) (t:=t) hs1 hi hc es
 obtain ⟨f,ef,hf⟩:=y1p x
 unfold Af
 rw [k8 hi']
 generalize L sp0=SP at *
 walk_at "dz"
 rw [Y3 (by omega)]
 walk_at "dz"
 rw [c0]
 walk_at "dz"
 rw [j7 (by omega)]
 walk_at "dz"
 by_cases h5:w % 7=5
 . rw [decide_eq_true h5];walk_at "dz";rw [c1];walk_at "dz";rw [ef];walk_at "dz";refine ⟨ds',f,?_,h1,h2,.inr hf⟩;cases keeps false f<;>rfl
 . rw [decide_eq_false h5];walk_at "dz";exact ⟨ds',t,rfl,h1,h2,ht⟩
theorem y3v (h:Kd d k):∃(s:PySem.Str) (bm bf bl bc bu:Bool),dIx d (.int 0)=some (.str s)/\dEq (.str s) (.str "made")=some (.bl bm)/\dEq (.str s) (.str "floor")=some (.bl bf)/\dEq (.str s) (.str "line")=some (.bl bl)/\dEq (.str s) (.str "crossed")=some (.bl bc)/\dEq (.str s) (.str "full")=some (.bl bu)/\((bm=true/\k=.lst [])\/(bm=false/\k=b5 true bf bl bc bu)):=by
 cases h with
 | floor r=>exact ⟨_,false,true,false,false,false,P5 _ _,rfl,rfl,rfl,rfl,rfl,.inr ⟨rfl,rfl⟩⟩
 | line r=>exact ⟨_,false,false,true,false,false,P5 _ _,rfl,rfl,rfl,rfl,rfl,.inr ⟨rfl,rfl⟩⟩
 | crossed r=>exact ⟨_,false,false,false,true,false,P5 _ _,rfl,rfl,rfl,rfl,rfl,.inr ⟨rfl,rfl⟩⟩
 | full r=>exact ⟨_,false,false,false,false,true,P5 _ _,rfl,rfl,rfl,rfl,rfl,.inr ⟨rfl,rfl⟩⟩
 | made r=>exact ⟨_,true,false,false,false,false,P5 _ _,rfl,rfl,rfl,rfl,rfl,.inl ⟨rfl,rfl⟩⟩
theorem je (h:Atm d=true):d.pl=true/\d.dep<=1:=by cases d<;>first | exact ⟨rfl,by simp [D.dep]⟩ | (exfalso;simp [Atm] at h;done)
theorem Jf:∀{ds:List D},ds.all Atm=true->pls ds=true/\i9 ds<=1
 | [],_=>⟨rfl,by simp [i9]⟩
 | d::r,h=>by simp only [List.all_cons,Bool.and_eq_true] at h;obtain ⟨a,b⟩:=je h.1;obtain ⟨c,e⟩:=Jf h.2;simp only [pls,i9,a,c,Bool.and_self,true_and];omega
theorem qh (h:Th d=true):eKK d d=some true:=by
 have key:d.pl=true->d.dep<=18->eKK d d=some true:=fun hp hd=>by
  unfold eKK;split
  . rfl
  . rw [ξ ⟨hp,hp,by omega⟩];rw [Eb d hp]
 unfold Th at h;split at h
 . exact key rfl (by simp [D.dep])
 . exact key rfl (by simp [D.dep])
 . exact key rfl (by simp [D.dep])
 . rename_i ds;have h':ds.all Atm=true:=by rw [List.all_eq_true] at h ⊢;intro x hx;have:=h x hx;cases x<;>first | rfl | (exfalso;simp [p7] at this;done)
   obtain ⟨a,b⟩:=Jf h';exact key (by simp only [D.pl,a]) (by simp only [D.dep];omega)
 . rfl
 . obtain ⟨a,b⟩:=Jf h;exact key (by simp only [D.pl,a]) (by simp only [D.dep];omega)
 . cases h
theorem wg (h:ds.all Th=true):C2 (.lst ds) (.lst ds)=some (.bl false):=by
 have e:∀ds:List D,ds.all Th=true->eKs ds ds=some true:=by
  intro ds;induction ds with
  | nil=>exact fun _=>rfl
  | cons d r ih=>
   intro h
   simp only [List.all_cons,Bool.and_eq_true] at h
   simp only [eKs,qh h.1,ih h.2]
   rfl
 unfold C2;show (if ds.length=ds.length then _ else _)=_;rw [ξ rfl,e ds h];rfl
theorem y1s (ns st sp0:List Int) (n:Int) (X ds:List D) (t:D) (s7:Sl) (h3:3<=n) (h60:n<=60) (hd:ds.all Th=true) (hl:ds.length<=60) (ht:Tl n t) :
  SR.out false (b7
   (b9 false 8 [false,false,false,false,false,true,true]
    (e8 C8 (a6 (a5 6) (a6 (a5 5) a8))))
   (b7 (b9 true 9 [false,false,false,false,false,true] (eCB F9 (a6 (a5 5) a8)))
    (b7
     (sIf
      (bOr
       (v0
        (c6 j9
         (e8 F6
          (a6 (e8 N8 (a6 (a5 6) (a6 (a5 9) a8)))
           (a6 (a5 8) (a6 (a5 3) a8))))))
       (c6 asB (eOp C2 (a5 9) (a5 5))))
      (e7 [] (eC (D.bl false))) sNx)
     (b7
      (b9 true 10 [false,false,false,false,false,true,true]
       (e8 N7 (a6 (a5 6) (a6 (eCB F9 (a6 (a5 5) a8)) a8))))
      (b7
       (sIf (c6 asB (eOp dEq (eOp dIx (a5 8) (eC (D.int 0))) (eC (D.str "made"))))
        (e7 [false,false,false,false,false,false,false,false,false,false,true]
         (eOp dEq (a5 10) (k7 a8)))
        sNx)
       (e7 [false,false,false,false,false,false,false,false,true,false,true]
        (eOp dEq (a5 10)
         (k7
          (a6 (eC (D.bl true))
           (a6 (eOp dEq (eOp dIx (a5 8) (eC (D.int 0))) (eC (D.str "floor")))
            (a6 (eOp dEq (eOp dIx (a5 8) (eC (D.int 0))) (eC (D.str "line")))
             (a6
              (eOp dEq (eOp dIx (a5 8) (eC (D.int 0))) (eC (D.str "crossed")))
              (a6
               (eOp dEq (eOp dIx (a5 8) (eC (D.int 0))) (eC (D.str "full")))
               a8))))))))))))  (lw ns (.im (L sp0)) st n X ds t (.im (.int 2))))=.ok (.bl true):=by
 obtain ⟨d,r,e1,e2,oc⟩:∃d r,C8 [t,.lst ds]=.ok d/\t7 [t,.lst ds]=r/\Oc n d r:=by
  rcases ht with rfl | ht
  . exact y3n h3 h60 hd hl
  . exact y3o n ht ds
 obtain ⟨a,e3,e4,k,e5,kd⟩:=y1l e2 oc
 obtain ⟨s,bm,bf,bl,bc,bu,x0,xm,xf,xl,xc,xu,hk⟩:=y3v kd
 have ne:=wg hd
 walk_at "dz"
 rw [e1]
 walk_at "dz"
 have kk:keeps true k=true:=by rcases hk with ⟨_,rfl⟩ | ⟨_,rfl⟩<;>rfl
 have fin:∀s5:Sl,s5=.im (.lst ds)\/s5=.ow (.lst ds)->SR.out false ((b7
   (sIf (c6 asB (eOp dEq (eOp dIx (a5 8) (eC (D.int 0))) (eC (D.str "made"))))
    (e7 [false,false,false,false,false,false,false,false,false,false,true]
     (eOp dEq (a5 10) (k7 a8)))
    sNx)
   (e7 [false,false,false,false,false,false,false,false,true,false,true]
    (eOp dEq (a5 10)
     (k7
      (a6 (eC (D.bl true))
       (a6 (eOp dEq (eOp dIx (a5 8) (eC (D.int 0))) (eC (D.str "floor")))
        (a6 (eOp dEq (eOp dIx (a5 8) (eC (D.int 0))) (eC (D.str "line")))
         (a6
          (eOp dEq (eOp dIx (a5 8) (eC (D.int 0))) (eC (D.str "crossed")))
          (a6
           (eOp dEq (eOp dIx (a5 8) (eC (D.int 0))) (eC (D.str "full")))
           a8))))))))) [Sl.im (D.scr ns),Sl.im (L sp0),Sl.im (L st),Sl.im (D.int n),Sl.im (D.lst X),
            s5,Sl.im t,Sl.im (D.int 2),Sl.im d,Sl.ow (D.lst ds),Sl.ow k])=.ok (.bl true):=by
  intro s5 h5
  have q1:dEq (.lst []) (.lst [])=some (.bl true):=rfl
  have q2:dEq (b5 true bf bl bc bu) (b5 true bf bl bc bu)=some (.bl true):=Kh rfl (by simp [b5,D.dep,i9])
  rcases h5 with rfl | rfl
  all_goals
   walk_at "dz"
   rw [x0]
   walk_at "dz"
   rw [xm]
   walk_at "dz"
   rcases hk with ⟨rfl,rfl⟩ | ⟨rfl,rfl⟩
   . walk_at "dz";rw [q1];rfl
   . walk_at "dz";rw [x0];walk_at "dz";rw [xf,xl,xc,xu];walk_at "dz";exact congrArg (fun r=>SR.out false ((R.of r).toS fun d=>SR.rt d)) q2
 generalize keeps false d=K1
 cases K1
 . walk_at "dz";generalize g9 ds=K2;cases K2
   . walk_at "dz";rw [e3];walk_at "dz";rw [e4];walk_at "dz";rw [ne];walk_at "dz";rw [e5];walk_at "dz";rw [kk];exact fin _ (.inl rfl)
   . walk_at "dz";rw [e3];walk_at "dz";rw [e4];walk_at "dz";rw [ne];walk_at "dz";rw [e5];walk_at "dz";rw [kk];exact fin _ (.inl rfl)
 . walk_at "dz";generalize g9 ds=K2;cases K2
   . walk_at "dz";rw [e3];walk_at "dz";rw [e4];walk_at "dz";rw [ne];walk_at "dz";rw [e5];walk_at "dz";rw [kk];exact fin _ (.inl rfl)
   . walk_at "dz";rw [e3];walk_at "dz";rw [e4];walk_at "dz";rw [ne];walk_at "dz";rw [e5];walk_at "dz";rw [kk];exact fin _ (.inr rfl)
theorem wf (ns:List Int) (hns:ns.length<=63):R6 [.scr ns]=.ok (.bl true):=by
 obtain ⟨m,hm,em⟩:=jf ns;obtain ⟨sp0,hs0,es0⟩:=Td (y0 ns (some 1) (some 13)) 12 (by omega);obtain ⟨st,hst,est⟩:=Td (y0 ns (some 13) none) m hm;obtain ⟨ls,hls,eg⟩:=qo st (by omega);obtain ⟨xs,hxs,ex⟩:=ql st hls (by omega);have es0:P8 [L (y0 ns (some 1) (some 13)),D.int 12]=R.ok (L sp0):=es0;have nX:g9 (ls.map T2)=true:=F5 _ _ fun x _=>E9 x
 have nY:g9 (xs.map T2)=true:=F5 _ _ fun x _=>E9 x
 have hY:(xs.map T2).length<=57:=by rw [List.length_map];omega
 have tY:(xs.map T2).all Th=true:=by rw [List.all_eq_true];intro t ht;obtain ⟨p,_,rfl⟩:=List.mem_map.mp ht;rfl
 generalize ls.map T2=X at *;generalize xs.map T2=Y at *;unfold R6 No;walk_at "dz";rw [es0];walk_at "dz";rw [em];walk_at "dz";rw [est];walk_at "dz";rw [eg];walk_at "dz";rw [ex];walk_at "dz";try rw [nX]
 try rw [nY]
 walk_at "dz";rw [Gf 3 (by omega) (by walk_at "dz")];walk_at "dz"
 match sp0,hs0 with
 | [a0,a1,a2,a3,b0,b1,b2,b3,c0,c1,c2,c3],_=>
  generalize hn:(st.length:Int)+3=n at *
  obtain ⟨d1,t1,f1,g1,l1,u1⟩:=Nf (ns:=ns) (st:=st) (X:=X) (sp0:=[a0,a1,a2,a3,b0,b1,b2,b3,c0,c1,c2,c3]) (.inl rfl) (n:=n) (i:=0) (by omega) (by omega) (by omega) tY (by omega) (.inl rfl) rfl rfl rfl
  obtain ⟨d2,t2,f2,g2,l2,u2⟩:=Nf (ns:=ns) (st:=st) (X:=X) (sp0:=[a0,a1,a2,a3,b0,b1,b2,b3,c0,c1,c2,c3]) (.inr rfl) (n:=n) (i:=1) (by omega) (by omega) (by omega) g1 (by omega) u1 rfl rfl rfl
  obtain ⟨d3,t3,f3,g3,l3,u3⟩:=Nf (ns:=ns) (st:=st) (X:=X) (sp0:=[a0,a1,a2,a3,b0,b1,b2,b3,c0,c1,c2,c3]) (.inr rfl) (n:=n) (i:=2) (by omega) (by omega) (by omega) g2 (by omega) u2 rfl rfl rfl
  have fl:j8 (.n 7) Af (zD 0 (3:Int).toNat) (lw ns (.ow (L [a0,a1,a2,a3,b0,b1,b2,b3,c0,c1,c2,c3])) st n X Y (.int n) .em)=.nx (lw ns (.im (L [a0,a1,a2,a3,b0,b1,b2,b3,c0,c1,c2,c3])) st n X d3 t3 (.im (.int 2))):=by show j8 (.n 7) Af [.int 0,.int 1,.int 2] _=_;rw [T7];simp only [List.set_cons_succ,List.set_cons_zero];rw [f1,K5,T7];simp only [List.set_cons_succ,List.set_cons_zero];rw [f2,K5,T7];simp only [List.set_cons_succ,List.set_cons_zero];rw [f3,K5];rfl
  rw [fl]
  exact y1s ns st _ n X d3 t3 .em (by omega) (by omega) g3 (by omega) u3
end K13
namespace K13
open PySem PySem.Spec PyProof.Rows L2
theorem walk {l:PySem.W.OpenLaw} {q:Program} {loose:List Str} {XP:(Str->Option Value)->Heap->Prop} {YP:World->Heap->Prop} {d:DefRec} {K:Params->Frag} (hn:l.most=some 63) (hdf:d.params.defaults=[])
  (hY:∀(w:World) (h:Heap),YP w h->(K w.params).In h)
  (F:∀(w:World) (mg:Str->Option Value) (fa:Addr) (h:Heap),(K w.params).In h->h.Ns mainGlobals mg->mg d.name=some (.ref fa) ->
   ∃fd:FuncData,(∀(s:Shared) (u:Value),BindsTo s fd ⟨[u],[]⟩ [("_law_script",u)])/\∀base:Heap,(K w.params).In base->base.Ns mainGlobals mg->FnOk l.prog w (K w.params) mg base (CX1 l.prog w) 7 fa fd ["_law_script"] (spL (K w.params) false R6 1)) :
  PySem.W.WalkO q loose XP YP l.row.toRowW d [] (fun f vs=>PySem.call f vs):=
 L2.walk_of (n:=63) (k:=7) (x:="_law_script") (CX:=fun w=>CX1 l.prog w) (sp:=fun w=>(spL (K w.params) false R6 1)) hn (by decide) hdf ⟨rfl,by decide,by decide⟩ hY F (fun _ _ a ns hl hO hS=>jX hO hS (wf ns hl)) fun _ _ _ _ _ ⟨_,_,_,_,_,_,z⟩=>z
end K13
open PySem PySem.W PyProof.Rows
set_option maxRecDepth 100000 in
set_option maxHeartbeats 0 in
theorem PySem.Challenge.cw_friezeyard_k13_cuttings_refused_holds : PySem.Challenge.rw_friezeyard_k13_cuttings_refused.Holds := by
 w_on;o_law
 refine holds_open (q:=K13.q) (loose:=[]) (Xt:=K13.xtH) (XP:=XL K13.q []) (Yf:=K13.hook.obs) (Ya:=K13.hook.val)
  (YP:=K13.hook.says) (N:=4368) K13.left K13.hook.of K13.hook.keeps
  (fun s e=>xl_of s (Bool.and_eq_true_iff.mp e).1) XL.keeps (by rfl) (by rfl) (by rfl)
  (fun s e=>recFacts_of (Bool.and_eq_true_iff.mp e).2) (by rfl) (by assumption) (by decide +kernel)
  ⟨rfl,rfl,rfl,rfl,rfl,by decide +kernel⟩ ?hw ?hc
 (case hw=>w_witness2)
 refine K13.walk (l:=PySem.Challenge.rw_friezeyard_k13_cuttings_refused) (K:=K13.K) rfl rfl (fun w h Y=>Y) ?F
 case F=>
  intro w mg fa h KX G hmg
  k_fill
  refine' K13.all_mk KX G hmg ?A0 ?A1 ?A2 ?A3 ?A4 ?A5 ?A6 ?A7 ?A8 ?A9 ?A10 ?A11 ?A12 ?A13 ?A14 ?A15 ?A16 ?A17 ?A18 ?A19 ?A20 ?A21 ?A22 ?A23 ?A24 ?A25 ?A26 ?A27 ?A28 ?A29 ?A30 ?A31 ?T ?Z ?ni_Crossed ?li_Crossed ?ci_Crossed ?ki_Crossed ?ti_Crossed ?ni_NotFull ?li_NotFull ?ci_NotFull ?ki_NotFull ?ti_NotFull
  (case A0=>apply L2.fat;k_is;k_is;k_is;k_is)
  (case A1=>apply L2.fat;k_is;k_is;k_is;k_is)
  (case A2=>apply L2.fat;k_is;k_is;k_is;k_is)
  (case A3=>apply L2.fat;k_is;k_is;k_is;k_is)
  (case A4=>apply L2.fat;k_is;k_is;k_is;k_is)
  (case A5=>apply L2.fat;k_is;k_is;k_is;k_is)
  (case A6=>apply L2.fat;k_is;k_is;k_is;k_is)
  (case A7=>apply L2.fat;k_is;k_is;k_is;k_is)
  (case A8=>apply L2.fat;k_is;k_is;k_is;k_is)
  (case A9=>apply L2.fat;k_is;k_is;k_is;k_is)
  (case A10=>apply L2.fat;k_is;k_is;k_is;k_is)
  (case A11=>apply L2.fat;k_is;k_is;k_is;k_is)
  (case A12=>apply L2.fat;k_is;k_is;k_is;k_is)
  (case A13=>apply L2.fat;k_is;k_is;k_is;k_is)
  (case A14=>apply L2.fat;k_is;k_is;k_is;k_is)
  (case A15=>apply L2.fat;k_is;k_is;k_is;k_is)
  (case A16=>apply L2.fat;k_is;k_is;k_is;k_is)
  (case A17=>apply L2.fat;k_is;k_is;k_is;k_is)
  (case A18=>apply L2.fat;k_is;k_is;k_is;k_is)
  (case A19=>apply L2.fat;k_is;k_is;k_is;k_is)
  (case A20=>apply L2.fat;k_is;k_is;k_is;k_is)
  (case A21=>apply L2.fat;k_is;k_is;k_is;k_is)
  (case A22=>apply L2.fat;k_is;k_is;k_is;k_is)
  (case A23=>apply L2.fat;k_is;k_is;k_is;k_is)
  (case A24=>apply L2.fat;k_is;k_is;k_is;k_is)
  (case A25=>apply L2.fat;k_is;k_is;k_is;k_is)
  (case A26=>apply L2.fat;k_is;k_is;k_is;k_is)
  (case A27=>apply L2.fat;k_is;k_is;k_is;k_is)
  (case A28=>apply L2.fat;k_is;k_is;k_is;k_is)
  (case A29=>apply L2.fat;k_is;k_is;k_is;k_is)
  (case A30=>apply L2.fat;k_is;k_is;k_is;k_is)
  (case A31=>apply L2.fat;k_is;k_is;k_is;k_is)
  (case T=>constructor<;>exact mg_none_of KX G (by k_is))
  (case Z=>constructor;exact mg_of KX G (by k_is);exact mg_of KX G (by k_is);exact mg_of KX G (by k_is);exact mg_of KX G (by k_is);exact mg_of KX G (by k_is);k_is;k_is;k_is;k_is;k_is;kernel_rfl;k_is;k_is;k_is;k_exc;k_exc;k_exc;kernel_rfl;k_is;k_is;k_is;k_is;k_is;k_is;k_is;k_is;k_is;k_is;k_is;k_is;kit_is;kit_is;kit_is;kit_is;kit_is;k_is;k_is;k_is;k_is;k_is;k_is;k_is;k_is;k_is;k_is;kit_is;kit_is;kit_is;kit_is;kit_is;k_is;k_is;k_is;k_is;k_is;k_is;k_is;k_is;k_is;k_is;kit_is;kit_is;kit_is;kit_is;kit_is;k_is;k_is;k_is;k_is;k_is;k_is;k_is;k_is;k_is;k_is;kit_is;kit_is;kit_is;kit_is;kit_is)
  (case ni_Crossed=>k_is)
  (case li_Crossed=>k_is)
  (case ci_Crossed=>k_is)
  (case ki_Crossed=>k_is)
  (case ti_Crossed=>k_is)
  (case ni_NotFull=>k_is)
  (case li_NotFull=>k_is)
  (case ci_NotFull=>k_is)
  (case ki_NotFull=>k_is)
  (case ti_NotFull=>k_is)
