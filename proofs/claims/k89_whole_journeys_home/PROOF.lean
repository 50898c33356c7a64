import PyProof.Rows.All
import Wide.All
import OpenK.AllK
import Wide.FinOn
import Lean
import PyProof.EqAt
import PyProof.EqKinds
import PyProof.TupleCall
import KE.KIsAll
import KE.RegKIsAll
import PyProof.ExcArgsOwn
import PyProof.InstStoreFacts
import PyProof.Rows.MinMaxN
import PyProof.Rows.CallKwBuiltin
import KE.KMinKey
import KE.KDictOf
import PyProof.AttrMissSeq
import KE.KRevIter
import KE.KSortAsk
import PySem.Challenge.RW_friezeyard_k89_whole_journeys_home
set_option compiler.extract_closed false
noncomputable section
open PySem.W (Frag Looks callWith_K codeIn emptyDict hideAll hideAll_get hideAll_none instObj isFn keepIn kia_one kitOne lookIn mg_none_of mg_of mroIn nsIn of_hideAll plainOver specialIn takesIn)
set_option Elab.async false
set_option linter.all false
set_option maxRecDepth 100000
def ξ:=@if_neg
def ζ:=@if_pos
def η:=@Nat.le_refl
def θ:=@Bool.false_ne_true
def χ:=@List.length_append
namespace L2
open PySem PySem.Spec PyProof.Rows
def δ:=@wpAny_bind
def γ:=@wpS_bind
def ω:=@wpAny_pure
def τ:=@Heap.get?_push_of_some
def π:=@Heap.lt_size
def Ψ:=@Heap.get?_push_size
abbrev Key:=Sum Int Str
noncomputable def Y0:Key->Value->Bool
 | .inl k,v=>Value.isInt k v
 | .inr x,v=>Value.isStrOf x v
noncomputable def y1y (w:World):Key->Int
 | .inl k=>hashInt k
 | .inr x=>hashStr w x
theorem N3:∀{k:Key} {v:Value},Y0 k v=true->(∃i t,k=Sum.inl i/\v=Value.int i t)\/(∃x t,k=Sum.inr x/\v=Value.str x t)
 | .inl i,v,h=>by obtain ⟨t,e⟩:=Value.isInt_shape (k:=i) (v:=v) h;exact .inl ⟨i,t,rfl,e⟩
 | .inr x,v,h=>by obtain ⟨t,e⟩:=Value.isStrOf_shape (x:=x) (v:=v) h;exact .inr ⟨x,t,rfl,e⟩
theorem yq (i:Int) (t:Tok):Y0 (.inl i) (.int i t)=true:=by simp [Y0,Value.isInt]
theorem yp (x:Str) (t:Tok):Y0 (.inr x) (.str x t)=true:=by simp [Y0,Value.isStrOf]
theorem ql (a b:Int):decide ((Sum.inl a:Key)=Sum.inl b)=(a==b):=by
 by_cases e:a=b
 . subst e;simp
 . have h:¬(Sum.inl a:Key)=Sum.inl b:=fun q=>e (Sum.inl.inj q)
   rw [decide_eq_false h];exact (beq_eq_false_iff_ne.mpr e).symm
theorem qk (a b:Str):decide ((Sum.inr a:Key)=Sum.inr b)=decide (a=b):=by
 by_cases e:a=b
 . subst e;simp
 . have h:¬(Sum.inr a:Key)=Sum.inr b:=fun q=>e (Sum.inr.inj q)
   rw [decide_eq_false h,decide_eq_false e]
theorem qh (a:Int) (b:Str):decide ((Sum.inl a:Key)=Sum.inr b)=false:=decide_eq_false (fun q=>nomatch q)
theorem qf (a:Str) (b:Int):decide ((Sum.inr a:Key)=Sum.inl b)=false:=decide_eq_false (fun q=>nomatch q)
def G9 (prog:Program) (w:World):PySem.KeyKind prog w Key where
 is:=Y0
 hash:=y1y w
 inj:=fun v a b ha hb=>by
  rcases N3 ha with ⟨i,t,rfl,rfl⟩ | ⟨x,t,rfl,rfl⟩
  . rcases N3 hb with ⟨j,u,rfl,e⟩ | ⟨y,u,rfl,e⟩
    . injection e with e1 _;rw [e1]
    . exact nomatch e
  . rcases N3 hb with ⟨j,u,rfl,e⟩ | ⟨y,u,rfl,e⟩
    . exact nomatch e
    . injection e with e1 _;rw [e1]
 byValue:=fun k v h=>by rcases N3 h with ⟨i,t,rfl,rfl⟩ | ⟨x,t,rfl,rfl⟩<;>rfl
 pyHash:=fun hv h=>by
  rcases N3 hv with ⟨i,t,rfl,rfl⟩ | ⟨x,t,rfl,rfl⟩
  . exact wpAny_pyHash_int h
  . exact wpAny_pyHash_str h
 eqBool:=fun hu hv h=>by
  rcases N3 hu with ⟨i,t,rfl,rfl⟩ | ⟨x,t,rfl,rfl⟩
  . rcases N3 hv with ⟨j,u,rfl,rfl⟩ | ⟨y,u,rfl,rfl⟩
    . rw [ql] at h;exact wpAny_eqBool_int h
    . rw [qh] at h;exact SeqAt.EqAt.int_str i t y u _ _ _ _ h
  . rcases N3 hv with ⟨j,u,rfl,rfl⟩ | ⟨y,u,rfl,rfl⟩
    . rw [qf] at h;exact SeqAt.EqAt.str_int x t j u _ _ _ _ h
    . rw [qk] at h;exact wpAny_eqBool_str h
 «strs»:=fun k x t v h=>by
  rcases N3 h with ⟨i,u,rfl,e⟩ | ⟨y,u,rfl,e⟩
  . exact nomatch e
  . injection e with e1 _;subst e1;cases v<;>rfl
theorem yZ (prog:Program) (w:World) (i:Int) (t:Tok):(G9 prog w).is (.inl i) (.int i t)=true:=yq i t
theorem yY (prog:Program) (w:World) (x:Str) (t:Tok):(G9 prog w).is (.inr x) (.str x t)=true:=yp x t
inductive V where
 | non | bl (b:Bool) | int (i:Int) | str (x:Str) | byt (b:Array UInt8) | flt (b:UInt64) | ref (a:Addr) | ty (n:String)
 deriving DecidableEq
def RelV:V->Value->Prop
 | .non,u=>u=Value.none
 | .bl b,u=>u=Value.bool b
 | .int i,u=>∃t,u=Value.int i t
 | .str x,u=>∃t,u=Value.str x t
 | .byt b,u=>∃t,u=Value.bytes b t
 | .flt b,u=>∃t,u=Value.float b t
 | .ref a,u=>u=Value.ref a
 | .ty n,u=>u=Value.type n
abbrev Vals:List V->List Value->Prop:=Paired RelV
theorem Vals.length (r:Vals xs us):xs.length=us.length:=Paired.length r
theorem Vals.get:∀{xs:List V} {us:List Value} {i:Nat} {x:V},Vals xs us->xs[i]?=some x->∃u,us[i]?=some u/\RelV x u
 | _,_,_,_,.nil,e=>by simp at e
 | _,_,0,_,.cons r _,e=>by simp at e;subst e;exact ⟨_,rfl,r⟩
 | _,_,i+1,x,.cons _ t,e=>by obtain ⟨u,h1,h2⟩:=Vals.get (i:=i) (x:=x) t (by simpa using e);exact ⟨u,by simpa using h1,h2⟩
theorem Vals.set (r:RelV x u):∀{xs:List V} {us:List Value} (i:Nat),Vals xs us->Vals (xs.set i x) (us.set i u)
 | _,_,_,.nil=>.nil
 | _,_,0,.cons _ t=>.cons r t
 | _,_,i+1,.cons q t=>.cons q (Vals.set r i t)
theorem Vals.append:∀{xs ys:List V} {us ws:List Value},Vals xs us->Vals ys ws->Vals (xs++ys) (us++ws)
 | _,_,_,_,.nil,s=>s
 | _,_,_,_,.cons r t,s=>.cons r (Vals.append t s)
theorem Vals.take:∀{xs:List V} {us:List Value} (n:Nat),Vals xs us->Vals (xs.take n) (us.take n)
 | _,_,0,_=>.nil
 | _,_,_+1,.nil=>.nil
 | _,_,n+1,.cons r t=>.cons r (Vals.take n t)
theorem Vals.drop:∀{xs:List V} {us:List Value} (n:Nat),Vals xs us->Vals (xs.drop n) (us.drop n)
 | _,_,0,r=>r
 | _,_,_+1,.nil=>.nil
 | _,_,n+1,.cons _ t=>Vals.drop n t
def RelO:Option V->Option Value->Prop
 | some v,some u=>RelV v u
 | none,none=>True
 | _,_=>False
def KV {κ:Type}:List (κ×V)->List (κ×Value)->Prop:=Paired fun (p:κ×V) (q:κ×Value)=>p.1=q.1/\RelV p.2 q.2
noncomputable def kV:Key->V
 | .inl i=>.int i
 | .inr x=>.str x
def IsTp (h:Heap) (a:Addr) (its:Array Value):Prop:=∃o,h.get? a=some o/\o.cls=.type "tuple"/\(∃n,o.data=.seq its n)/\o.dict=none
theorem IsTp.tup (p:IsTp h a its):IsTup h a its:=by obtain ⟨o,e,c,d,_⟩:=p;exact ⟨o,e,c,d⟩
theorem IsTp.lt (p:IsTp h a its):a<h.objs.size:=by obtain ⟨o,e,_⟩:=p;exact π e
theorem IsTp.mk' (e:h.get? a=some { cls:=.type "tuple",data:=.seq its n,slots:=sl }):IsTp h a its:=⟨_,e,rfl,⟨n,rfl⟩,rfl⟩
inductive HO where
 /-- a list -/
 | lst (xs:List V)
 /-- a tuple (never changes) -/
 | tup (xs:List V)
 /-- a dict whose keys are ints and texts;one whose keys are tuples of ints and texts (the empty one is both) -/
 | dK (kvs:List (Key×V)) | dT (kvs:List (List Key×V))
 /-- a set of ints: its members,its size -/
 | set (S:Int->Bool) (n:Nat)
 /-- an instance of the class at C,its dict at dx,its attributes -/
 | ins (C dx:Addr) (fs:List (Str×V))
 /-- the dict of the instance at x -/
 | own (x:Addr)
 /-- the dict of an exception -/
 | xd (fs:List (Str×V))
 /-- a bound method,f of x -/
 | met (f x:Addr)
 /-- a range object lo,lo+1,.. below hi -/
 | rng (lo hi:Int)
 /-- a thing that is known to the object (the script;a dict while a loop walks it): read,never written while it is so -/
 | frz (o:Obj) (u:HO)
 /-- a code object's table -/
 | tbl (ps:Array Value)
 /-- the table of a def that makes lambdas,all of the qualname q -/
 | ctb (q:Str)
 /-- any other thing,by what is true of its one object (a def of one's own: SetO a S n:=HO.ext fun h=>..) -/
 | ext (φ:Heap->Prop)
abbrev Hp:=Addr->Option HO
noncomputable def upd (H:Hp) (a:Addr) (o:HO):Hp:=fun b=>if b=a then some o else H b
theorem u8:upd H a o a=some o:=by unfold upd;rw [ζ rfl]
theorem m9 (h:b≠a):upd H a o b=H b:=by unfold upd;rw [ξ h]
theorem E7 {H:Hp} {a b:Addr} {o:HO} (h:H a=some o) (h':H b=none):a≠b:=by intro e;subst e;rw [h] at h';cases h'
section
variable (P:Program) (w:World)
def ObjOk (H:Hp) (h:Heap) (a:Addr):HO->Prop
 | .lst xs=>xs.length<=sizeLine/\∃(its:List Value) (n:Nat),Vals xs its/\h.get? a=some { cls:=.type "list",data:=.seq its.toArray n }
 | .tup xs=>xs.length<=sizeLine/\∃its:List Value,Vals xs its/\IsTp h a its.toArray
 | .dK kvs=>kvs.length<=sizeLine/\(a==sysModules)=false/\∃vs,KV kvs vs/\h.DictOf (G9 P w) a vs
 | .dT kvs=>kvs.length<=sizeLine/\(a==sysModules)=false/\∃xs:List (List Key×Addr×Value),
  Paired (fun (p:List Key×V) (q:List Key×Addr×Value)=>p.1=q.1/\H q.2.1=some (.tup (p.1.map kV))/\RelV p.2 q.2.2) kvs xs /\
  ∃o es ep,h.get? a=some o/\o.ExactDict/\o.data=.dict es ep/\es.toList=xs.map (entryOfKey (tupleKind (G9 P w)))/\(xs.map (·.1)).Nodup
 | .set S n=>h.SetOf (intKind P w) a S n
 | .ins C dx fs=>H dx=some (.own a)/\fs.length<=1000/\dx≠a/\h.get? a=some (instObj C dx) /\
  ∃mA,h.Ns1 dx mA/\(∀f,RelO (fs.lookup f) (mA f))/\PySem.Within mA (fs.map (·.1))
 | .own _=>∃o,h.get? a=some o
 | .xd fs=>∃mA,h.Ns1 a mA/\∀f,RelO (fs.lookup f) (mA f)
 | .rng lo hi=>∃t u v,h.get? a=some { cls:=.type "range",data:=.fields #[.int lo t,.int hi u,.int 1 v] }
 | .frz o u=>h.get? a=some o/\ObjOk H h a u
 | .tbl ps=>h.get? a=some { cls:=.none,data:=.fields ps }
 | .ctb q=>∃ps:Array Value,h.get? a=some { cls:=.none,data:=.fields ps }/\TriplesOk ps.toList/\∀(pos:Pos) (v:Value),codeAmong pos ps.toList=some v->∃c,v=.ref c/\H c=some (.own a)/\h.CodeRec (.ref c) q
 | .met f x=>h.get? a=some (PySem.W.methodObj (.ref f) (.ref x))
 | .ext φ=>φ h/\(∃o,h.get? a=some o)/\∀h1 h2:Heap,φ h1->(∀o,h1.get? a=some o->h2.get? a=some o)->φ h2
def HOk (H:Hp) (h:Heap):Prop:=∀a o,H a=some o->ObjOk P w H h a o
end
section
variable {P:Program} {w:World} {H H':Hp} {h h':Heap} {a:Addr} {o:HO}
theorem ObjOk.lt (x:ObjOk P w H h a o):a<h.objs.size:=by
 cases o with
 | lst xs=>obtain ⟨_,_,_,_,e⟩:=x;exact π e
 | tup xs=>obtain ⟨_,_,_,p⟩:=x;exact p.lt
 | dK kvs=>obtain ⟨_,_,_,_,o,_,_,e,_⟩:=x;exact π e
 | dT kvs=>obtain ⟨_,_,_,_,o,_,_,e,_⟩:=x;exact π e
 | set S n=>obtain ⟨o,_,_,_,e,_⟩:=x;exact π e
 | ins C dx fs=>obtain ⟨_,_,_,e,_⟩:=x;exact π e
 | own y=>obtain ⟨_,e⟩:=x;exact π e
 | xd fs=>obtain ⟨_,⟨_,_,_,e,_⟩,_⟩:=x;exact π e
 | rng lo hi=>obtain ⟨_,_,_,e⟩:=x;exact π e
 | frz ob u=>obtain ⟨e,_⟩:=x;exact π e
 | tbl ps=>exact π (show h.get? a=some _ from x)
 | ctb q=>obtain ⟨_,e,_⟩:=x;exact π e
 | met f y=>exact π (show h.get? a=some _ from x)
 | ext φ=>obtain ⟨_,⟨_,e⟩,_⟩:=x;exact π e
theorem Paired.mapP:∀{l₁:List α} {l₂:List β},Paired F l₁ l₂->(∀a b,F a b->G a b)->Paired G l₁ l₂
 | _,_,.nil,_=>.nil
 | _,_,.cons r t,f=>.cons (f _ _ r) (Paired.mapP t f)
theorem ObjOk.stay (x:ObjOk P w H h a o) (k:∀b u,(b=a\/H b=some (.own a))->h.get? b=some u->h'.get? b=some u)
  (ho:∀b,H b=some (.own a)->H' b=some (.own a)) (ht:∀b xs,H b=some (.tup xs)->H' b=some (.tup xs)):ObjOk P w H' h' a o:=by
 induction o with
 | lst xs=>obtain ⟨z,its,n,r,e⟩:=x;exact ⟨z,its,n,r,k _ _ (.inl rfl) e⟩
 | tup xs=>obtain ⟨z,its,r,ob,e,c⟩:=x;exact ⟨z,its,r,ob,k _ _ (.inl rfl) e,c⟩
 | dK kvs=>obtain ⟨z,y,vs,r,ob,es,ep,e,c⟩:=x;exact ⟨z,y,vs,r,ob,es,ep,k _ _ (.inl rfl) e,c⟩
 | dT kvs=>
  obtain ⟨z,y,xs,r,ob,es,ep,e,c⟩:=x
  exact ⟨z,y,xs,Paired.mapP r fun p q z=>⟨z.1,ht _ _ z.2.1,z.2.2⟩,ob,es,ep,k _ _ (.inl rfl) e,c⟩
 | set S n=>obtain ⟨ob,es,ep,t,e,c⟩:=x;exact ⟨ob,es,ep,t,k _ _ (.inl rfl) e,c⟩
 | ins C dx fs=>
  obtain ⟨d,z,ne,e,mA,⟨od,es,ep,e2,c⟩,r⟩:=x
  exact ⟨ho _ d,z,ne,k _ _ (.inl rfl) e,mA,⟨od,es,ep,k _ _ (.inr d) e2,c⟩,r⟩
 | own y=>obtain ⟨ob,e⟩:=x;exact ⟨ob,k _ _ (.inl rfl) e⟩
 | xd fs=>obtain ⟨mA,⟨od,es,ep,e,c⟩,r⟩:=x;exact ⟨mA,⟨od,es,ep,k _ _ (.inl rfl) e,c⟩,r⟩
 | rng lo hi=>obtain ⟨t,u,v,e⟩:=x;exact ⟨t,u,v,k _ _ (.inl rfl) e⟩
 | frz ob u ih=>obtain ⟨e,q⟩:=x;exact ⟨k _ _ (.inl rfl) e,ih q⟩
 | tbl ps=>
  have e:h.get? a=some { cls:=.none,data:=.fields ps }:=x
  show h'.get? a=some { cls:=.none,data:=.fields ps }
  exact k a _ (.inl rfl) e
 | ctb q=>
  obtain ⟨ps,e,t,c⟩:=x
  refine ⟨ps,k _ _ (.inl rfl) e,t,fun pos v hb=>?_⟩
  obtain ⟨b,rfl,z,c2,oc,vs,tq,e1,e2,e3⟩:=c pos v hb
  cases e1
  exact ⟨b,rfl,ho _ z,b,oc,vs,tq,rfl,k _ _ (.inr z) e2,e3⟩
 | met f y=>
  have e:h.get? a=some (PySem.W.methodObj (.ref f) (.ref y)):=x
  show h'.get? a=some (PySem.W.methodObj (.ref f) (.ref y))
  exact k a _ (.inl rfl) e
 | ext φ=>obtain ⟨p,⟨o,e⟩,st⟩:=x;exact ⟨st _ _ p fun o q=>k _ _ (.inl rfl) q,⟨o,k _ _ (.inl rfl) e⟩,st⟩
theorem HOk.lt (x:HOk P w H h) (e:H a=some o):a<h.objs.size:=(x a o e).lt
theorem HOk.fresh (x:HOk P w H h) (e:h.objs.size<=a):H a=none:=by
 cases q:H a with
 | none=>rfl
 | some u=>exact absurd (Nat.lt_of_lt_of_le (x.lt q) e) (Nat.lt_irrefl _)
theorem HOk.kept (x:HOk P w H h) (k:∀b u,h.get? b=some u->h'.get? b=some u):HOk P w H h':=fun a o e=>
 (x a o e).stay (fun b u _ q=>k b u q) (fun _ q=>q) fun _ _ q=>q
theorem HOk.laid (x:HOk P w H h) (k:∀b u,h.get? b=some u->h'.get? b=some u) (hp:h.objs.size<=a) (new:ObjOk P w (upd H a o) h' a o):HOk P w (upd H a o) h':=fun b u e=>by
 have hn:=x.fresh hp;by_cases hb:b=a
 . subst hb;rw [u8] at e;cases e;exact new
 . rw [m9 hb] at e;exact (x b u e).stay (fun c v _ q=>k c v q) (fun c q=>by rw [m9 (E7 q hn)];exact q) fun c xs q=>by rw [m9 (E7 q hn)];exact q
end
def Rd (H:Hp) (a:Addr) (u:HO):Prop:=H a=some u\/∃o,H a=some (.frz o u)
theorem Rd.of (h:H a=some u):Rd H a u:=.inl h
theorem Rd.ok (r:Rd H a u) (x:HOk P w H h):ObjOk P w H h a u:=by
 rcases r with r | ⟨o,r⟩
 . exact x a u r
 . obtain ⟨_,q⟩:=x a _ r;exact q
def Mut:Option HO->Prop
 | some (.lst _)=>True
 | some (.dK _)=>True
 | some (.dT _)=>True
 | some (.set _ _)=>True
 | some (.ins _ _ _)=>True
 | some (.ext _)=>True
 | _=>False
section
variable {P:Program} {w:World} {H:Hp} {h h':Heap} {x e:Addr} {o':HO}
theorem HOk.write (ok:HOk P w H h) (mu:Mut (H x)) (he:e=x\/H e=some (.own x)) (k:∀b u,b≠e->h.get? b=some u->h'.get? b=some u) (heo:∃u,h'.get? e=some u)
  (new:ObjOk P w (upd H x o') h' x o'):HOk P w (upd H x o') h':=fun b u q=>by
 have nown:∀c y,H c=some (.own y)->c≠x:=fun c y r z=>by subst z;rw [r] at mu;exact mu
 have ntup:∀c xs,H c=some (.tup xs)->c≠x:=fun c xs r z=>by subst z;rw [r] at mu;exact mu
 by_cases hb:b=x
 . subst hb;rw [u8] at q;cases q;exact new
 . rw [m9 hb] at q;by_cases hbe:b=e
   . have q':H b=some (.own x):=by
      rcases he with z | z
      . exact absurd (hbe.trans z) hb
      . rw [hbe];exact z
     rw [q] at q';cases q'
     obtain ⟨v,hv⟩:=heo
     exact ⟨v,by rw [hbe];exact hv⟩
   . refine (ok b u q).stay (fun c v hc r=>k c v ?_ r) (fun c r=>by rw [m9 (nown c b r)];exact r) fun c xs r=>by rw [m9 (ntup c xs r)];exact r
     rcases hc with rfl | hc
     . exact hbe
     . rintro rfl;rcases he with z | z
       . exact nown c b hc z
       . rw [hc] at z;cases z;exact hb rfl
end
structure Un (fs ex:List Addr) (H H':Hp) (h h':Heap):Prop where
 keep:∀b o,h.get? b=some o->H b=none->b∉fs->b∉ex->h'.get? b=some o
 slot:∀b o,h.get? b=some o->H b=none->b∈fs->b∉ex->∃sl,h'.get? b=some { o with slots:=sl }
 free:∀b o,h.get? b=some o->H b=none->b∉ex->H' b=none
 there:∀b o,h.get? b=some o->b∉ex->∃o',h'.get? b=some o'
 tups:∀b xs,H b=some (.tup xs)->H' b=some (.tup xs)
 frzs:∀b o u,H b=some (.frz o u)->H' b=some (.frz o u)
 tbls:∀b ps,H b=some (.tbl ps)->∃more,H' b=some (.tbl (ps++more))
section
variable {fs ex:List Addr} {H H1 H2:Hp} {h h1 h2 h':Heap} {a x e:Addr} {o:HO}
theorem Un.any (u:Un fs ex H H1 h h1) (q:h.get? b=some ob) (n:H b=none) (hx:b∉ex):∃sl,h1.get? b=some { ob with slots:=sl }:=by
 by_cases hb:b∈fs
 . exact u.slot b ob q n hb hx
 . exact ⟨ob.slots,u.keep b ob q n hb hx⟩
theorem Un.trans (a:Un fs ex H H1 h h1) (b:Un fs ex H1 H2 h1 h2):Un fs ex H H2 h h2 where
 keep:=fun c ob q n hc hx=>b.keep c ob (a.keep c ob q n hc hx) (a.free c ob q n hx) hc hx
 slot:=fun c ob q n hc hx=>by obtain ⟨sl,e1⟩:=a.slot c ob q n hc hx;obtain ⟨sl',e2⟩:=b.slot c _ e1 (a.free c ob q n hx) hc hx;exact ⟨sl',e2⟩
 free:=fun c ob q n hx=>by obtain ⟨o',e1⟩:=a.there c ob q hx;exact b.free c o' e1 (a.free c ob q n hx) hx
 there:=fun c ob q hx=>by obtain ⟨o',e1⟩:=a.there c ob q hx;exact b.there c o' e1 hx
 tups:=fun c xs q=>b.tups c xs (a.tups c xs q)
 frzs:=fun c ob xs q=>b.frzs c ob xs (a.frzs c ob xs q)
 tbls:=fun c ps q=>by obtain ⟨m1,e1⟩:=a.tbls c ps q;obtain ⟨m2,e2⟩:=b.tbls c _ e1;exact ⟨m1++m2,by rw [e2,Array.append_assoc]⟩
theorem Un.kept (k:∀b u,h.get? b=some u->h'.get? b=some u):Un fs ex H H h h':=
 ⟨fun b ob q _ _ _=>k b ob q,fun b ob q _ _ _=>⟨ob.slots,k b ob q⟩,fun _ _ _ n _=>n,fun b ob q _=>⟨ob,k b ob q⟩,fun _ _ q=>q,fun _ _ _ q=>q,fun _ ps q=>⟨#[],by rw [q];simp⟩⟩
theorem Un.refl:Un fs ex H H h h:=Un.kept fun _ _ q=>q
theorem Un.laid (k:∀b u,h.get? b=some u->h'.get? b=some u) (hp:h.objs.size<=a) (hn:H a=none):Un fs ex H (upd H a o) h h' where
 keep:=fun b u q _ _ _=>k b u q
 slot:=fun b u q _ _ _=>⟨u.slots,k b u q⟩
 free:=fun b u q n _=>by rw [m9 (Nat.ne_of_lt (Nat.lt_of_lt_of_le (π q) hp))];exact n
 there:=fun b u q _=>⟨u,k b u q⟩
 tups:=fun b xs q=>by rw [m9 (E7 q hn)];exact q
 frzs:=fun b u xs q=>by rw [m9 (E7 q hn)];exact q
 tbls:=fun b ps q=>⟨#[],by rw [m9 (E7 q hn),q];simp⟩
theorem Un.write (mu:Mut (H x)) (he:e=x\/H e=some (.own x)) (k:∀b u,b≠e->h.get? b=some u->h'.get? b=some u) (heo:∃u,h'.get? e=some u):Un fs ex H (upd H x o) h h':=by
 have hx:∀b,H b=none->b≠x:=fun b n z=>by subst z;rw [n] at mu;exact mu
 have hb:∀b,H b=none->b≠e:=fun b n z=>by
  subst z;rcases he with r | r
  . exact hx b n r
  . rw [n] at r;cases r
 have hm:∀b u,H b=some u->¬Mut (some u)->b≠x:=fun b u q nm z=>by subst z;rw [q] at mu;exact nm mu
 refine ⟨fun b u q n _ _=>k b u (hb b n) q,fun b u q n _ _=>⟨u.slots,k b u (hb b n) q⟩,fun b u q n _=>by rw [m9 (hx b n)];exact n,fun b u q _=>?_,
  fun b xs q=>by rw [m9 (hm b _ q fun z=>z)];exact q,fun b u xs q=>by rw [m9 (hm b _ q fun z=>z)];exact q,fun b ps q=>⟨#[],by rw [m9 (hm b _ q fun z=>z),q];simp⟩⟩
 by_cases hbe:b=e
 . subst hbe;exact heo
 . exact ⟨u,k b u hbe q⟩
end
noncomputable def trk (h:Heap) (H:Hp):List Addr:=(List.range h.objs.size).filter fun a=>(H a).isSome
def L8 (h:Heap) (H:Hp):Heap:=hideAll h (trk h H)
theorem yo (h:Heap) (H:Hp):(L8 h H).objs.size=h.objs.size:=PySem.W.hideAll_size _ _
theorem xC (e:h.get? b=some o) (n:H b=none):(L8 h H).get? b=some o:=
 hideAll_get _ e fun hm=>by have q:(H b).isSome=true:=(List.mem_filter.mp hm).2;rw [n] at q;simp at q
theorem we (e:(L8 h H).get? b=some o):h.get? b=some o/\H b=none:=by
 have e':h.get? b=some o:=of_hideAll (trk h H) e;refine ⟨e',?_⟩;cases q:H b with
 | none=>rfl
 | some x=>
  have hm:b∈trk h H:=List.mem_filter.mpr ⟨List.mem_range.mpr (π e'),by simp [q]⟩
  have z:(L8 h H).get? b=none:=hideAll_none (trk h H) hm
  rw [z] at e;cases e
noncomputable def Dt (g h:Heap) (L:Addr):List (Addr×Obj):=(List.range h.objs.size).filterMap fun a=>if a=L\/(g.get? a).isSome=true then none else (h.get? a).map fun o=>(a,o)
theorem yX (h1:a≠L) (h2:g.get? a=none) (h3:h.get? a=some o):(a,o)∈Dt g h L:=
 List.mem_filterMap.mpr ⟨a,List.mem_range.mpr (π h3),by simp [h1,h2,h3]⟩
theorem zR (hp:p∈Dt g h L):p.1≠L/\g.get? p.1=none/\h.get? p.1=some p.2:=by
 obtain ⟨b,_,e⟩:=List.mem_filterMap.mp hp;split at e
 . cases e
 . rename_i hn;cases q:h.get? b with
   | none=>rw [q] at e;simp at e
   | some u=>
    rw [q] at e
    simp only [Option.map_some,Option.some.injEq] at e
    subst e
    refine ⟨fun z=>hn (.inl z),?_,q⟩
    show g.get? b=none
    cases r:g.get? b with
    | none=>rfl
    | some v=>exact (hn (.inr (by simp [r]))).elim
def rest (g h:Heap) (L d:Addr):List (Addr×Obj):=(Dt g h L).filter fun p=>decide (p.1≠d)
theorem Dx:News g L h (Dt g h L):=fun p hp=>let ⟨a,b,c⟩:=zR hp;⟨c,a,b⟩
structure Mod (K:Frag) (mg:Str->Option Value) (base:Heap):Prop where
 kin:K.In base
 glob:base.Ns mainGlobals mg
 blt:∃mb,base.Ns builtinsNs mb/\∀x:Str,x≠"__name__"->mb x=bootBuiltins x
 nolimit:base.NoLimit
structure Cx where
 prog:Program
 w:World
 K:Frag
 mg:Str->Option Value
 base:Heap
 A:Around
 N:List Str
 s₀:Shared
 H₀:Hp
 env:Env
 outer:List Env
 stack:List Env
 ex:List Addr
 fn:Str->Bool
 calm:Bool
 pn:List (Addr×Obj)
 xe:Value->Shared->Prop
noncomputable def frs (l:List Env):List Addr:=l.filterMap (·.frame)
abbrev Cx.fs (X:Cx):List Addr:=frs X.outer
def Vis (sc:Scope) (x:Str):Prop:=sc.names.lookup x=some .local\/sc.names.lookup x=some .cell\/sc.names.lookup x=some .free
def Loc (sc:Scope) (x:Str):Prop:=sc.names.lookup x=some .local\/sc.names.lookup x=some .cell
def y1z (env:Env) (h:Heap) (m:Str->Option Value) (x:Str) (u:Value):Prop:=
 (env.kindOf x=some .local/\m x=some u)\/((env.kindOf x=some .cell\/env.kindOf x=some .free)/\∃c,env.cells.lookup x=some c/\h.IsCell c (some u))
structure Cx.Ok (X:Cx):Prop where
 mod:Mod X.K X.mg X.base
 kind:X.env.scope.kind=.function
 glob:X.env.globals=mainGlobals
 blt:X.env.builtins=builtinsNs
 above:X.s₀.heap.objs.size<=X.env.locals
 inj:∀x y c,X.env.cells.lookup x=some c->X.env.cells.lookup y=some c->x=y
 has:∀x,(X.env.kindOf x=some .cell\/X.env.kindOf x=some .free)->∃c,X.env.cells.lookup x=some c
 cab:∀x c,X.fn x=true->X.env.cells.lookup x=some c->X.s₀.heap.objs.size<=c
 hd:X.calm=true->X.A.handled=none
 frames:X.A.frames=some X.stack
 stk:X.stack=X.outer\/(X.stack=X.env::X.outer/\X.env.frame=some X.env.locals)
 exf:∀b∈X.ex,b≠X.env.locals/\∀x c,X.env.cells.lookup x=some c->c≠b
 bs:∀b o,X.base.get? b=some o->X.s₀.heap.get? b=some o/\X.H₀ b=none
 bsz:X.base.objs.size<=X.s₀.heap.objs.size
 noex:∀b o,X.base.get? b=some o->b∉X.ex
 exfs:∀b∈X.ex,b∉X.fs
 funs:X.s₀.heap.FunFrames X.base X.outer
 frf:∀b∈X.fs,X.H₀ b=none
structure Inv (X:Cx) (pins:List (Addr×Obj)) (U:List (Option V)) (H:Hp) (s:Shared):Prop where
 ok:X.Ok
 os:s.os=X.s₀.os
 bare:AllBare s.gens
 base:Un X.fs X.ex X.H₀ H X.s₀.heap s.heap
 loc:∃m,s.heap.Ns X.env.locals m/\∀(i:Nat) (x:Str) (v:V),X.N[i]?=some x->U[i]?=some (some v)->Vis X.env.scope x->∃u,RelV v u/\y1z X.env s.heap m x u
 cell:∀x c,X.env.cells.lookup x=some c->∃v,s.heap.IsCell c v
 free:H X.env.locals=none
 freeC:∀x c,X.env.cells.lookup x=some c->H c=none
 pin:∀p∈X.pn++pins,s.heap.get? p.1=some p.2/\H p.1=none/\p.1≠X.env.locals/\p.1∉X.fs/\∀v,p.2.data≠.cell v
 hok:HOk X.prog X.w H s.heap
 len:U.length=X.N.length
section
variable {X:Cx} {pins:List (Addr×Obj)} {U:List (Option V)} {H H':Hp} {s:Shared} {h':Heap}
theorem Cx.Ok.nofr (ok:X.Ok) (e:X.base.get? b=some o):b∉X.fs:=fun hb=>by have:=(ok.funs.mem hb).1;rw [e] at this;cases this
theorem Inv.bs (I:Inv X pins U H s):∀b o,X.base.get? b=some o->s.heap.get? b=some o/\H b=none:=fun b o e=>
 ⟨I.base.keep b o (I.ok.bs b o e).1 (I.ok.bs b o e).2 (I.ok.nofr e) (I.ok.noex b o e),I.base.free b o (I.ok.bs b o e).1 (I.ok.bs b o e).2 (I.ok.noex b o e)⟩
theorem Inv.bk (I:Inv X pins U H s):∀b o,X.base.get? b=some o->s.heap.get? b=some o:=fun b o e=>(I.bs b o e).1
theorem Inv.mod (I:Inv X pins U H s):Mod X.K X.mg X.base:=I.ok.mod
theorem Inv.kIn (I:Inv X pins U H s):X.K.In s.heap:=I.ok.mod.kin.keeps I.bk
theorem Inv.lt (I:Inv X pins U H s):X.env.locals<s.heap.objs.size:=let ⟨_,hn,_⟩:=I.loc;hn.lt
theorem Inv.sz (I:Inv X pins U H s):X.s₀.heap.objs.size<=s.heap.objs.size:=Nat.le_trans I.ok.above (Nat.le_of_lt I.lt)
theorem Inv.nofs (I:Inv X pins U H s) (h:s.heap.objs.size<=a):a∉X.fs:=fun hb=>by obtain ⟨_,o,ho,_⟩:=I.ok.funs.mem hb;exact absurd (Nat.lt_of_lt_of_le (π ho) (Nat.le_trans I.sz h)) (Nat.lt_irrefl _)
theorem Inv.cne (I:Inv X pins U H s):∀x c,X.env.cells.lookup x=some c->c≠X.env.locals:=fun x c e z=>by obtain ⟨v,o,ho,hd⟩:=I.cell x c e;obtain ⟨m,⟨o',es,ep,ho',hd',_⟩,_⟩:=I.loc;rw [z,ho'] at ho;cases ho;rw [hd'] at hd;cases hd
theorem Inv.funs (I:Inv X pins U H s):s.heap.FunFrames X.base X.outer:=by
 have all:∀(l:List Env),(∀b∈frs l,b∈X.fs)->X.s₀.heap.FunFrames X.base l->s.heap.FunFrames X.base l:=by
  intro l;induction l with
  | nil=>intro _ _;trivial
  | cons env r ih=>
   intro hs hl
   obtain ⟨hk,⟨L,o,hf,hn,ho,hd⟩,hr⟩:=hl
   have hL:L∈X.fs:=hs L (by unfold frs;rw [List.filterMap_cons,hf];exact List.mem_cons_self)
   obtain ⟨sl,e⟩:=I.base.slot L o ho (I.ok.frf L hL) hL fun z=>I.ok.exfs L z hL
   exact ⟨hk,⟨L,_,hf,hn,e,hd⟩,ih (fun b hb=>hs b (by unfold frs;rw [List.filterMap_cons,hf];exact List.mem_cons_of_mem _ hb)) hr⟩
 exact all X.outer (fun _ hb=>hb) I.ok.funs
theorem Inv.stack (I:Inv X pins U H s):s.heap.FunFrames X.base X.stack:=by
 rcases I.ok.stk with e | ⟨e,hf⟩
 . rw [e];exact I.funs
 . rw [e];obtain ⟨m,hn,_⟩:=I.loc;refine .cons (by rw [I.ok.kind];decide) hf hn ?_ I.funs;exact Heap.get?_none_of_le (Nat.le_trans I.ok.bsz I.ok.above)
theorem Inv.stkSub (I:Inv X pins U H s):∀b∈frs X.stack,b∈X.env.locals::X.fs:=fun b hb=>by
 rcases I.ok.stk with e | ⟨e,hf⟩
 . rw [e] at hb;exact List.mem_cons_of_mem _ hb
 . rw [e] at hb;unfold frs at hb;rw [List.filterMap_cons,hf] at hb;exact hb
theorem Inv.stkFree (I:Inv X pins U H s):∀b∈frs X.stack,H b=none:=fun b hb=>by
 rcases List.mem_cons.mp (I.stkSub b hb) with e | hb
 . rw [e];exact I.free
 . obtain ⟨_,o,ho,_⟩:=I.ok.funs.mem hb;exact I.base.free b o ho (I.ok.frf b hb) fun z=>I.ok.exfs b z hb
theorem Inv.step {g':Array GenState} {t':Nat} {d':Drawn} {ch:List Addr} (I:Inv X pins U H s)
  (hch:∀b∈ch,(b∈X.ex\/X.s₀.heap.objs.size<=b)/\b≠X.env.locals/\(∀x c,X.env.cells.lookup x=some c->c≠b)/\∀p∈X.pn++pins,p.1≠b)
  (keep:∀b o,b≠X.env.locals->b∉X.fs->b∉ch->s.heap.get? b=some o->H b=none->h'.get? b=some o)
  (slot:∀b o,b≠X.env.locals->b∈X.fs->b∉ch->s.heap.get? b=some o->H b=none->∃sl,h'.get? b=some { o with slots:=sl }) (free:∀b o,b∉ch->s.heap.get? b=some o->H b=none->H' b=none)
  (there:∀b o,b∉ch->s.heap.get? b=some o->∃o',h'.get? b=some o')
  (tups:∀b xs,H b=some (.tup xs)->H' b=some (.tup xs)) (frzs:∀b o u,H b=some (.frz o u)->H' b=some (.frz o u)) (tbls:∀b ps,H b=some (.tbl ps)->∃more,H' b=some (.tbl (ps++more)))
  (ns:∀m,s.heap.Ns X.env.locals m->h'.Ns X.env.locals m) (hok:HOk X.prog X.w H' h') (hg:AllBare g') :
  Inv X pins U H' { s with heap:=h',gens:=g',drawn:=d',toks:=t' }:=by
 have neL:∀b o,X.s₀.heap.get? b=some o->b≠X.env.locals:=fun b o e=>Nat.ne_of_lt (Nat.lt_of_lt_of_le (π e) I.ok.above)
 have neC:∀b o,X.s₀.heap.get? b=some o->b∉X.ex->b∉ch:=fun b o e hx hb=>by
  rcases (hch b hb).1 with z | z
  . exact hx z
  . exact absurd (Nat.lt_of_lt_of_le (π e) z) (Nat.lt_irrefl _)
 have cellK:∀x c,X.env.cells.lookup x=some c->∀v,s.heap.IsCell c v->h'.IsCell c v:=fun x c e v ⟨o,ho,hd⟩=>by
  have nch:c∉ch:=fun z=>(hch c z).2.2.1 x c e rfl
  by_cases hc:c∈X.fs
  . obtain ⟨sl,q⟩:=slot c o (I.cne x c e) hc nch ho (I.freeC x c e);exact ⟨_,q,hd⟩
  . exact ⟨o,keep c o (I.cne x c e) hc nch ho (I.freeC x c e),hd⟩
 refine ⟨I.ok,I.os,hg,⟨fun b o e n hb hx=>?_,fun b o e n hb hx=>?_,fun b o e n hx=>?_,fun b o e hx=>?_,fun b xs e=>tups b xs (I.base.tups b xs e),fun b o xs e=>frzs b o xs (I.base.frzs b o xs e),fun b ps e=>?_⟩,?_,fun x c e=>?_,?_,fun x c e=>?_,fun p hp=>?_,hok,I.len⟩
 . exact keep b o (neL b o e) hb (neC b o e hx) (I.base.keep b o e n hb hx) (I.base.free b o e n hx)
 . obtain ⟨sl,e1⟩:=I.base.slot b o e n hb hx;obtain ⟨sl',e2⟩:=slot b _ (neL b o e) hb (neC b o e hx) e1 (I.base.free b o e n hx);exact ⟨sl',e2⟩
 . obtain ⟨o',e1⟩:=I.base.there b o e hx;exact free b o' (neC b o e hx) e1 (I.base.free b o e n hx)
 . obtain ⟨o',e1⟩:=I.base.there b o e hx;exact there b o' (neC b o e hx) e1
 . obtain ⟨m1,e1⟩:=I.base.tbls b ps e;obtain ⟨m2,e2⟩:=tbls b _ e1;exact ⟨m1++m2,by rw [e2,Array.append_assoc]⟩
 . obtain ⟨m,hn,hl⟩:=I.loc;refine ⟨m,ns m hn,fun i x v e1 e2 e3=>?_⟩;obtain ⟨u,r,l⟩:=hl i x v e1 e2 e3;refine ⟨u,r,?_⟩;rcases l with l | ⟨k,c,e,z⟩
   . exact .inl l
   . exact .inr ⟨k,c,e,cellK x c e _ z⟩
 . obtain ⟨v,z⟩:=I.cell x c e;exact ⟨v,cellK x c e v z⟩
 . obtain ⟨m,⟨o,_,_,ho,_⟩,_⟩:=I.loc;exact free _ o (fun z=>(hch _ z).2.1 rfl) ho I.free
 . obtain ⟨v,o,ho,hd⟩:=I.cell x c e;exact free c o (fun z=>(hch c z).2.2.1 x c e rfl) ho (I.freeC x c e)
 . obtain ⟨e,n,ne,nf,d⟩:=I.pin p hp;have nch:p.1∉ch:=fun z=>(hch p.1 z).2.2.2 p hp rfl
   exact ⟨keep p.1 p.2 ne nf nch e n,free p.1 p.2 nch e n,ne,nf,d⟩
theorem Inv.un (I:Inv X pins U H s) (u:Un X.fs [] H H' s.heap h') (hok:HOk X.prog X.w H' h'):Inv X pins U H' { s with heap:=h',toks:=t' }:=by obtain ⟨m,⟨o,es,ep,ho,r⟩,_⟩:=id I.loc;obtain ⟨sl,hL⟩:=u.any ho I.free (by simp);exact I.step (g':=s.gens) (d':=s.drawn) (ch:=[]) (fun _ z=>nomatch z) (fun b o _ hb _ e n=>u.keep b o e n hb (by simp)) (fun b o _ hb _ e n=>u.slot b o e n hb (by simp)) (fun b o _ e n=>u.free b o e n (by simp)) (fun b o _ e=>u.there b o e (by simp)) u.tups u.frzs u.tbls (fun m' hm=>by obtain ⟨o',es',ep',ho',r'⟩:=hm;rw [ho] at ho';cases ho';exact ⟨_,es',ep',hL,r'⟩) hok I.bare
theorem Inv.call (I:Inv X pins U H s) (u:Un (frs X.stack) ch H H' s.heap h') (hok:HOk X.prog X.w H' h') (hg:AllBare g')
  (hch:∀b∈ch,(b∈X.ex\/X.s₀.heap.objs.size<=b)/\b≠X.env.locals/\(∀x c,X.env.cells.lookup x=some c->c≠b)/\∀p∈X.pn++pins,p.1≠b) :
  Inv X pins U H' { s with heap:=h',gens:=g',drawn:=d',toks:=t' }:=by
 obtain ⟨m,⟨o,es,ep,ho,r⟩,_⟩:=id I.loc
 obtain ⟨sl,hL⟩:=u.any ho I.free fun z=>(hch _ z).2.1 rfl
 exact I.step (ch:=ch) hch (fun b o hL hb hc e n=>u.keep b o e n (fun z=>(List.mem_cons.mp (I.stkSub b z)).elim hL hb) hc) (fun b o _ _ hc e n=>u.any e n hc) (fun b o hc e n=>u.free b o e n hc) (fun b o hc e=>u.there b o e hc) u.tups u.frzs u.tbls (fun m' hm=>by obtain ⟨o',es',ep',ho',r'⟩:=hm;rw [ho] at ho';cases ho';exact ⟨_,es',ep',hL,r'⟩) hok hg
theorem Inv.turned (I:Inv X pins U H s) (k:∀b o,b≠it->s.heap.get? b=some o->h'.get? b=some o) (hn:H it=none) (hL:it≠X.env.locals)
  (h1:it∈X.ex\/X.s₀.heap.objs.size<=it) (h2:∀x c,X.env.cells.lookup x=some c->c≠it) (h3:∀p∈X.pn++pins,p.1≠it):Inv X pins U H { s with heap:=h',toks:=t' }:=by
 have nit:∀b u,H b=some u->b≠it:=fun b u e z=>by rw [z,hn] at e;cases e
 refine I.step (g':=s.gens) (d':=s.drawn) (ch:=[it]) (fun b hb=>?_) (fun b o _ _ hc e _=>k b o (fun z=>hc (by simp [z])) e) (fun b o _ _ hc e _=>⟨o.slots,k b o (fun z=>hc (by simp [z])) e⟩) (fun _ _ _ _ n=>n)
  (fun b o hc e=>⟨o,k b o (fun z=>hc (by simp [z])) e⟩) (fun _ _ e=>e) (fun _ _ _ e=>e) (fun b ps e=>⟨#[],by rw [e];simp⟩) (fun m hm=>?_) (fun b u e=>?_) I.bare
 . have e:b=it:=by simpa using hb
   subst e;exact ⟨h1,hL,h2,h3⟩
 . obtain ⟨o,es,ep,ho,r⟩:=hm;exact ⟨o,es,ep,k _ o (Ne.symm hL) ho,r⟩
 . refine (I.hok b u e).stay (fun c v hc q=>k c v ?_ q) (fun _ q=>q) fun _ _ q=>q
   rcases hc with z | z
   . rw [z];exact nit b u e
   . exact nit c _ z
theorem Inv.tok (I:Inv X pins U H s) (t:Nat):Inv X pins U H { s with toks:=t }:=I.un (h':=s.heap) (t':=t) Un.refl I.hok
theorem Inv.kept (I:Inv X pins U H s) (k:∀b u,s.heap.get? b=some u->h'.get? b=some u):Inv X pins U H { s with heap:=h',toks:=t' }:=I.un (Un.kept k) (I.hok.kept k)
theorem Inv.laid (I:Inv X pins U H s) (k:∀b u,s.heap.get? b=some u->h'.get? b=some u) (hp:s.heap.objs.size<=a) (new:ObjOk X.prog X.w (upd H a o) h' a o) :
 Inv X pins U (upd H a o) { s with heap:=h',toks:=t' }:=I.un (Un.laid k hp (I.hok.fresh hp)) (I.hok.laid k hp new)
theorem Inv.write (I:Inv X pins U H s) (mu:Mut (H x)) (he:e=x\/H e=some (.own x)) (k:∀b u,b≠e->s.heap.get? b=some u->h'.get? b=some u) (heo:∃u,h'.get? e=some u)
 (new:ObjOk X.prog X.w (upd H x o) h' x o):Inv X pins U (upd H x o) { s with heap:=h',toks:=t' }:=I.un (Un.write mu he k heo) (I.hok.write mu he k heo new)
theorem Inv.pins_of (I:Inv X pins U H s) (h:∀p∈pins',s.heap.get? p.1=some p.2/\H p.1=none/\p.1≠X.env.locals/\p.1∉X.fs/\∀v,p.2.data≠.cell v):Inv X pins' U H s:=
 ⟨I.ok,I.os,I.bare,I.base,I.loc,I.cell,I.free,I.freeC,fun p hp=>(List.mem_append.mp hp).elim (fun z=>I.pin p (List.mem_append_left _ z)) (h p),I.hok,I.len⟩
theorem Uk {N:List Str} (hN:N.Nodup) {i j:Nat} {x:Str} (a:N[i]?=some x) (b:N[j]?=some x):i=j:=by obtain ⟨h1,e1⟩:=List.getElem?_eq_some_iff.mp a;obtain ⟨h2,e2⟩:=List.getElem?_eq_some_iff.mp b;exact (List.getElem_inj hN).mp (e1.trans e2.symm)
theorem Vg (I:Inv X pins U H s) (hN:X.N.Nodup) (hi:X.N[i]?=some x) (hx:Loc X.env.scope x) (r:RelV v u)
  (h:∀s',Inv X pins (U.set i (some v)) H s'->(∃a,Heap.SameBut a s.heap s'.heap/\(a=X.env.locals\/X.env.cells.lookup x=some a))->Q () s') (hf:X.fn x=true\/X.env.scope.names.lookup x=some .local):wpAny M A (storeName X.env x u) Q E s:=by
 obtain ⟨m,hn,hl⟩:=id I.loc
 have hcls:(X.env.scope.kind==.class||(X.env.scope.kind==.module&&X.env.locals != X.env.globals))=false:=by rw [I.ok.kind];rfl
 have hiσ:i<U.length:=by rw [I.len];exact (List.getElem?_eq_some_iff.mp hi).1
 have cne:=I.cne
 have tracked:∀{a:Addr} {h':Heap},(∃o,s.heap.get? a=some o/\H a=none)->Heap.SameBut a s.heap h'->HOk X.prog X.w H h':=fun {a h'} ha hs b ob e=>by
  obtain ⟨_,_,hfree⟩:=ha;refine (I.hok b ob e).stay (fun c w' hc q=>(hs.2 c ?_).trans q) (fun _ q=>q) fun _ _ q=>q
  rintro rfl;rcases hc with rfl | hc
  . rw [hfree] at e;cases e
  . rw [hfree] at hc;cases hc
 rcases hx with hk | hk
 . refine wpAny_storeName_local hk hn (fun h' hn' hs=>?_) hcls;obtain ⟨oL,_,_,hoL,_⟩:=id hn;refine h _ ⟨I.ok,I.os,I.bare,⟨fun b o e n hb hx=>?_,fun b o e n hb hx=>?_,I.base.free,fun b o e hx=>?_,I.base.tups,I.base.frzs,I.base.tbls⟩,⟨_,hn',fun j y v' e1 e2 e3=>?_⟩,fun y c e=>?_,I.free,I.freeC,fun p hp=>?_,tracked ⟨oL,hoL,I.free⟩ hs,by simpa using I.len⟩ ⟨_,hs,.inl rfl⟩
   . exact (hs.2 b (Nat.ne_of_lt (Nat.lt_of_lt_of_le (π e) I.ok.above))).trans (I.base.keep b o e n hb hx)
   . obtain ⟨sl,e1⟩:=I.base.slot b o e n hb hx;exact ⟨sl,(hs.2 b (Nat.ne_of_lt (Nat.lt_of_lt_of_le (π e) I.ok.above))).trans e1⟩
   . obtain ⟨o',e1⟩:=I.base.there b o e hx;exact ⟨o',(hs.2 b (Nat.ne_of_lt (Nat.lt_of_lt_of_le (π e) I.ok.above))).trans e1⟩
   . by_cases hj:j=i
     . subst hj;rw [hi] at e1;cases e1;rw [List.getElem?_set_self hiσ] at e2;cases e2;exact ⟨u,r,.inl ⟨hk,by simp⟩⟩
     . rw [List.getElem?_set_ne (Ne.symm hj)] at e2;obtain ⟨u',r',q⟩:=hl j y v' e1 e2 e3;refine ⟨u',r',?_⟩;rcases q with ⟨k,e⟩ | ⟨k,c,e,z⟩
       . refine .inl ⟨k,?_⟩;have:y≠x:=fun e=>hj (Uk hN e1 (e ▸ hi))
         simp [this,e]
       . exact .inr ⟨k,c,e,z.sameBut hs (cne y c e)⟩
   . obtain ⟨w',z⟩:=I.cell y c e;exact ⟨w',z.sameBut hs (cne y c e)⟩
   . obtain ⟨e,n,ne,nf,d⟩:=I.pin p hp;exact ⟨(hs.2 p.1 ne).trans e,n,ne,nf,d⟩
 . have hfn:X.fn x=true:=by
    rcases hf with z | z
    . exact z
    . rw [z] at hk;cases hk
   obtain ⟨c,hc⟩:=I.ok.has x (.inl hk)
   obtain ⟨w',z⟩:=I.cell x c hc
   refine wpAny_storeName_cell I.ok.kind hk hc z (fun h' hc' hs=>?_)
   obtain ⟨oc,hoc,hocd⟩:=id z
   refine h { s with heap:=h' } ⟨I.ok,I.os,I.bare,⟨fun b o e n hb hx=>?_,fun b o e n hb hx=>?_,I.base.free,fun b o e hx=>?_,I.base.tups,I.base.frzs,I.base.tbls⟩,⟨m,hn.sameBut hs (Ne.symm (cne x c hc)),fun j y v' e1 e2 e3=>?_⟩,fun y c' e=>?_,I.free,I.freeC,fun p hp=>?_,tracked ⟨oc,hoc,I.freeC x c hc⟩ hs,by simpa using I.len⟩ ⟨c,hs,.inr hc⟩
   . exact (hs.2 b (Nat.ne_of_lt (Nat.lt_of_lt_of_le (π e) (I.ok.cab x c hfn hc)))).trans (I.base.keep b o e n hb hx)
   . obtain ⟨sl,e1⟩:=I.base.slot b o e n hb hx;exact ⟨sl,(hs.2 b (Nat.ne_of_lt (Nat.lt_of_lt_of_le (π e) (I.ok.cab x c hfn hc)))).trans e1⟩
   . obtain ⟨o',e1⟩:=I.base.there b o e hx;exact ⟨o',(hs.2 b (Nat.ne_of_lt (Nat.lt_of_lt_of_le (π e) (I.ok.cab x c hfn hc)))).trans e1⟩
   . by_cases hj:j=i
     . subst hj;rw [hi] at e1;cases e1;rw [List.getElem?_set_self hiσ] at e2;cases e2;exact ⟨u,r,.inr ⟨.inl hk,c,hc,hc'⟩⟩
     . rw [List.getElem?_set_ne (Ne.symm hj)] at e2;obtain ⟨u',r',q⟩:=hl j y v' e1 e2 e3;refine ⟨u',r',?_⟩;rcases q with q | ⟨k,c',e,z'⟩
       . exact .inl q
       . refine .inr ⟨k,c',e,z'.sameBut hs ?_⟩;rintro rfl;exact hj (Uk hN e1 (I.ok.inj _ _ _ e hc ▸ hi))
   . by_cases hcc:c'=c
     . subst hcc;exact ⟨_,hc'⟩
     . obtain ⟨w2,z2⟩:=I.cell y c' e;exact ⟨w2,z2.sameBut hs hcc⟩
   . obtain ⟨e,n,ne,nf,d⟩:=I.pin p hp;refine ⟨(hs.2 p.1 ?_).trans e,n,ne,nf,d⟩;intro q;rw [q,hoc] at e;have q':oc=p.2:=Option.some.inj e;exact d w' (by rw [<-q'];exact hocd)
theorem Ma (I:Inv X pins U H s) (hN:X.N.Nodup) (hi:X.N[i]?=some x) (hx:Loc X.env.scope x) (r:RelV v u)
  (h:∀s',Inv X pins (U.set i (some v)) H s'->Q () s') (hf:X.fn x=true\/X.env.scope.names.lookup x=some .local):wpAny M A (storeName X.env x u) Q E s:=
 Vg I hN hi hx r (fun s' I' _=>h s' I') hf
theorem Inv.call' (I:Inv X pins U H s) (ho:s'.os=s.os) (u:Un (frs X.stack) ch H H' s.heap s'.heap) (hok:HOk X.prog X.w H' s'.heap) (hg:AllBare s'.gens)
  (hch:∀b∈ch,(b∈X.ex\/X.s₀.heap.objs.size<=b)/\b≠X.env.locals/\(∀x c,X.env.cells.lookup x=some c->c≠b)/\∀p∈X.pn++pins,p.1≠b):Inv X pins U H' s':=by
 obtain ⟨h',g',d',t',o'⟩:=s'
 have e:o'=s.os:=ho
 subst e
 exact I.call (g':=g') (t':=t') (d':=d') u hok hg hch
end
abbrev XK:=Value->Option Addr->Hp->Prop
abbrev St:=List (Option V)
abbrev VK:=V->Hp->Prop
abbrev TE:=St->Hp->VK->Prop
abbrev TT:=St->Hp->(Bool->Hp->Prop)->Prop
abbrev TA:=St->Hp->(List V->Hp->Prop)->Prop
structure Ends where
 nx:St->Hp->Prop
 rt:VK
 bk:St->Hp->Prop:=fun _ _=>False
 ct:St->Hp->Prop:=fun _ _=>False
abbrev TS:=Ends->St->Hp->Prop
def EP (X:Cx) (pins:List (Addr×Obj)) (U:St) (Q:VK) (u:Value) (s':Shared):Prop:=∃v H',Inv X pins U H' s'/\RelV v u/\Q v H'
def TP (X:Cx) (pins:List (Addr×Obj)) (U:St) (Q:Bool->Hp->Prop) (b:Bool) (s':Shared):Prop:=∃H',Inv X pins U H' s'/\Q b H'
def AP (X:Cx) (pins:List (Addr×Obj)) (U:St) (Q:List V->Hp->Prop) (us:List Value) (s':Shared):Prop:=∃vs H',Inv X pins U H' s'/\Vals vs us/\Q vs H'
def SP (X:Cx) (pins:List (Addr×Obj)) (D:Ends) (f:Flow) (s':Shared):Prop:=
 match f with
 | .next=>∃σ' H',Inv X pins σ' H' s'/\D.nx σ' H'
 | .brk=>∃σ' H',Inv X pins σ' H' s'/\D.bk σ' H'
 | .cont=>∃σ' H',Inv X pins σ' H' s'/\D.ct σ' H'
 | .ret u=>∃v σ' H',Inv X pins σ' H' s'/\RelV v u/\D.rt v H'
def PE (X:Cx) (e:Expr) (t:TE):Prop:=
 ∀(pins:List (Addr×Obj)) (s:Shared) (U:St) (H:Hp) (Q:VK),Inv X pins U H s->t U H Q->wpAny (model X.prog X.w) X.A (eval e X.env) (EP X pins U Q) X.xe s
def PT (X:Cx) (e:Expr) (t:TT):Prop:=
 ∀(pins:List (Addr×Obj)) (s:Shared) (U:St) (H:Hp) (Q:Bool->Hp->Prop),Inv X pins U H s->t U H Q->wpAny (model X.prog X.w) X.A (isTrue e X.env (eval e X.env)) (TP X pins U Q) X.xe s
def PW (X:Cx) (e:Expr) (t:TT):Prop:=
 ∀(whole:Sem Value) (pins:List (Addr×Obj)) (s:Shared) (U:St) (H:Hp) (Q:Bool->Hp->Prop),Inv X pins U H s->t U H Q->wpAny (model X.prog X.w) X.A (isTrue e X.env whole) (TP X pins U Q) X.xe s
theorem PW.pt (h:PW X e t):PT X e t:=h _
def PA (X:Cx) (es:List Expr) (t:TA):Prop:=
 ∀(pos:Pos) (pins:List (Addr×Obj)) (s:Shared) (U:St) (H:Hp) (Q:List V->Hp->Prop),Inv X pins U H s->t U H Q->wpAny (model X.prog X.w) X.A (spliced (backTo pos (starEach es X.env))) (AP X pins U Q) X.xe s
def PS (X:Cx) (st:Stmt) (t:TS):Prop:=
 ∀(pins:List (Addr×Obj)) (s:Shared) (U:St) (H:Hp) (D:Ends),Inv X pins U H s->t D U H->wpAny (model X.prog X.w) X.A (exec st X.env) (SP X pins D) X.xe s
def PSs (X:Cx) (st:List Stmt) (t:TS):Prop:=
 ∀(pins:List (Addr×Obj)) (s:Shared) (U:St) (H:Hp) (D:Ends),Inv X pins U H s->t D U H->wpAny (model X.prog X.w) X.A (execs st X.env) (SP X pins D) X.xe s
theorem thn (h:wpAny M A t Q E s) (hQ:∀a s,Q a s->Q' a s):wpAny M A t Q' E s:=wpAny_mono h hQ fun _ _ x=>x
section
variable {X:Cx}
noncomputable def Hk (i:Nat):TE:=fun U H Q=>∃v,U[i]?=some (some v)/\Q v H
noncomputable def tC (v:V):TE:=fun _ H Q=>Q v H
theorem Dj (hN:X.N[i]?=some x) (hv:Vis X.env.scope x) (hd:(x==("__debug__":Str))=false:=by decide) (hcd:(x==("__classdict__":Str))=false:=by decide):PE X (.Name x pos) (Hk i):=by
 intro pins s U H Q I h;obtain ⟨v,e,h⟩:=h;obtain ⟨m,hn,hl⟩:=I.loc;obtain ⟨u,r,l⟩:=hl i x v hN e hv;have fin:EP X pins U Q u s:=⟨v,H,I,r,h⟩;rcases l with ⟨hk,hm⟩ | ⟨hk,c,hc,hcell⟩
 . exact wpAny_Name (wpAny_loadName_local I.ok.kind hk hn hm fin) hd
 . rcases hk with hk | hk
   . exact wpAny_Name (wpAny_loadName_cell I.ok.kind hk hc hcell fin) hd
   . exact wpAny_Name (wpAny_loadName_free I.ok.kind hk hc hcell fin hcd) hd
theorem pe_int:PE X (.Constant (.int i) j pos) (tC (.int i)):=fun _ _ _ H _ I h=>wpAny_Constant_int ⟨.int i,H,I.tok _,⟨_,rfl⟩,h⟩
theorem pe_bl:PE X (.Constant (.bool b) j pos) (tC (.bl b)):=fun _ _ _ H _ I h=>Constant_bool ⟨.bl b,H,I,rfl,h⟩
theorem pe_non:PE X (.Constant .none j pos) (tC .non):=fun _ _ _ H _ I h=>Constant_none ⟨.non,H,I,rfl,h⟩
theorem pe_str:PE X (.Constant (.str x) j pos) (tC (.str x)):=fun _ _ _ H _ I h=>Calls.Constant_str ⟨.str x,H,I.tok _,⟨_,rfl⟩,h⟩
def Gl (X:Cx) (x:Str):Prop:=X.env.kindOf x=some .globalImplicit
theorem U2 (I:Inv X pins U H s) (hg:Gl X x) (hm:X.mg x=some u) (h:Q u s)
  (hd:(x==("__debug__":Str))=false:=by decide):wpAny (model X.prog X.w) X.A (eval (.Name x pos) X.env) Q E s:=
 Calls.Name_function_global I.ok.kind hg (Calls.loadGlobal_global (by rw [I.ok.glob];exact I.mod.glob.keeps I.bk) hm h) hd
theorem T6 (I:Inv X pins U H s) (hg:Gl X x) (hm:X.mg x=none) (hv:bootBuiltins x=some u) (h:Q u s)
  (hn:x≠"__name__":=by decide) (hd:(x==("__debug__":Str))=false:=by decide):wpAny (model X.prog X.w) X.A (eval (.Name x pos) X.env) Q E s:=by
 obtain ⟨mb,h1,h2⟩:=I.mod.blt
 exact Calls.Name_function_global I.ok.kind hg (Calls.loadGlobal_builtin (by rw [I.ok.glob];exact I.mod.glob.keeps I.bk) hm (by rw [I.ok.blt];exact h1.keeps I.bk) ((h2 x hn).trans hv) h) hd
theorem wd (hg:Gl X x) (hm:X.mg x=some u) (r:RelV v u) (hd:(x==("__debug__":Str))=false:=by decide):PE X (.Name x pos) (tC v):=
 fun _ _ _ H _ I h=>U2 I hg hm ⟨v,H,I,r,h⟩ hd
theorem Dr (hg:Gl X x) (hm:X.mg x=none) (hv:bootBuiltins x=some u) (r:RelV v u) (hn:x≠"__name__":=by decide) (hd:(x==("__debug__":Str))=false:=by decide):PE X (.Name x pos) (tC v):=
 fun _ _ _ H _ I h=>T6 I hg hm hv ⟨v,H,I,r,h⟩ hn hd
variable {a b:Expr} {ta tb:TE} {pos:Pos}
variable {tA tB':TT} {rest:List Expr}
noncomputable def Yu (t u:TT):TT:=fun U H Q=>t U H fun c H1=>if c=true then u U H1 Q else Q false H1
noncomputable def tOr (t u:TT):TT:=fun U H Q=>t U H fun c H1=>if c=true then Q true H1 else u U H1 Q
noncomputable def Yt (t:TT):TT:=fun U H Q=>t U H fun c H1=>Q (!c) H1
theorem wc (ha:PT X a tA):PW X (.BoolOp .And [a] pos) tA:=by
 intro wh pins s U H Q I h;refine isTrue_and (thn (ha pins s U H Q I h) fun c s1 e=>?_);cases c with
 | true=>exact isTrue_and_nil e
 | false=>exact e
theorem qe (ha:PT X a tA):PW X (.BoolOp .Or [a] pos) tA:=by
 intro wh pins s U H Q I h;refine isTrue_or (thn (ha pins s U H Q I h) fun c s1 e=>?_);cases c with
 | false=>exact isTrue_or_nil e
 | true=>exact e
theorem qc (ha:PT X a tA) (hb:PW X (.BoolOp .And (b::rest) pos) tB'):PW X (.BoolOp .And (a::b::rest) pos) (Yu tA tB'):=by
 intro wh pins s U H Q I h;refine isTrue_and (thn (ha pins s U H _ I h) fun c s1 ⟨H1,I1,q1⟩=>?_);cases c with
 | true=>exact hb wh pins s1 U H1 Q I1 q1
 | false=>exact ⟨H1,I1,q1⟩
theorem jd (ha:PT X a tA) (hb:PW X (.BoolOp .Or (b::rest) pos) tB'):PW X (.BoolOp .Or (a::b::rest) pos) (tOr tA tB'):=by
 intro wh pins s U H Q I h;refine isTrue_or (thn (ha pins s U H _ I h) fun c s1 ⟨H1,I1,q1⟩=>?_);cases c with
 | true=>exact ⟨H1,I1,q1⟩
 | false=>exact hb wh pins s1 U H1 Q I1 q1
theorem qb (ha:PT X a tA):PT X (.UnaryOp .Not a pos) (Yt tA):=by intro pins s U H Q I h;exact isTrue_not (ha pins s U H (fun c H1=>Q (!c) H1) I h)
theorem qa (h:PE X a t):PE X (.BoolOp op [a] pos) t:=fun pins s U H Q I hw=>BoolOp_one (h pins s U H Q I hw)
noncomputable def tIf (t:TT) (ta tb:TE):TE:=fun U H Q=>t U H fun c H1=>if c=true then ta U H1 Q else tb U H1 Q
theorem xB (hc:PT X c tA) (ha:PE X a ta) (hb:PE X b tb):PE X (.IfExp c a b pos) (tIf tA ta tb):=by
 intro pins s U H Q I h;refine wpAny_IfExp (thn (hc pins s U H _ I h) fun d s1 ⟨H1,I1,q1⟩=>?_);cases d with
 | true=>exact ha pins s1 U H1 Q I1 q1
 | false=>exact hb pins s1 U H1 Q I1 q1
end
def SqL (K:Frag) (H:Hp) (a:Addr) (xs:List V):Prop:=
 Rd H a (.lst xs) \/
  ∃(o:Obj) (its:Array Value) (n:Nat),K.lookup a=some o/\o.cls=.type "list"/\o.dict=none/\o.data=.seq its n/\its.size<=sizeLine/\Vals xs its.toList
def SqT (K:Frag) (H:Hp) (a:Addr) (xs:List V):Prop:=
 Rd H a (.tup xs) \/
  ∃(o:Obj) (its:Array Value) (n:Nat),K.lookup a=some o/\o.cls=.type "tuple"/\o.data=.seq its n/\its.size<=sizeLine/\Vals xs its.toList
noncomputable def Ys:Value->Option V
 | .none=>some .non
 | .bool b=>some (.bl b)
 | .int i _=>some (.int i)
 | .str x _=>some (.str x)
 | .bytes b _=>some (.byt b)
 | .float b _=>some (.flt b)
 | .ref a=>some (.ref a)
 | .type n=>some (.ty n)
 | _=>none
theorem RelV.abs (r:RelV x u):Ys u=some x:=by
 cases x with
 | non=>cases r;rfl
 | bl _=>cases r;rfl
 | int _=>obtain ⟨t,rfl⟩:=r;rfl
 | str _=>obtain ⟨t,rfl⟩:=r;rfl
 | byt _=>obtain ⟨t,rfl⟩:=r;rfl
 | flt _=>obtain ⟨t,rfl⟩:=r;rfl
 | ref _=>cases r;rfl
 | ty _=>cases r;rfl
theorem RelV.inj (r:RelV x u) (q:RelV y u):x=y:=Option.some.inj (r.abs.symm.trans q.abs)
theorem Vals.inj:∀{xs ys:List V} {us:List Value},Vals xs us->Vals ys us->xs=ys
 | _,_,_,.nil,.nil=>rfl
 | _,_,_,.cons r t,.cons r' t'=>by rw [r.inj r',Vals.inj t t']
section
variable {X:Cx} {pins:List (Addr×Obj)} {U:St} {H:Hp} {s:Shared} {a:Addr} {xs ys:List V}
theorem SqL.of {K:Frag} (h:H a=some (.lst xs)):SqL K H a xs:=.inl (.inl h)
theorem SqT.of {K:Frag} (h:H a=some (.tup xs)):SqT K H a xs:=.inl (.inl h)
theorem Inv.list (I:Inv X pins U H s) (h:SqL X.K H a xs):∃its:List Value,Vals xs its/\PlainL s.heap a its.toArray/\xs.length<=sizeLine:=by
 rcases h with h | ⟨o,its,n,hk,hc,hd,hs,hz,r⟩
 . obtain ⟨z,its,n,r,e⟩:=h.ok I.hok;exact ⟨its,r,⟨_,n,e,rfl,rfl,rfl⟩,z⟩
 . refine ⟨its.toList,r,⟨o,n,I.kIn a o hk,hc,hd,by simpa using hs⟩,?_⟩;have e:=r.length;simp only [Array.length_toList] at e
   lia
theorem Inv.tuple (I:Inv X pins U H s) (h:SqT X.K H a xs):∃its:List Value,Vals xs its/\IsTup s.heap a its.toArray/\xs.length<=sizeLine:=by
 rcases h with h | ⟨o,its,n,hk,hc,hs,hz,r⟩
 . obtain ⟨z,its,r,p⟩:=h.ok I.hok;exact ⟨its,r,p.tup,z⟩
 . refine ⟨its.toList,r,⟨o,I.kIn a o hk,hc,n,by simpa using hs⟩,?_⟩;have e:=r.length;simp only [Array.length_toList] at e
   lia
theorem Inv.list_inj (I:Inv X pins U H s) (h:SqL X.K H a xs) (h':SqL X.K H a ys):xs=ys:=by
 obtain ⟨its,r,⟨o,n,e,_,_,d⟩,_⟩:=I.list h;obtain ⟨its',r',⟨o',n',e',_,_,d'⟩,_⟩:=I.list h';rw [e] at e';cases e';rw [d] at d';injection d' with d1 _;have:its=its':=by simpa using congrArg Array.toList d1
 subst this;exact r.inj r'
theorem Inv.tuple_inj (I:Inv X pins U H s) (h:SqT X.K H a xs) (h':SqT X.K H a ys):xs=ys:=by
 obtain ⟨its,r,⟨o,e,_,n,d⟩,_⟩:=I.tuple h;obtain ⟨its',r',⟨o',e',_,n',d'⟩,_⟩:=I.tuple h';rw [e] at e';cases e';rw [d] at d';injection d' with d1 _;have:its=its':=by simpa using congrArg Array.toList d1
 subst this;exact r.inj r'
end
abbrev Cx.wish (X:Cx) (E:Value->Shared->Prop):Cx:={ X with xe:=E }
abbrev Cx.nox (X:Cx):Cx:=X.wish fun _ _=>False
theorem Cx.Ok.wish {X:Cx} (ok:X.Ok) (E:Value->Shared->Prop):(X.wish E).Ok:=
 ⟨ok.mod,ok.kind,ok.glob,ok.blt,ok.above,ok.inj,ok.has,ok.cab,ok.hd,ok.frames,ok.stk,ok.exf,ok.bs,ok.bsz,ok.noex,ok.exfs,ok.funs,ok.frf⟩
theorem Cx.Ok.unwish {X:Cx} {E:Value->Shared->Prop} (ok:(X.wish E).Ok):X.Ok:=
 ⟨ok.mod,ok.kind,ok.glob,ok.blt,ok.above,ok.inj,ok.has,ok.cab,ok.hd,ok.frames,ok.stk,ok.exf,ok.bs,ok.bsz,ok.noex,ok.exfs,ok.funs,ok.frf⟩
section
variable {X:Cx} {pins:List (Addr×Obj)} {U:St} {H:Hp} {s:Shared} {E:Value->Shared->Prop}
theorem Inv.wish (I:Inv X pins U H s) (E:Value->Shared->Prop):Inv (X.wish E) pins U H s:=⟨I.ok.wish E,I.os,I.bare,I.base,I.loc,I.cell,I.free,I.freeC,I.pin,I.hok,I.len⟩
theorem Inv.unwish (I:Inv (X.wish E) pins U H s):Inv X pins U H s:=⟨I.ok.unwish,I.os,I.bare,I.base,I.loc,I.cell,I.free,I.freeC,I.pin,I.hok,I.len⟩
theorem SP.unwish (h:SP (X.wish E) pins D f s'):SP X pins D f s':=by
 cases f with
 | next=>obtain ⟨σ',H',I,q⟩:=h;exact ⟨σ',H',I.unwish,q⟩
 | brk=>obtain ⟨σ',H',I,q⟩:=h;exact ⟨σ',H',I.unwish,q⟩
 | cont=>obtain ⟨σ',H',I,q⟩:=h;exact ⟨σ',H',I.unwish,q⟩
 | ret u=>obtain ⟨v,σ',H',I,r,q⟩:=h;exact ⟨v,σ',H',I.unwish,r,q⟩
theorem PE.nox (h:PE X.nox e t):PE X e t:=fun pins s U H Q I hw=>
 wpAny_mono (h pins s U H Q (I.wish _) hw) (fun _ _ ⟨v,H',I',r,q⟩=>⟨v,H',I'.unwish,r,q⟩) fun _ _ z=>False.elim z
theorem PT.nox (h:PT X.nox e t):PT X e t:=fun pins s U H Q I hw=>
 wpAny_mono (h pins s U H Q (I.wish _) hw) (fun _ _ ⟨H',I',q⟩=>⟨H',I'.unwish,q⟩) fun _ _ z=>False.elim z
theorem PSs.nox {st:List Stmt} {t:TS} (h:PSs X.nox st t):PSs X st t:=fun pins s U H D I hw=>
 wpAny_mono (h pins s U H D (I.wish _) hw) (fun _ _ q=>q.unwish) fun _ _ z=>False.elim z
end
section
variable {X:Cx} {st:Stmt} {rest:List Stmt} {t u:TS} {e:Expr} {te:TE} {pos:Pos}
noncomputable def Oq:TS:=fun D U H=>D.nx U H
noncomputable def Hj (t u:TS):TS:=fun D U H=>t { D with nx:=u D } U H
theorem pss_nil:PSs X [] Oq:=fun _ _ U H _ I h=>wpAny_execs_nil ⟨U,H,I,h⟩
theorem Lz (h1:PS X st t) (h2:PSs X rest u):PSs X (st::rest) (Hj t u):=by
 intro pins s U H D I h;refine wpAny_execs_cons (thn (h1 pins s U H { D with nx:=u D } I h) fun f s1 q=>?_);cases f with
 | next=>
  obtain ⟨σ',H',I',q⟩:=q
  exact h2 pins s1 σ' H' D I' q
 | ret v=>exact q
 | brk=>exact q
 | cont=>exact q
theorem Tj (h1:PS X st t):PSs X [st] t:=by
 intro pins s U H D I h;refine wpAny_execs_cons (thn (h1 pins s U H D I h) fun f s1 q=>?_);cases f with
 | next=>exact wpAny_execs_nil q
 | ret v=>exact q
 | brk=>exact q
 | cont=>exact q
theorem Inv.quiet (I:Inv X pins U H s):interactive X.env=false:=by simp [interactive,I.ok.kind]
noncomputable def X9 (te:TE):TS:=fun D U H=>te U H fun _ H1=>D.nx U H1
theorem Lf (he:PE X e te) (hs:swapsWith e none pos.line X.env=pure false:=by rfl):PS X (.Expr e pos) (X9 te):=by intro pins s U H D I h;exact wpAny_Expr_any (thn (he pins s U H _ I h) fun v s1 ⟨x,H1,I1,r1,q1⟩=>⟨U,H1,I1,q1⟩) I.quiet hs
noncomputable def Hi (te:TE):TS:=fun D U H=>te U H D.rt
theorem Kh (he:PE X e te):PS X (.Return (some e) pos) (Hi te):=by intro pins s U H D I h;exact wpAny_Return_some (thn (he pins s U H _ I h) fun v s1 ⟨x,H1,I1,r1,q1⟩=>⟨x,U,H1,I1,r1,q1⟩)
noncomputable def Yr (c:TT) (t u:TS):TS:=fun D U H=>c U H fun b H1=>if b=true then t D U H1 else u D U H1
theorem Op (hc:PT X c tc) (ha:PSs X a t) (hb:PSs X b u):PS X (.If c a b pos) (Yr tc t u):=by
 intro pins s U H D I h;refine wpAny_If (thn (hc pins s U H _ I h) fun d s1 ⟨H1,I1,q1⟩=>?_);cases d with
 | true=>exact ha pins s1 U H1 D I1 q1
 | false=>exact hb pins s1 U H1 D I1 q1
end
abbrev TG:=V->St->Hp->(St->Hp->Prop)->Prop
abbrev TGs:=List V->St->Hp->(St->Hp->Prop)->Prop
def PG (X:Cx) (target:Expr) (t:TG):Prop:=
 ∀(pins:List (Addr×Obj)) (s:Shared) (U:St) (H:Hp) (v:V) (u:Value) (Q:St->Hp->Prop),Inv X pins U H s->RelV v u->t v U H Q ->
  wpAny (model X.prog X.w) X.A (assign target X.env u) (fun _ s'=>∃σ' H',Inv X pins σ' H' s'/\Q σ' H') X.xe s
def PGs (X:Cx) (ts:List Expr) (t:TGs):Prop:=
 ∀(pins:List (Addr×Obj)) (s:Shared) (U:St) (H:Hp) (vs:List V) (us:List Value) (Q:St->Hp->Prop),Inv X pins U H s->Vals vs us->t vs U H Q ->
  wpAny (model X.prog X.w) X.A (assignInOrder ((assignEach ts X.env).map (·.2)) us) (fun _ s'=>∃σ' H',Inv X pins σ' H' s'/\Q σ' H') X.xe s
section
variable {X:Cx} {pos:Pos}
noncomputable def B0 (i:Nat):TG:=fun v U H Q=>Q (U.set i (some v)) H
theorem Le (hN:X.N.Nodup) (hi:X.N[i]?=some x) (hx:Loc X.env.scope x) (hf:X.fn x=true\/X.env.scope.names.lookup x=some .local):PG X (.Name x pos) (B0 i):=by intro pins s U H v u Q I r h;exact wpAny_assign_Name (Ma I hN hi hx r (fun s' I'=>⟨_,H,I',h⟩) hf)
noncomputable def Hh:TGs:=fun vs U H Q=>vs=[]/\Q U H
noncomputable def Ct (t:TG) (u:TGs):TGs:=fun vs U H Q=>∃v r,vs=v::r/\t v U H fun σ' H'=>u r σ' H' Q
theorem pgs_nil:PGs X [] Hh:=by intro pins s U H vs us Q I r h;obtain ⟨e,h⟩:=h;subst e;cases r;exact assignInOrder_nil ⟨U,H,I,h⟩
theorem Ly (h1:PG X e t) (h2:PGs X es u)
  (hs:(assignEach (e::es) X.env).map (·.2)=assign e X.env::(assignEach es X.env).map (·.2):=by rfl):PGs X (e::es) (Ct t u):=by
 intro pins s U H vs us Q I r h
 obtain ⟨v,vr,e1,h⟩:=h
 subst e1
 cases r with
 | cons r rr=>
  rw [hs]
  refine assignInOrder_cons (thn (h1 pins s U H _ _ _ I r h) fun _ s1 ⟨σ1,H1,I1,q1⟩=>?_)
  exact h2 pins s1 σ1 H1 _ _ Q I1 rr q1
noncomputable def Hg (K:Frag) (n:Nat) (t:TGs):TG:=fun v U H Q=>∃a xs,v=.ref a/\SqT K H a xs/\xs.length=n/\t xs U H Q
theorem Qv (hc:X.calm=true) (h:PGs X es t)
  (hn:(assignEach es X.env).length=n:=by rfl) (hst:(assignEach es X.env).findIdx? (·.1)=none:=by rfl):PG X (.Tuple es k pos) (Hg X.K n t):=by
 intro pins s U H v u Q I r hw
 obtain ⟨a,xs,e1,hq,hl,hw⟩:=hw
 subst e1
 cases r
 obtain ⟨its,rv,ht,hz⟩:=I.tuple hq
 refine assign_Tuple_tuple (I.ok.hd hc) ht (by simp [hn,<-hl,rv.length]) hst fun h' hx=>?_
 have I1:Inv X pins U H { s with heap:=h' }:=I.kept (t':=s.toks) fun b o e=>hx b o (Nat.ne_of_lt (π e)) e
 exact h pins _ U H xs _ Q I1 (by simpa using rv) hw
noncomputable def O2 (te:TE) (g:TG):TS:=fun D U H=>te U H fun x H1=>g x U H1 D.nx
theorem Qu (hN:X.N.Nodup) (hi:X.N[i]?=some x) (hx:Loc X.env.scope x) (he:PE X e te) (hs:swapsWith e (some (.Name x pos')) pos.line X.env=pure false:=by rfl) (hf:X.fn x=true\/X.env.scope.names.lookup x=some .local) :
  PS X (.Assign [.Name x pos'] e pos) (O2 te (B0 i)):=by
 intro pins s U H D I h
 refine wpAny_Assign_Name (thn (he pins s U H _ I h) fun v s1 ⟨y,H1,I1,r1,q1⟩=>?_) hs
 exact Ma I1 hN hi hx r1 (fun s2 I2=>⟨_,H1,I2,q1⟩) hf
end
section
variable {X:Cx} {pos:Pos}
noncomputable def Qt (c:TT) (tb:TS):TS:=fun D U H=>∃W:Nat->St->Hp->Prop,(∃m,W m U H)/\∀m U H,W m U H ->
 c U H fun b H1=>if b=true then ∃N:St->Hp->Prop,(∀σ' H',N σ' H'->∃m',m'<m/\W m' σ' H')/\tb { D with nx:=N,ct:=N,bk:=D.nx } U H1 else D.nx U H1
theorem xA (hp:PassesOwn (model X.prog X.w) X.A X.env X.xe) (hc:PT X c tc) (hb:PSs X body tb):PS X (.While c body [] pos) (Qt tc tb):=by
 intro pins s U H D I h;obtain ⟨W,⟨m0,w0⟩,turn⟩:=h;refine wpAny_While (codeAny_whileLoop (fun n s'=>∃σ' H',Inv X pins σ' H' s'/\W n σ' H') ?_ m0 ⟨U,H,I,w0⟩);rintro n s1 ⟨σ1,H1,I1,w1⟩;refine wpAny_passesOwn hp (thn (hc pins s1 σ1 H1 _ I1 (turn n σ1 H1 w1)) fun b s2 ⟨H2,I2,q2⟩=>?_);cases b with
 | true=>
  obtain ⟨N,hN,q2⟩:=q2
  rw [ζ rfl]
  refine wpAny_passesOwn hp (thn (hb pins s2 σ1 H2 _ I2 q2) fun f s3 q3=>?_)
  cases f with
  | next=>
   obtain ⟨σ3,H3,I3,n3⟩:=q3
   obtain ⟨m',hm,w3⟩:=hN σ3 H3 n3
   exact ⟨m',hm,σ3,H3,I3,w3⟩
  | cont=>
   obtain ⟨σ3,H3,I3,n3⟩:=q3
   obtain ⟨m',hm,w3⟩:=hN σ3 H3 n3
   exact ⟨m',hm,σ3,H3,I3,w3⟩
  | brk=>exact q3
  | ret v=>exact q3
 | false=>
  rw [ξ θ]
  exact wpAny_execs_nil ⟨σ1,H2,I2,q2⟩
end
structure It where
 go:Nat->Hp->Prop
 yld:Nat->Hp->V->Hp->Prop
 stop:Nat->Hp->Prop
def G1 (X:Cx) (pins:List (Addr×Obj)) (H:Hp) (b:Addr):Prop:=
 H b=none/\b≠X.env.locals/\b∉X.fs/\(b∈X.ex\/X.s₀.heap.objs.size<=b)/\(∀x c,X.env.cells.lookup x=some c->c≠b)/\∀p∈X.pn++pins,p.1≠b
theorem Inv.fpOk (I:Inv X pins U H s) (hb:s.heap.objs.size<=b) (hn:H' b=none):G1 X pins H' b:=by
 refine ⟨hn,Nat.ne_of_gt (Nat.lt_of_lt_of_le I.lt hb),I.nofs hb,.inr (Nat.le_trans I.sz hb),fun x c e z=>?_,fun p hp z=>?_⟩
 . obtain ⟨v,q⟩:=I.cell x c e;exact absurd (Nat.lt_of_lt_of_le q.lt (by rw [z];exact hb)) (Nat.lt_irrefl _)
 . exact absurd (Nat.lt_of_lt_of_le (π (I.pin p hp).1) (by rw [z];exact hb)) (Nat.lt_irrefl _)
structure Turn (P:Program) (w:World) (K:Frag) (tg:Expr) (J:It) (fp:List Addr) (it:Addr) (tn:Nat->Heap->Prop):Prop where
 mem:it∈fp
 obj:∀i h,tn i h->∀b∈fp,∃o,h.get? b=some o/\∀v,o.data≠.cell v
 keep:∀i h h',tn i h->(∀b∈fp,∀o,h.get? b=some o->h'.get? b=some o)->tn i h'
 item:∀(X:Cx),X.prog=P->X.w=w->X.K=K->X.calm=true->∀(i:Nat) (pins:List (Addr×Obj)) (s:Shared) (U:St) (H:Hp) (E:Value->Shared->Prop),Inv X pins U H s->(∀b∈fp,G1 X pins H b)->tn i s.heap->J.go i H ->
  wpAny (model P w) X.A (pyNext (.ref it)) (fun r s1=>∃u,r=some u /\
   wpAny (model P w) X.A (letOwnedTupleGo tg (.ref it) u) (fun _ s2=>∃x H',Inv X pins U H' s2/\RelV x u/\J.yld i H x H'/\tn (i+1) s2.heap/\∀b∈fp,H' b=none) E s1) E s
 done:∀(X:Cx),X.prog=P->X.w=w->X.K=K->X.calm=true->∀(i:Nat) (pins:List (Addr×Obj)) (s:Shared) (U:St) (H:Hp) (E:Value->Shared->Prop),Inv X pins U H s->(∀b∈fp,G1 X pins H b)->tn i s.heap->J.stop i H ->
  wpAny (model P w) X.A (pyNext (.ref it)) (fun r s1=>r=none/\Inv X pins U H s1) E s
 self:∀(A:Around) (i:Nat) (s:Shared) (Q:Value->Shared->Prop) (E:Value->Shared->Prop),tn i s.heap->Q (.ref it) s->wpAny (model P w) A (pyIter (.ref it)) Q E s
abbrev TI:=St->Hp->(It->Hp->Prop)->Prop
def PIE (X:Cx) (pins:List (Addr×Obj)) (U:St) (tg:Expr) (R:It->Hp->Prop) (itv:Value) (s2:Shared):Prop:=
 ∃(it:Addr) (fp:List Addr) (tn:Nat->Heap->Prop) (J:It) (H':Hp),itv=.ref it/\Inv X pins U H' s2/\Turn X.prog X.w X.K tg J fp it tn/\tn 0 s2.heap/\(∀b∈fp,G1 X pins H' b)/\R J H'
def PI (X:Cx) (tg iter:Expr) (wi:TI):Prop:=
 ∀(pins:List (Addr×Obj)) (s:Shared) (U:St) (H:Hp) (R:It->Hp->Prop),Inv X pins U H s->wi U H R ->
  wpAny (model X.prog X.w) X.A (eval iter X.env) (fun v s1=>wpAny (model X.prog X.w) X.A (pyIter v) (PIE X pins U tg R) X.xe s1) X.xe s
theorem Ji (ho:s.heap.get? it=some o) (hc:o.cls=.type n) (hd:o.data=.fields vs)
  (hn:["enumerate","zip","dict_itemiterator","dict_reverseitemiterator","odict_iterator","itertools.zip_longest","itertools.pairwise"].contains n=false) (hQ:Q () s):wpAny M A (letOwnedTupleGo tg (.ref it) u) Q E s:=by
 unfold letOwnedTupleGo
 cases tg<;>first
  | exact ω hQ
  | (cases u<;>first
   | exact ω hQ
   | (refine δ (wpAny_load ho ?_)
      rw [hc,hd]
      show wpAny M A (if (["enumerate","zip","dict_itemiterator","dict_reverseitemiterator","odict_iterator","itertools.zip_longest","itertools.pairwise"].contains n&&vs[0]?==some (rawInt _))=true then _ else _) Q E s
      rw [ξ (by intro h;rw [hn,Bool.false_and] at h;cases h)]
      exact ω hQ))
noncomputable def Itl (K:Frag) (a:Addr):It:=
 ⟨fun i H=>∃xs x,SqL K H a xs/\xs[i]?=some x,fun i H x H'=>H'=H/\∀xs,SqL K H a xs->xs[i]?=some x,fun i H=>∃xs,SqL K H a xs/\xs.length<=i⟩
noncomputable def Itt (K:Frag) (a:Addr):It:=
 ⟨fun i H=>∃xs x,SqT K H a xs/\xs[i]?=some x,fun i H x H'=>H'=H/\∀xs,SqT K H a xs->xs[i]?=some x,fun i H=>∃xs,SqT K H a xs/\xs.length<=i⟩
noncomputable def Itr (lo:Int) (n:Nat):It:=⟨fun i _=>i<n,fun i H x H'=>H'=H/\x=.int (lo+i),fun i _=>n<=i⟩
theorem yn {P:Program} {w:World} {K:Frag} {tg:Expr} (a it:Addr):Turn P w K tg (Itl K a) [it] it (fun i h=>h.IsListIter it a i) where
 mem:=by simp
 obj:=fun i h st b hb=>by
  have e:b=it:=by simpa using hb
  subst e;obtain ⟨o,e,c,d⟩:=st;exact ⟨o,e,fun v z=>by rw [d] at z;cases z⟩
 keep:=fun i h h' st k=>st.at fun o e=>k it (by simp) o e
 item:=by
  intro X hP hw hK hc i pins s U H E I hf st hg;subst hP hw hK;obtain ⟨xs,x,hq,hx⟩:=hg;obtain ⟨its,rv,p,hz⟩:=I.list hq;obtain ⟨u,hu,ru⟩:=rv.get hx;obtain ⟨f0,f1,f2,f3,f4,f5⟩:=hf it (by simp);refine wpAny_pyNext_list_item st p.isList (x:=u) (by simpa using hu) fun h' st' sb=>?_
  have I1:Inv X pins U H { s with heap:=h' }:=I.turned (t':=s.toks) (fun b o hb e=>(sb.2 b hb).trans e) f0 f1 f3 f4 f5;obtain ⟨o,e,c,d⟩:=id st';exact ⟨u,rfl,Ji (s:={ s with heap:=h' }) e c d (by decide) ⟨x,H,I1,ru,⟨rfl,fun ys hy=>by rw [I.list_inj hy hq];exact hx⟩,st',fun b hb=>(hf b hb).1⟩⟩
 done:=by intro X hP hw hK hc i pins s U H E I hf st hg;subst hP hw hK;obtain ⟨xs,hq,hx⟩:=hg;obtain ⟨its,rv,p,hz⟩:=I.list hq;obtain ⟨f0,f1,f2,f3,f4,f5⟩:=hf it (by simp);have hl:=rv.length;exact wpAny_pyNext_list_end (I.ok.hd hc) st p.isList (by simp;lia) fun h' eb=>⟨rfl,I.turned (t':=s.toks) (fun b o hb e=>eb b o hb e) f0 f1 f3 f4 f5⟩
 self:=fun _ _ _ _ _ st h=>wpAny_pyIter_listiter st h
theorem yM {P:Program} {w:World} {K:Frag} {tg:Expr} (a it:Addr):Turn P w K tg (Itt K a) [it] it (fun i h=>h.IsTupleIter it a i) where
 mem:=by simp
 obj:=fun i h st b hb=>by
  have e:b=it:=by simpa using hb
  subst e;obtain ⟨o,e,c,d⟩:=st;exact ⟨o,e,fun v z=>by rw [d] at z;cases z⟩
 keep:=fun i h h' st k=>st.at fun o e=>k it (by simp) o e
 item:=by
  intro X hP hw hK hc i pins s U H E I hf st hg;subst hP hw hK;obtain ⟨xs,x,hq,hx⟩:=hg;obtain ⟨its,rv,p,hz⟩:=I.tuple hq;obtain ⟨u,hu,ru⟩:=rv.get hx;obtain ⟨f0,f1,f2,f3,f4,f5⟩:=hf it (by simp);refine wpAny_pyNext_tuple_item st (show s.heap.IsTuple a its.toArray from p) (x:=u) (by simpa using hu) fun h' st' sb=>?_
  have I1:Inv X pins U H { s with heap:=h' }:=I.turned (t':=s.toks) (fun b o hb e=>(sb.2 b hb).trans e) f0 f1 f3 f4 f5;obtain ⟨o,e,c,d⟩:=id st';exact ⟨u,rfl,Ji (s:={ s with heap:=h' }) e c d (by decide) ⟨x,H,I1,ru,⟨rfl,fun ys hy=>by rw [I.tuple_inj hy hq];exact hx⟩,st',fun b hb=>(hf b hb).1⟩⟩
 done:=by intro X hP hw hK hc i pins s U H E I hf st hg;subst hP hw hK;obtain ⟨xs,hq,hx⟩:=hg;obtain ⟨its,rv,p,hz⟩:=I.tuple hq;obtain ⟨f0,f1,f2,f3,f4,f5⟩:=hf it (by simp);have hl:=rv.length;exact wpAny_pyNext_tuple_end (I.ok.hd hc) st (show s.heap.IsTuple a its.toArray from p) (by simp;lia) fun h' eb=>⟨rfl,I.turned (t':=s.toks) (fun b o hb e=>eb b o hb e) f0 f1 f3 f4 f5⟩
 self:=fun _ _ _ _ _ st h=>wpAny_pyIter_tupleiter st h
theorem yL {P:Program} {w:World} {K:Frag} {tg:Expr} (it:Addr) (lo:Int) (n:Nat):Turn P w K tg (Itr lo n) [it] it (fun i h=>IsRangeIter h it (lo+(i:Nat) * 1) ((n:Int) - (i:Nat)) 1) where
 mem:=by simp
 obj:=fun i h st b hb=>by
  have e:b=it:=by simpa using hb
  subst e;exact ⟨_,st,fun v z=>by have z':Data.fields _=Data.cell v:=z;cases z'⟩
 keep:=fun i h h' st k=>k it (by simp) _ st
 item:=by
  intro X hP hw hK hc i pins s U H E I hf st hg;subst hP hw hK;obtain ⟨f0,f1,f2,f3,f4,f5⟩:=hf it (by simp);have W:=Walks.range (prog:=X.prog) (w:=X.w) (I.ok.hd hc) it lo 1 n;refine W.item i s _ _ hg st fun v h' tk hv st' kk=>?_
  obtain ⟨t,rfl⟩:=hv;have I1:Inv X pins U H { s with heap:=h',toks:=tk }:=I.turned (fun b o hb e=>kk b o (by simpa using hb) e) f0 f1 f3 f4 f5;refine ⟨_,rfl,Ji (s:={ s with heap:=h',toks:=tk }) (n:="range_iterator") st' rfl rfl (by decide) ⟨.int (lo+i),H,I1,⟨t,?_⟩,⟨rfl,rfl⟩,st',fun b hb=>(hf b hb).1⟩⟩;rw [Int.mul_one]
 done:=by intro X hP hw hK hc i pins s U H E I hf st hg;subst hP hw hK;obtain ⟨f0,f1,f2,f3,f4,f5⟩:=hf it (by simp);exact wpAny_pyNext_range_end (I.ok.hd hc) st (by have:n<=i:=hg;lia) fun h' eb=>⟨rfl,I.turned (t':=s.toks) (fun b o hb e=>eb b o hb e) f0 f1 f3 f4 f5⟩
 self:=fun _ _ _ _ _ st h=>wpAny_pyIter_rangeiter st h
section
variable {X:Cx} {tg:Expr}
theorem xx {pins:List (Addr×Obj)} {U:St} {H:Hp} {s:Shared} {R:It->Hp->Prop} {E:Value->Shared->Prop} {lo hi:Int} {t u v:Tok} {tk:Nat} (I:Inv X pins U H s) (h1:-(2 ^ 62)<=lo) (h2:lo<2 ^ 62) (h3:-(2 ^ 62)<=hi) (h4:hi<2 ^ 62)
  (q:R (Itr lo (hi - lo).toNat) H):wpAny (model X.prog X.w) X.A (pyIter (.ref s.heap.objs.size)) (PIE X pins U tg R) E { s with heap:=s.heap.push { cls:=.type "range",data:=.fields #[.int lo t,.int hi u,.int 1 v] },toks:=tk }:=by
 refine wpAny_pyIter_range (IsRange.new ..) (small_one h1 h2 h3 h4) ?_
 have I1:Inv X pins U H { s with heap:=s.heap.push { cls:=.type "range",data:=.fields #[.int lo t,.int hi u,.int 1 v] },toks:=tk }:=I.kept fun b o e=>τ _ e
 refine ⟨(s.heap.push { cls:=.type "range",data:=.fields #[.int lo t,.int hi u,.int 1 v] }).objs.size,[(s.heap.push { cls:=.type "range",data:=.fields #[.int lo t,.int hi u,.int 1 v] }).objs.size],_,_,H,rfl,
  I1.kept (t':=tk) fun b o e=>τ _ e,yL _ lo (hi - lo).toNat,?_,fun b hb=>?_,q⟩
 . have e1:lo+((0:Nat):Int) * 1=lo:=by simp
   have e2:(((hi - lo).toNat:Nat):Int) - ((0:Nat):Int)=Builtin.Range.rangeSize lo hi 1:=by rw [rangeSize_one];split<;>lia
   show IsRangeIter _ _ (lo+((0:Nat):Int) * 1) ((((hi - lo).toNat:Nat):Int) - ((0:Nat):Int)) 1;rw [e1,e2];exact Ψ _ rfl
 . have e:b=(s.heap.push { cls:=.type "range",data:=.fields #[.int lo t,.int hi u,.int 1 v] }).objs.size:=by simpa using hb
   subst e;exact I1.fpOk (η _) (I1.hok.fresh (η _))
noncomputable def y20 (wi:TI) (g:TG) (tb:TS):TS:=fun D U H=>wi U H fun J H1=>∃W:Nat->Nat->St->Hp->Prop,(∃m,W 0 m U H1)/\∀i m U H,W i m U H ->
 (J.stop i H/\D.nx U H)\/(J.go i H/\∃N:St->Hp->Prop,(∀σ' H',N σ' H'->∃m',m'<m/\W (i+1) m' σ' H')/\∀x H',J.yld i H x H'->g x U H' fun σ2 H2=>tb { D with nx:=N,ct:=N,bk:=D.nx } σ2 H2)
noncomputable def Di (fp:List Addr) (h:Heap):List (Addr×Obj):=fp.filterMap fun b=>(h.get? b).map fun o=>(b,o)
theorem Go (hb:b∈fp) (e:h.get? b=some o):(b,o)∈Di fp h:=List.mem_filterMap.mpr ⟨b,hb,by rw [e];rfl⟩
theorem ym (hp:p∈Di fp h):p.1∈fp/\h.get? p.1=some p.2:=by
 obtain ⟨b,hb,e⟩:=List.mem_filterMap.mp hp;cases q:h.get? b with
 | none=>rw [q] at e;cases e
 | some o=>
  rw [q] at e
  have e':(b,o)=p:=Option.some.inj e
  subst e'
  exact ⟨hb,q⟩
theorem Inv.pinned (I:Inv X pins U H s) (hf:∀b∈fp,G1 X pins H b) (ho:∀b∈fp,∃o,s.heap.get? b=some o/\∀v,o.data≠.cell v):Inv X (pins++Di fp s.heap) U H s:=
 I.pins_of fun p hp=>(List.mem_append.mp hp).elim (fun z=>I.pin p (List.mem_append_right _ z)) fun z=>by obtain ⟨hb,e⟩:=ym z;obtain ⟨f0,f1,f2,_⟩:=hf p.1 hb;obtain ⟨o,e',d⟩:=ho p.1 hb;rw [e] at e';cases e';exact ⟨e,f0,f1,f2,d⟩
theorem Inv.unpinned (I:Inv X (pins++pl) U H s):Inv X pins U H s:=I.pins_of fun p hp=>I.pin p (List.mem_append_right _ (List.mem_append_left _ hp))
theorem kZ (hp:PassesOwn (model X.prog X.w) X.A X.env X.xe) (hc:X.calm=true) (hi:PI X tg iter wi) (hg:PG X tg g) (hb:PSs X body tb)
  (hs:∀x,foldedSetIterable iter X.env x=pure x:=by intro _;rfl):PS X (.For tg iter body [] pos) (y20 wi g tb):=by
 intro pins s U H D I h
 refine wpAny_For (thn (hi pins s U H _ I h) fun v s1 h1=>thn h1 fun itv s2 h2=>?_) hs
 obtain ⟨it,fp,tn,J,H2,e,I2,T,st2,f2,W,⟨m0,w0⟩,turn⟩:=h2
 subst e
 have stat:∀{H':Hp},(∀b∈fp,H' b=none)->∀b∈fp,G1 X pins H' b:=fun hn b hb=>⟨hn b hb,(f2 b hb).2⟩
 refine codeAny_forLoop_any (fun n s'=>∃i σ' H',Inv X pins σ' H' s'/\tn i s'.heap/\(∀b∈fp,H' b=none)/\W i n σ' H') ?_ m0 ⟨0,U,H2,I2,st2,fun b hb=>(f2 b hb).1,w0⟩
 rintro n s3 ⟨i,σ3,H3,I3,st3,fr3,w3⟩
 rcases turn i n σ3 H3 w3 with ⟨stop,qn⟩ | ⟨go,N,hN,step⟩
 . refine wpAny_passesOwn hp (thn (T.done X rfl rfl rfl hc i pins s3 σ3 H3 X.xe I3 (stat fr3) st3 stop) fun r s4 ⟨hr,I4⟩=>?_);subst hr;exact wpAny_execs_nil ⟨σ3,H3,I4,qn⟩
 . refine wpAny_passesOwn hp (thn (T.item X rfl rfl rfl hc i pins s3 σ3 H3 X.xe I3 (stat fr3) st3 go) fun r s4 ⟨u,hr,h4⟩=>?_);subst hr;refine wpAny_passesOwn hp (thn h4 fun _ s5 ⟨x,H5,I5,r5,y5,st5,fr5⟩=>?_);have I5':=I5.pinned (stat fr5) (T.obj _ _ st5);refine wpAny_passesOwn hp (thn (hg _ s5 σ3 H5 x u _ I5' r5 (step x H5 y5)) fun _ s6 ⟨σ6,H6,I6,q6⟩=>?_);refine wpAny_passesOwn hp (thn (hb _ s6 σ6 H6 _ I6 q6) fun f s7 q7=>?_);have again:∀{σ7:St} {H7:Hp},Inv X (pins++Di fp s5.heap) σ7 H7 s7->N σ7 H7->∃m,m<n/\∃i σ' H',Inv X pins σ' H' s7/\tn i s7.heap/\(∀b∈fp,H' b=none)/\W i m σ' H':=fun {σ7 H7} I7 n7=>by obtain ⟨m',hm,w7⟩:=hN σ7 H7 n7;refine ⟨m',hm,i+1,σ7,H7,I7.unpinned,T.keep _ _ _ st5 fun b hb o e=>(I7.pin (b,o) (List.mem_append_right _ (List.mem_append_right _ (Go hb e)))).1,fun b hb=>?_,w7⟩;obtain ⟨o,e,d⟩:=T.obj _ _ st5 b hb;exact (I7.pin (b,o) (List.mem_append_right _ (List.mem_append_right _ (Go hb e)))).2.1
   cases f with
   | next=>obtain ⟨σ7,H7,I7,n7⟩:=q7;exact again I7 n7
   | cont=>obtain ⟨σ7,H7,I7,n7⟩:=q7;exact again I7 n7
   | brk=>obtain ⟨σ7,H7,I7,q7⟩:=q7;exact ⟨σ7,H7,I7.unpinned,q7⟩
   | ret v=>obtain ⟨x7,σ7,H7,I7,r7,q7⟩:=q7;exact ⟨x7,σ7,H7,I7.unpinned,r7,q7⟩
end
abbrev R2:=V->V->Hp->VK->Prop
def OpR (X:Cx) (f:Value->Value->Sem Value) (r:R2):Prop:=
 ∀(pins:List (Addr×Obj)) (s:Shared) (U:St) (H:Hp) (x y:V) (v u:Value) (Q:VK),Inv X pins U H s->RelV x v->RelV y u->r x y H Q ->
  wpAny (model X.prog X.w) X.A (f v u) (EP X pins U Q) X.xe s
def UnR (X:Cx) (f:Value->Sem Value) (r:V->Hp->VK->Prop):Prop:=
 ∀(pins:List (Addr×Obj)) (s:Shared) (U:St) (H:Hp) (x:V) (v:Value) (Q:VK),Inv X pins U H s->RelV x v->r x H Q ->
  wpAny (model X.prog X.w) X.A (f v) (EP X pins U Q) X.xe s
def CallR (X:Cx) (f:Value) (r:List V->Hp->VK->Prop):Prop:=
 ∀(pins:List (Addr×Obj)) (s:Shared) (U:St) (H:Hp) (xs:List V) (us:List Value) (Q:VK),Inv X pins U H s->Vals xs us->r xs H Q ->
  wpAny (model X.prog X.w) X.A (call f us) (EP X pins U Q) X.xe s
def y21 (X:Cx) (r:V->Hp->(Bool->Hp->Prop)->Prop):Prop:=
 ∀(pins:List (Addr×Obj)) (s:Shared) (U:St) (H:Hp) (x:V) (v:Value) (Q:Bool->Hp->Prop),Inv X pins U H s->RelV x v->r x H Q ->
  wpAny (model X.prog X.w) X.A (truthy v) (TP X pins U Q) X.xe s
noncomputable def tOp (r:R2) (ta tb:TE):TE:=fun U H Q=>ta U H fun x H1=>tb U H1 fun y H2=>r x y H2 Q
noncomputable def tUn (r:V->Hp->VK->Prop) (ta:TE):TE:=fun U H Q=>ta U H fun x H1=>r x H1 Q
noncomputable def rI (C:Int->Int->Prop) (g:Int->Int->V):R2:=fun x y H Q=>∃i j,x=.int i/\y=.int j/\C i j/\Q (g i j) H
noncomputable def rI0 (g:Int->Int->V):R2:=fun x y H Q=>∃i j,x=.int i/\y=.int j/\Q (g i j) H
def rU (g:Int->V):V->Hp->VK->Prop:=fun x H Q=>∃i,x=.int i/\Q (g i) H
section
variable {X:Cx} {a b:Expr} {ta tb:TE} {pos:Pos}
theorem Hf (ha:PE X a ta) (hb:PE X b tb) {pins:List (Addr×Obj)} {s:Shared} {U:St} {H:Hp} {R:V->V->Hp->Prop} (I:Inv X pins U H s)
  (h:ta U H fun x H1=>tb U H1 fun y H2=>R x y H2) {Q:Value->Shared->Prop} {f:Value->Value->Sem Value}
  (hf:∀v u s2 x y H2,Inv X pins U H2 s2->RelV x v->RelV y u->R x y H2->wpAny (model X.prog X.w) X.A (f v u) Q X.xe s2) :
  wpAny (model X.prog X.w) X.A (eval a X.env) (fun v s₁=>wpAny (model X.prog X.w) X.A (eval b X.env) (fun u s₂=>wpAny (model X.prog X.w) X.A (f v u) Q X.xe s₂) X.xe s₁) X.xe s:=by
 refine thn (ha pins s U H _ I h) fun v s1 ⟨x,H1,I1,r1,q1⟩=>?_
 refine thn (hb pins s1 U H1 _ I1 q1) fun u s2 ⟨y,H2,I2,r2,q2⟩=>?_
 exact hf v u s2 x y H2 I2 r1 r2 q2
theorem jc (ho:OpR X (binaryOp op) r) (ha:PE X a ta) (hb:PE X b tb):PE X (.BinOp a op b pos) (tOp r ta tb):=by intro pins s U H Q I h;exact wpAny_BinOp (Hf ha hb I h fun v u s2 x y H2 I2 rx ry q=>ho pins s2 U H2 x y v u Q I2 rx ry q)
theorem jb (ho:UnR X (unaryOp op) r) (ha:PE X a ta):PE X (.UnaryOp op a pos) (tUn r ta):=by intro pins s U H Q I h;exact UnaryOp_ (thn (ha pins s U H _ I h) fun v s1 ⟨x,H1,I1,r1,q1⟩=>ho pins s1 U H1 x v Q I1 r1 q1)
theorem opI {f:Value->Value->Sem Value} {C:Int->Int->Prop} {g:Int->Int->Int}
  (rule:∀(i j:Int) (t u:Tok) (s:Shared) (Q:Value->Shared->Prop) (E:Value->Shared->Prop),C i j->Q (.int (g i j) s.toks) { s with toks:=s.toks+1 }->wpAny (model X.prog X.w) X.A (f (.int i t) (.int j u)) Q E s) :
  OpR X f (rI C fun i j=>.int (g i j)):=by
 intro pins s U H x y v u Q I rx ry h
 obtain ⟨i,j,rfl,rfl,hc,q⟩:=h
 obtain ⟨t,rfl⟩:=rx
 obtain ⟨t',rfl⟩:=ry
 exact rule i j t t' s _ _ hc ⟨.int (g i j),H,I.tok _,⟨_,rfl⟩,q⟩
theorem Yq {f:Value->Value->Sem Value} {g:Int->Int->Int}
  (rule:∀(i j:Int) (t u:Tok) (s:Shared) (Q:Value->Shared->Prop) (E:Value->Shared->Prop),Q (.int (g i j) s.toks) { s with toks:=s.toks+1 }->wpAny (model X.prog X.w) X.A (f (.int i t) (.int j u)) Q E s) :
  OpR X f (rI0 fun i j=>.int (g i j)):=by
 intro pins s U H x y v u Q I rx ry h
 obtain ⟨i,j,rfl,rfl,q⟩:=h
 obtain ⟨t,rfl⟩:=rx
 obtain ⟨t',rfl⟩:=ry
 exact rule i j t t' s _ _ ⟨.int (g i j),H,I.tok _,⟨_,rfl⟩,q⟩
theorem Eu {f:Value->Value->Sem Value} {g:Int->Int->Bool}
  (rule:∀(i j:Int) (t u:Tok) (s:Shared) (Q:Value->Shared->Prop) (E:Value->Shared->Prop),Q (.bool (g i j)) s->wpAny (model X.prog X.w) X.A (f (.int i t) (.int j u)) Q E s) :
  OpR X f (rI0 fun i j=>.bl (g i j)):=by
 intro pins s U H x y v u Q I rx ry h
 obtain ⟨i,j,rfl,rfl,q⟩:=h
 obtain ⟨t,rfl⟩:=rx
 obtain ⟨t',rfl⟩:=ry
 exact rule i j t t' s _ _ ⟨.bl (g i j),H,I,rfl,q⟩
def R9 (i j:Int):Prop:=0<j/\j<1073741824
def O1 (i j:Int):Prop:=0<=j/\j<=1000000/\i.natAbs<2 ^ 64
def CMul (i j:Int):Prop:=(-(2 ^ 64)<i/\i<2 ^ 64)\/(-(2 ^ 64)<j/\j<2 ^ 64)
theorem CMul.ok (h:CMul i j):IntMulOk i j:=by
 rcases h with ⟨h1,h2⟩ | ⟨h1,h2⟩
 . exact .of_left (intBits_le_64 h1 h2)
 . exact .of_right (intBits_le_64 h1 h2)
theorem op_add:OpR X (binaryOp .Add) (rI0 fun i j=>.int (i+j)):=Yq fun _ _ _ _ _ _ _ q=>add_int q
theorem op_sub:OpR X (binaryOp .Sub) (rI0 fun i j=>.int (i - j)):=Yq fun _ _ _ _ _ _ _ q=>sub_int q
theorem op_mul:OpR X (binaryOp .Mult) (rI CMul fun i j=>.int (i * j)):=opI fun _ _ _ _ _ _ _ hc q=>mul_int q hc.ok
theorem op_fdiv:OpR X (binaryOp .FloorDiv) (rI R9 fun i j=>.int (i / j)):=opI fun i j _ _ _ _ _ hc q=>by have h1:(0:Int)<j:=hc.1;have h2:j<1073741824:=hc.2;exact floordiv_int (by omega) (by rw [Int.fdiv_eq_ediv_of_nonneg i (by omega)];exact q) (.inl (PyProof.noPylong_small (by omega)))
theorem op_mod:OpR X (binaryOp .Mod) (rI (fun _ j=>0<j) fun i j=>.int (i % j)):=opI fun i j _ _ _ _ _ hc q=>by have h1:(0:Int)<j:=hc;exact mod_int' (by lia) (by rw [Int.fmod_eq_emod_of_nonneg i (by lia)];exact q)
theorem op_pow:OpR X (binaryOp .Pow) (rI O1 fun i j=>.int (i ^ j.toNat)):=opI fun _ _ _ _ _ _ _ hc q=>pow_int_small hc.1 hc.2.1 hc.2.2 q
theorem unI {f:Value->Sem Value} {g:Int->Int}
  (rule:∀(i:Int) (t:Tok) (s:Shared) (Q:Value->Shared->Prop) (E:Value->Shared->Prop),Q (.int (g i) s.toks) { s with toks:=s.toks+1 }->wpAny (model X.prog X.w) X.A (f (.int i t)) Q E s) :
  UnR X f (rU fun i=>.int (g i)):=by
 intro pins s U H x v Q I rx h
 obtain ⟨i,rfl,q⟩:=h
 obtain ⟨t,rfl⟩:=rx
 exact rule i t s _ _ ⟨.int (g i),H,I.tok _,⟨_,rfl⟩,q⟩
theorem un_neg:UnR X (unaryOp .USub) (rU fun i=>.int (-i)):=unI fun _ _ _ _ _ q=>neg_int q
end
section
variable {X:Cx} {a b:Expr} {ta tb:TE} {pos:Pos}
theorem kY (I:Inv X pins U H s) (q:Q (.bl k) H) (e:k=k'):EP X pins U Q (.bool k') s:=by subst e;exact ⟨.bl k,H,I,rfl,q⟩
theorem op_lt:OpR X (compareOp .Lt) (rI0 fun i j=>.bl (decide (i<j))):=Eu fun _ _ _ _ _ _ _ q=>lt_int q
theorem op_le:OpR X (compareOp .LtE) (rI0 fun i j=>.bl (decide (i<=j))):=Eu fun _ _ _ _ _ _ _ q=>le_int q
theorem op_gt:OpR X (compareOp .Gt) (rI0 fun i j=>.bl (decide (j<i))):=Eu fun _ _ _ _ _ _ _ q=>gt_int q
theorem op_ge:OpR X (compareOp .GtE) (rI0 fun i j=>.bl (decide (j<=i))):=Eu fun _ _ _ _ _ _ _ q=>ge_int q
theorem Qs:OpR X (compareOp .Is) (fun x y H Q=>y=.non/\Q (.bl (decide (x=.non))) H):=by
 intro pins s U H x y v u Q I rx ry h;obtain ⟨rfl,q⟩:=h;cases ry;refine is_none_gen (kY I q ?_);cases x<;>first
  | (cases rx;rfl)
  | (obtain ⟨t,rfl⟩:=rx;rfl)
theorem OpR.or (h:OpR X f r) (h':OpR X f r'):OpR X f (fun x y H Q=>r x y H Q\/r' x y H Q):=by
 intro pins s U H x y v u Q I rx ry q;rcases q with q | q
 . exact h pins s U H x y v u Q I rx ry q
 . exact h' pins s U H x y v u Q I rx ry q
theorem o7 (b:Expr) (h:op≠.In:=by decide) (h2:op≠.NotIn:=by decide):behindInMarks op b=false:=by
 have e1:(op==CmpOp.In)=false:=by cases op<;>first | rfl | exact absurd rfl h
 have e2:(op==CmpOp.NotIn)=false:=by cases op<;>first | rfl | exact absurd rfl h2
 cases b<;>simp [behindInMarks,e1,e2]
theorem wa (ho:OpR X (compareOp op) r) (ha:PE X a ta) (hb:PE X b tb) (hm:behindInMarks op b=false):PE X (.Compare a [op] [b] pos) (tOp r ta tb):=by intro pins s U H Q I h;exact wpAny_Compare1 (Hf ha hb I h fun v u s2 x y H2 I2 rx ry q=>ho pins s2 U H2 x y v u Q I2 rx ry q) hm
def Yp (K:Frag) (x:V) (H:Hp) (k:Bool):Prop:=
 match x with
 | .non=>k=false
 | .bl b=>k=b
 | .int i=>k=(i != 0)
 | .str y=>y.length<=sizeLine/\k=((y.length:Int) != 0)
 | .byt y=>y.size<=sizeLine/\k=((y.size:Int) != 0)
 | .ref p=>(∃xs,SqL K H p xs/\k=!xs.isEmpty)\/(∃xs,SqT K H p xs/\k=!xs.isEmpty)\/∃kvs,H p=some (.dK kvs)/\k=!kvs.isEmpty
 | _=>False
theorem yK (r:KV kvs vs):(!vs.isEmpty)=!kvs.isEmpty:=by cases r<;>rfl
theorem Wb (r:Vals xs its):(!its.toArray.isEmpty)=!xs.isEmpty:=by cases r<;>simp
theorem Z1:(sizeLine:Nat)<2 ^ 63:=by rw [sizeLine_eq];decide
theorem Qr:y21 X (fun x H Q=>∃k,Yp X.K x H k/\Q k H):=by
 intro pins s U H x v Q I rx h;obtain ⟨k,e,q⟩:=h;have hl:=Z1;have hs:sizeLine=16777216:=sizeLine_eq;cases x with
 | non=>
  cases rx
  have e':k=false:=e
  subst e'
  exact truthy_none ⟨H,I,q⟩
 | bl b=>
  cases rx
  have e':k=b:=e
  subst e'
  exact wpAny_truthy_bool ⟨H,I,q⟩
 | int i=>
  obtain ⟨t,rfl⟩:=rx
  have e':k=(i != 0):=e
  subst e'
  exact PySem.P.truthy_int ⟨H,I,q⟩
 | str y=>
  obtain ⟨t,rfl⟩:=rx
  obtain ⟨hy,e'⟩:y.length<=sizeLine/\k=((y.length:Int) != 0):=e
  subst e'
  exact PySem.P.truthy_str (by lia) ⟨H,I.tok _,q⟩
 | byt y=>
  obtain ⟨t,rfl⟩:=rx
  obtain ⟨hy,e'⟩:y.size<=sizeLine/\k=((y.size:Int) != 0):=e
  subst e'
  exact PySem.W.truthy_bytes (by lia) ⟨H,I.tok _,q⟩
 | ref p=>
  cases rx
  have e':(∃xs,SqL X.K H p xs/\k=!xs.isEmpty)\/(∃xs,SqT X.K H p xs/\k=!xs.isEmpty)\/∃kvs,H p=some (.dK kvs)/\k=!kvs.isEmpty:=e
  rcases e' with ⟨xs,hx,e'⟩ | ⟨xs,hx,e'⟩ | ⟨kvs,hx,e'⟩
  . subst e';obtain ⟨its,r,pl,hz⟩:=I.list hx;have hlen:=r.length;exact wpAny_truthy_list pl.isList (by simp only [List.size_toArray];lia) ⟨H,I.tok _,by rw [Wb r];exact q⟩
  . subst e';obtain ⟨its,r,pl,hz⟩:=I.tuple hx;have hlen:=r.length;exact truthy_tuple pl (by simp only [List.size_toArray];lia) ⟨H,I.tok _,by rw [Wb r];exact q⟩
  . subst e';obtain ⟨hz,hS,vs,r,m⟩:kvs.length<=sizeLine/\(p==sysModules)=false/\∃vs,KV kvs vs/\s.heap.DictOf (G9 X.prog X.w) p vs:=I.hok p _ hx;have hlen:kvs.length=vs.length:=Paired.length r;exact wpAny_truthy_dict hS m (by lia) ⟨H,I.tok _,by rw [yK r];exact q⟩
 | _=>exact (show False from e).elim
theorem A9 (r:Vals [x] us):∃u,us=[u]/\RelV x u:=by
 cases r with
 | cons r1 r2=>cases r2;exact ⟨_,rfl,r1⟩
theorem Cs (r:Vals [x,y] us):∃u w',us=[u,w']/\RelV x u/\RelV y w':=by
 cases r with
 | cons r1 r2=>
  cases r2 with
  | cons r3 r4=>cases r4;exact ⟨_,_,rfl,r1,r3⟩
theorem yl (hc:X.calm=true):CallR X (.builtin "max") (fun xs H Q=>∃i j,xs=[.int i,.int j]/\Q (.int (if j > i then j else i)) H):=by
 intro pins s U H xs us Q I r h;obtain ⟨i,j,rfl,q⟩:=h;obtain ⟨u,w',rfl,⟨t,rfl⟩,⟨t',rfl⟩⟩:=Cs r;refine max_two_ints (I.ok.hd hc) fun h' tk k=>⟨_,H,I.kept k,?_,q⟩
 by_cases hj:j > i
 . rw [ζ hj,ζ hj];exact ⟨_,rfl⟩
 . rw [ξ hj,ξ hj];exact ⟨_,rfl⟩
theorem yk (hc:X.calm=true):CallR X (.builtin "min") (fun xs H Q=>∃i j,xs=[.int i,.int j]/\Q (.int (if j<i then j else i)) H):=by
 intro pins s U H xs us Q I r h;obtain ⟨i,j,rfl,q⟩:=h;obtain ⟨u,w',rfl,⟨t,rfl⟩,⟨t',rfl⟩⟩:=Cs r;refine min_two_ints (I.ok.hd hc) fun h' tk k=>⟨_,H,I.kept k,?_,q⟩
 by_cases hj:j<i
 . rw [ζ hj,ζ hj];exact ⟨_,rfl⟩
 . rw [ξ hj,ξ hj];exact ⟨_,rfl⟩
theorem call_int1:CallR X (.type "int") (fun xs H Q=>(∃i,xs=[.int i]/\Q (.int i) H)\/∃k,xs=[.bl k]/\Q (.int (if k then 1 else 0)) H):=by
 intro pins s U H xs us Q I r h;rcases h with ⟨i,rfl,q⟩ | ⟨k,rfl,q⟩
 . obtain ⟨u,rfl,t,rfl⟩:=A9 r;exact call_int_int ⟨.int i,H,I,⟨_,rfl⟩,q⟩
 . obtain ⟨u,rfl,r1⟩:=A9 r;cases r1;exact call_int_bool ⟨.int (if k then 1 else 0),H,I.tok _,⟨_,rfl⟩,q⟩
end
structure ObjM (h:Heap) (x dx C:Addr) (mA:Str->Option Value):Prop where
 obj:h.get? x=some (instObj C dx)
 ns:h.Ns1 dx mA
 ne:dx≠x
theorem yj {h:Heap} {dx:Addr} {mA:Str->Option Value} (n:h.Ns1 dx mA):∃od,h.get? dx=some od/\∀name,lookIn name od=some (mA name):=by
 obtain ⟨o,es,ep,ho,hd,hk,_,hm⟩:=n;refine ⟨o,ho,fun name=>?_⟩;have e:=hm name;unfold nsFind findBy at e;rw [<-Array.find?_toList] at e;unfold lookIn;rw [hd];dsimp only;split
 . rename_i y q;rw [q] at e;exact congrArg some e
 . rename_i q;rw [q] at e;have a:es.toList.any (·.refKey)=false:=by rw [List.any_eq_false];intro y hy;obtain ⟨z,t,hkey⟩:=hk y (Array.mem_toList_iff.mp hy);simp [DictEntry.refKey,hkey]
   have a':¬es.toList.any (·.refKey)=true:=by rw [a];exact θ
   rw [ξ a'];exact congrArg some e
theorem ObjM.look (I:ObjM h x dx C mA):∃od,PySem.W.InstAt h x (instObj C dx) C (some od)/\∀name,lookIn name od=some (mA name):=
 let ⟨od,ho,hl⟩:=yj I.ns
 ⟨od,⟨I.obj,rfl,rfl,ho⟩,hl⟩
section
variable {prog:Program} {w:World} {A:Around} {E:Value->Shared->Prop} {s:Shared} {K:Frag} {x dx C f:Addr} {mA:Str->Option Value} {name:Str} {v:Value}
theorem vZ (X:K.In s.heap) (I:ObjM s.heap x dx C mA) (hg:PySem.W.plainGet K C name=true) (hh:PySem.W.hasDictIn K C=true)
  (ha:PySem.W.findIn K (.ref C) name=some none) (hv:mA name=some v) (hv':PySem.W.handedIn v=true) (h:Q v { s with toks:=s.toks+1 }) :
  wpAny (model prog w) A (getAttr (.ref x) name expr) Q E s:=by
 obtain ⟨od,J,hl⟩:=I.look
 exact PySem.W.get_value X J (PySem.W.plainGet_of hg).1 (PySem.W.findObj_own hh ha rfl (by rw [hl,hv])) hv' h
theorem xw (X:K.In s.heap) (I:ObjM s.heap x dx C mA) (hg:PySem.W.plainGet K C name=true)
  (hf:PySem.W.findIn K (.ref C) name=some (some (.ref f))) (ht:isFn K (.ref f)=true) (hv:mA name=none) (h:Q (.ref f,[.ref x]) s) :
  wpAny (model prog w) A (getMethod (.ref x) name pl) Q E s:=by
 obtain ⟨od,J,hl⟩:=I.look
 exact PySem.W.method_fn X J (PySem.W.plainGet_of hg).1 (PySem.W.plainGet_of hg).2 hf (beq_iff_eq.mp ht) (by show (lookIn name od).map (·.isSome)=some false;rw [hl,hv];rfl) h
theorem vY (X:K.In s.heap) (I:ObjM s.heap x dx C mA)
  (hs:PySem.W.findIn K (.ref C) "__setattr__"=some (some (.builtin "object.__setattr__"))) (hp:plainOver K C=true) (ht:PySem.W.takerIn K C name=some none) (hh:PySem.W.hasDictIn K C=true)
  (hw:PySem.Within mA ns) (hsz:ns.length<=sizeLine)
  (h:∀h',ObjM h' x dx C (fun y=>if y=name then some v else mA y)->Heap.SameBut dx s.heap h'->Q () { s with heap:=h',toks:=s.toks+2 }) :
  wpAny (model prog w) A (setAttr (.ref x) name v) Q E s:=by
 obtain ⟨od,J,hl⟩:=I.look
 refine PySem.W.set_plain X J hs (PySem.W.osa_open (s:={ s with toks:=s.toks+1 }) (r:=none) X J hp ht fun b=>?_)
 obtain ⟨cd,hc,hd'⟩:=PySem.W.any_some hh
 have hx:s.heap.get? x=some ⟨.ref C,some dx,.plain,#[]⟩:=I.obj
 refine δ (ω (δ (δ (wpAny_loadPart hx (δ (PySem.W.Looks.here (s:={ s with toks:=s.toks+1 }) (PySem.W.looks_clsIn X hc) ?_))))))
 rw [hd']
 refine ω (a:=some dx) (δ (ω (δ ?_)))
 refine wpAny_nsSet1 (s:={ s with toks:=s.toks+1 }) I.ns fun h' hn2 hs2=>?_
 obtain ⟨oD,esD,epD,hoD,hdD,hcD⟩:=hn2.count (PySem.Within.cons name v hw)
 refine δ (wpAny_lookBehind hoD (by rw [hdD];exact pastItsLine_dict (Nat.le_trans hcD (by rw [List.length_cons];lia))) ?_)
 exact ω (h _ ⟨(hs2.2 _ (Ne.symm I.ne)).trans I.obj,hn2,I.ne⟩ hs2)
theorem xv (X:K.In s.heap) (hm:PySem.W.makesIn K C=true)
  (hi:PySem.W.findIn K (.ref C) "__init__"=some (some (.ref f))) (hf:PySem.W.typeIn K (.ref f)=some (.type "function"))
  (h:codeAny (model prog w) (A.under (.builtin "type.__call__" ⟨.ref C::vs,kw⟩)) (.call (.ref f) ⟨.ref (s.heap.objs.size+1)::vs,kw⟩) (PySem.W.InitBack (s.heap.objs.size+1) R)
   { s with heap:=(s.heap.push emptyDict).push (instObj C s.heap.objs.size) }) :
  codeAny (model prog w) A (.call (.ref C) ⟨vs,kw⟩) R s:=by
 obtain ⟨hh,g,d,t,os⟩:=s
 exact PySem.W.make_core (PySem.W.makes_of X hm) (PySem.W.looks_findIn X hi) (fun self=>PySem.W.bind_fn X self hf) (.inl rfl) h
theorem yi (X:K.In s.heap) (hm:PySem.W.makesIn K C=true)
  (hi:PySem.W.findIn K (.ref C) "__init__"=some (some (.builtin "object.__init__")))
  (hb:∀self,Looks (model prog w) s.heap (bindSpecial (.builtin "object.__init__") self) (.builtin "object.__init__",[self]))
  (h:codeAny (model prog w) (A.under (.builtin "type.__call__" ⟨[.ref C],[]⟩)) (.call (.builtin "object.__init__") ⟨[.ref (s.heap.objs.size+1)],[]⟩) (PySem.W.InitBack (s.heap.objs.size+1) R)
   { s with heap:=(s.heap.push emptyDict).push (instObj C s.heap.objs.size) }) :
  codeAny (model prog w) A (.call (.ref C) ⟨[],[]⟩) R s:=by
 obtain ⟨hh,g,d,t,os⟩:=s
 exact PySem.W.make_core (PySem.W.makes_of X hm) (PySem.W.looks_findIn X hi) hb (.inr ⟨rfl,rfl⟩) h
end
noncomputable def z6 (f:Str) (v:V):List (Str×V)->List (Str×V)
 | []=>[(f,v)]
 | (g,x)::r=>if g=f then (g,v)::r else (g,x)::z6 f v r
theorem Wk (f g:Str) (v:V):∀fs:List (Str×V),(z6 f v fs).lookup g=if g=f then some v else fs.lookup g
 | []=>by
  show List.lookup g [(f,v)]=_;by_cases h:g=f
  . have hb:(g==f)=true:=beq_iff_eq.mpr h;simp only [List.lookup,hb,ζ h]
  . have hb:(g==f)=false:=beq_eq_false_iff_ne.mpr h;simp only [List.lookup,hb,ξ h]
 | (k,x)::r=>by
  have ih:=Wk f g v r;rw [show z6 f v ((k,x)::r)=(if k=f then (k,v)::r else (k,x)::z6 f v r) from rfl];by_cases hk:k=f
  . rw [ζ hk];by_cases h:g=k
    . have hb:(g==k)=true:=beq_iff_eq.mpr h;simp only [List.lookup,hb,ζ (h.trans hk)]
    . have hb:(g==k)=false:=beq_eq_false_iff_ne.mpr h;simp only [List.lookup,hb,ξ (fun e:g=f=>h (e.trans hk.symm))]
  . rw [ξ hk];by_cases h:g=k
    . have hb:(g==k)=true:=beq_iff_eq.mpr h;simp only [List.lookup,hb,ξ (fun e:g=f=>hk (h.symm.trans e))]
    . have hb:(g==k)=false:=beq_eq_false_iff_ne.mpr h;simp only [List.lookup,hb];exact ih
theorem Mj (f:Str) (v:V):∀fs:List (Str×V),f∈(z6 f v fs).map (·.1)/\∀g,g∈fs.map (·.1)->g∈(z6 f v fs).map (·.1)
 | []=>⟨by simp [z6],fun g h=>by simp at h⟩
 | (k,x)::r=>by
  obtain ⟨i1,i2⟩:=Mj f v r;rw [show z6 f v ((k,x)::r)=(if k=f then (k,v)::r else (k,x)::z6 f v r) from rfl];by_cases hk:k=f
  . rw [ζ hk];subst hk;exact ⟨by simp,fun g h=>by simpa using h⟩
  . rw [ξ hk];refine ⟨?_,fun g h=>?_⟩
    . rw [List.map_cons];exact List.mem_cons_of_mem _ i1
    . rw [List.map_cons] at h ⊢;rcases List.mem_cons.mp h with e | e
      . exact List.mem_cons.mpr (.inl e)
      . exact List.mem_cons_of_mem _ (i2 g e)
theorem Wj (f:Str) (v:V):∀fs:List (Str×V),(z6 f v fs).length<=fs.length+1
 | []=>by simp [z6]
 | (k,x)::r=>by
  have ih:=Wj f v r;rw [show z6 f v ((k,x)::r)=(if k=f then (k,v)::r else (k,x)::z6 f v r) from rfl];by_cases hk:k=f
  . rw [ζ hk,List.length_cons,List.length_cons];lia
  . rw [ξ hk,List.length_cons,List.length_cons];lia
theorem RelO.some_of (r:RelO (some v) o):∃u,o=some u/\RelV v u:=by
 cases o with
 | none=>exact (show False from r).elim
 | some u=>exact ⟨u,rfl,r⟩
theorem RelO.none_of (r:RelO none o):o=none:=by
 cases o with
 | none=>rfl
 | some u=>exact (show False from r).elim
theorem yh (r:RelV v u):PySem.W.handedIn u=true:=by
 cases v with
 | non=>cases (show u=Value.none from r);rfl
 | bl b=>cases (show u=Value.bool b from r);rfl
 | int i=>obtain ⟨t,e⟩:=(show ∃t,u=Value.int i t from r);cases e;rfl
 | str x=>obtain ⟨t,e⟩:=(show ∃t,u=Value.str x t from r);cases e;rfl
 | byt b=>obtain ⟨t,e⟩:=(show ∃t,u=Value.bytes b t from r);cases e;rfl
 | flt b=>obtain ⟨t,e⟩:=(show ∃t,u=Value.float b t from r);cases e;rfl
 | ref a=>cases (show u=Value.ref a from r);rfl
 | ty n=>cases (show u=Value.type n from r);rfl
section
variable {P:Program} {w:World} {H:Hp} {h:Heap} {a C dx:Addr} {fs:List (Str×V)}
theorem Ge (hok:HOk P w H h) (e:H a=some (.ins C dx fs)):∃mA,ObjM h a dx C mA/\(∀f,RelO (fs.lookup f) (mA f))/\PySem.Within mA (fs.map (·.1))/\fs.length<=1000/\H dx=some (.own a):=by obtain ⟨d,z,ne,ob,mA,n,r,q⟩:=(show ObjOk P w H h a (.ins C dx fs) from hok a _ e);exact ⟨mA,⟨ob,n,ne⟩,r,q,z,d⟩
end
structure Cls (K:Frag) (C:Addr):Prop where
 pg:PySem.W.plainGet K C Str.empty=true
 hd:PySem.W.hasDictIn K C=true
 po:plainOver K C=true
 sa:PySem.W.findIn K (.ref C) "__setattr__"=some (some (.builtin "object.__setattr__"))
theorem Cls.get {K:Frag} {C:Addr} (c:Cls K C) (f:Str):PySem.W.plainGet K C f=true:=c.pg
def NoAttr (K:Frag) (C:Addr) (f:Str):Prop:=PySem.W.findIn K (.ref C) f=some none
theorem NoAttr.taker {K:Frag} {C:Addr} {f:Str} (n:NoAttr K C f):PySem.W.takerIn K C f=some none:=by unfold PySem.W.takerIn;rw [show PySem.W.findIn K (.ref C) f=some none from n];rfl
structure Meth (K:Frag) (C:Addr) (m:Str) (f:Addr):Prop where
 at_:PySem.W.findIn K (.ref C) m=some (some (.ref f))
 fn:isFn K (.ref f)=true
 kp:keepIn K (.ref f)=true
section
variable {X:Cx} {pins:List (Addr×Obj)} {U:St} {H:Hp} {s:Shared} {a C dx:Addr} {fs:List (Str×V)} {f:Str} {v:V} {A:Around} {E:Value->Shared->Prop}
theorem yJ (I:Inv X pins U H s) (e:H a=some (.ins C dx fs)) (c:Cls X.K C) (n:NoAttr X.K C f) (l:fs.lookup f=some v)
  (h:∀u s',Inv X pins U H s'->RelV v u->Q u s'):wpAny (model X.prog X.w) A (getAttr (.ref a) f b) Q E s:=by
 obtain ⟨mA,O,r,_,_,_⟩:=Ge I.hok e
 obtain ⟨u,hu,ru⟩:=RelO.some_of (v:=v) (o:=mA f) (by rw [<-l];exact r f)
 exact vZ I.kIn O (c.get f) c.hd n hu (yh ru) (h u _ (I.tok _) ru)
theorem yI (I:Inv X pins U H s) (e:H a=some (.ins C dx fs)) (c:Cls X.K C) (k:Meth X.K C m g) (l:fs.lookup m=none)
  (h:Q (.ref g,[.ref a]) s):wpAny (model X.prog X.w) A (getMethod (.ref a) m pl) Q E s:=by
 obtain ⟨mA,O,r,_,_,_⟩:=Ge I.hok e
 have hn:mA m=none:=RelO.none_of (by rw [<-l];exact r m)
 exact xw I.kIn O (c.get m) k.at_ k.fn hn h
theorem yH (I:Inv X pins U H s) (e:H a=some (.ins C dx fs)) (c:Cls X.K C) (n:NoAttr X.K C f) (hl:fs.length<1000) (ry:RelV y u)
  (h:∀s',Inv X pins U (upd H a (.ins C dx (z6 f y fs))) s'->Q () s'):wpAny (model X.prog X.w) A (setAttr (.ref a) f u) Q E s:=by
 obtain ⟨mA,O,r,wi,_,ho⟩:=Ge I.hok e
 have hz:(fs.map (·.1)).length<=sizeLine:=by rw [List.length_map,sizeLine_eq];lia
 refine vY I.kIn O c.sa c.po n.taker c.hd wi hz fun h' O' sb=>h _ ?_
 have hd:∃o,h'.get? dx=some o:=let ⟨o,_,_,e',_⟩:=O'.ns;⟨o,e'⟩
 refine I.write (x:=a) (e:=dx) (by rw [e];exact True.intro) (.inr ho) (fun b q hb z=>(sb.2 b hb).trans z) hd ?_
 refine ⟨by rw [m9 O.ne];exact ho,?_,O.ne,O'.obj,_,O'.ns,fun g=>?_,fun g hg=>?_⟩
 . have:=Wj f y fs;lia
 . show RelO ((z6 f y fs).lookup g) (if g=f then some u else mA g);rw [Wk];by_cases q:g=f
   . rw [ζ q,ζ q];exact ry
   . rw [ξ q,ξ q];exact r g
 . by_cases q:g=f
   . rw [q];exact (Mj f y fs).1
   . refine (Mj f y fs).2 g (wi g fun z=>hg ?_);show (if g=f then some u else mA g)=none;rw [ξ q];exact z
theorem Inv.made (I:Inv X pins U H s):Inv X pins U (upd (upd H s.heap.objs.size (.own (s.heap.objs.size+1))) (s.heap.objs.size+1) (.ins C s.heap.objs.size []))
  { s with heap:=(s.heap.push emptyDict).push (instObj C s.heap.objs.size) }:=by
 have e1:(s.heap.push emptyDict).get? s.heap.objs.size=some emptyDict:=Ψ s.heap rfl
 have e2:((s.heap.push emptyDict).push (instObj C s.heap.objs.size)).get? (s.heap.objs.size+1)=some (instObj C s.heap.objs.size):=by have:=Ψ (s.heap.push emptyDict) (o:=instObj C s.heap.objs.size) rfl;rwa [Heap.size_push] at this
 have e3:(s.heap.push emptyDict).Ns s.heap.objs.size (fun _=>none):=⟨emptyDict,#[],_,e1,rfl,(fun e he=>absurd he (by simp)),fun _=>rfl⟩
 have I1:=I.laid (a:=s.heap.objs.size) (o:=.own (s.heap.objs.size+1)) (h':=s.heap.push emptyDict) (t':=s.toks) (fun b u q=>τ _ q) (η _) ⟨_,e1⟩
 refine I1.laid (a:=s.heap.objs.size+1) (o:=.ins C s.heap.objs.size []) (t':=s.toks) (fun b u q=>τ _ q) (Nat.le_of_eq (Heap.size_push _ _)) ?_
 have ne:s.heap.objs.size≠s.heap.objs.size+1:=Nat.ne_of_lt (Nat.lt_succ_self _)
 refine ⟨by rw [m9 ne,u8],Nat.zero_le _,ne,e2,fun _=>none,(Heap.Ns1.of_empty e3).at fun o q=>τ _ q,fun _=>True.intro,fun y hy=>absurd rfl hy⟩
theorem vX (hb:attributeBase e f env (eval e env)=eval e env)
  (h:wpAny (model prog w) A (eval e env) (fun o s₁=>wpAny (model prog w) A (getAttr o f true) Q E s₁) E s):wpAny (model prog w) A (eval (.Attribute e f pos) env) Q E s:=
 Attribute_any_ h (by rw [arm_eval_Attribute,hb])
end
noncomputable def Yo (K:Frag) (ta:TE) (f:Str):TE:=fun U H Q=>ta U H fun x H1=>∃a C dx fs v,x=.ref a/\H1 a=some (.ins C dx fs)/\Cls K C/\NoAttr K C f/\fs.lookup f=some v/\Q v H1
def y22 (K:Frag) (ta tv:TE) (f:Str):TS:=fun D U H=>tv U H fun y H1=>ta U H1 fun x H2=>∃a C dx fs,x=.ref a/\H2 a=some (.ins C dx fs)/\Cls K C/\NoAttr K C f/\fs.length<1000 /\
 D.nx U (upd H2 a (.ins C dx (z6 f y fs)))
section
variable {X:Cx} {o e value:Expr} {f:Str} {pos pos':Pos} {ta tv:TE}
theorem kX (he:PE X e ta) (hb:attributeBase e f X.env (eval e X.env)=eval e X.env):PE X (.Attribute e f pos) (Yo X.K ta f):=by intro pins s U H Q I h;refine vX hb (thn (he pins s U H _ I h) fun u s1 ⟨x,H1,I1,rx,a,C,dx,fs,v,ex,ea,c,n,l,q⟩=>?_);subst ex;obtain rfl:u=Value.ref a:=rx;exact yJ I1 ea c n l fun u' s2 I2 ru=>⟨v,H1,I2,ru,q⟩
theorem kW (ha:PE X o ta) (hv:PE X value tv) (hs:swapsWith value (some (.Attribute o f pos')) pos.line X.env=pure false):PS X (.Assign [.Attribute o f pos'] value pos) (y22 X.K ta tv f):=by intro pins s U H D I h;refine plainObj_wpAny_Assign_Attribute (thn (hv pins s U H _ I h) fun u s1 ⟨y,H1,I1,ry,q⟩=>thn (ha pins s1 U H1 _ I1 q) fun ov s2 ⟨x,H2,I2,rx,a,C,dx,fs,ex,ea,c,n,l,q2⟩=>?_) hs;subst ex;obtain rfl:ov=Value.ref a:=rx;exact yH I2 ea c n l ry fun s3 I3=>⟨U,_,I3,q2⟩
end
section
variable {X:Cx} {pins:List (Addr×Obj)} {U:St} {H:Hp} {s:Shared} {A:Around} {E:Value->Shared->Prop} {Q:Value->Shared->Prop} {c:Value} {b:Bool}
inductive TyOf (K:Frag) (H:Hp):V->Value->Prop where
 | non:TyOf K H .non (.type "NoneType")
 | bl (x:Bool):TyOf K H (.bl x) (.type "bool")
 | int (i:Int):TyOf K H (.int i) (.type "int")
 | str (x:Str):TyOf K H (.str x) (.type "str")
 | flt (x:UInt64):TyOf K H (.flt x) (.type "float")
 | lst {a:Addr} {xs:List V} (e:H a=some (.lst xs)):TyOf K H (.ref a) (.type "list")
 | frz {a:Addr} {o:Obj} {xs:List V} (e:H a=some (.frz o (.lst xs))):TyOf K H (.ref a) (.type "list")
 | tup {a:Addr} {xs:List V} (e:H a=some (.tup xs)):TyOf K H (.ref a) (.type "tuple")
 | dK {a:Addr} {kvs:List (Key×V)} (e:H a=some (.dK kvs)):TyOf K H (.ref a) (.type "dict")
 | dT {a:Addr} {kvs:List (List Key×V)} (e:H a=some (.dT kvs)):TyOf K H (.ref a) (.type "dict")
 | ins {a C dx:Addr} {fs:List (Str×V)} (e:H a=some (.ins C dx fs)) (cl:Cls K C) (ha:PySem.W.findIn K (.ref C) "__class__"=some (some (.builtin "object.__class__")))
  (hn:specialIn K (.builtin "object.__class__") "__get__"=some (some (.builtin "getset_descriptor.__get__"))) (htk:takesIn K (.builtin "object.__class__")=some true)
  (hm:mroIn K C (.type "object")=some true):TyOf K H (.ref a) (.ref C)
theorem K4 (I:Inv X pins U H s) (rx:RelV x u) (ty:TyOf X.K H x t) (e:kitOne X.K t c=some b) (h:∀tk,Q (.bool b) { s with toks:=tk }) :
  wpAny (model X.prog X.w) A (call (.builtin "isinstance") [u,c]) Q E s:=by
 cases ty with
 | non=>cases (show u=Value.none from rx);exact kia_one PySem.W.kitx_none I.kIn True.intro e (fun z=>nomatch z) h
 | bl y=>cases (show u=Value.bool y from rx);exact kia_one PySem.W.kitx_bool I.kIn True.intro e (fun z=>nomatch z) h
 | int i=>obtain ⟨t,q⟩:=(show ∃t,u=Value.int i t from rx);cases q;exact kia_one PySem.W.kitx_int I.kIn True.intro e (fun z=>nomatch z) h
 | str y=>obtain ⟨t,q⟩:=(show ∃t,u=Value.str y t from rx);cases q;exact kia_one PySem.W.kitx_str I.kIn True.intro e (fun z=>nomatch z) h
 | flt y=>obtain ⟨t,q⟩:=(show ∃t,u=Value.float y t from rx);cases q;exact kia_one PySem.W.kitx_float I.kIn True.intro e (fun z=>nomatch z) h
 | @lst a xs ea=>
  cases (show u=Value.ref a from rx)
  obtain ⟨_,_,n,_,h1⟩:=(show ObjOk X.prog X.w H s.heap a (.lst xs) from I.hok a _ ea)
  exact kia_one PySem.W.kitx_list I.kIn ⟨_,h1,rfl⟩ e (fun z=>nomatch z) h
 | @frz a ob xs ea=>
  cases (show u=Value.ref a from rx)
  obtain ⟨_,_,_,n,_,h1⟩:=(show ObjOk X.prog X.w H s.heap a (.frz ob (.lst xs)) from I.hok a _ ea)
  exact kia_one PySem.W.kitx_list I.kIn ⟨_,h1,rfl⟩ e (fun z=>nomatch z) h
 | @tup a xs ea=>
  cases (show u=Value.ref a from rx)
  obtain ⟨_,_,_,p⟩:=(show ObjOk X.prog X.w H s.heap a (.tup xs) from I.hok a _ ea)
  obtain ⟨o,h1,h2,_⟩:=p
  exact kia_one PySem.W.kitx_tuple I.kIn ⟨o,h1,h2⟩ e (fun z=>nomatch z) h
 | @dK a kvs ea=>
  cases (show u=Value.ref a from rx)
  obtain ⟨_,_,vs,_,p⟩:=(show ObjOk X.prog X.w H s.heap a (.dK kvs) from I.hok a _ ea)
  obtain ⟨o,es,ep,h1,h2,_⟩:=p
  exact kia_one PySem.W.kitx_dict I.kIn ⟨o,h1,h2.1⟩ e (fun z=>nomatch z) h
 | @dT a kvs ea=>
  cases (show u=Value.ref a from rx)
  obtain ⟨_,_,xs,_,o,es,ep,h1,h2,_⟩:=(show ObjOk X.prog X.w H s.heap a (.dT kvs) from I.hok a _ ea)
  exact kia_one PySem.W.kitx_dict I.kIn ⟨o,h1,h2.1⟩ e (fun z=>nomatch z) h
 | @ins a C dx fs ea cl ha hn htk hm=>
  cases (show u=Value.ref a from rx)
  obtain ⟨mA,O,_⟩:=Ge I.hok ea
  obtain ⟨od,J,_⟩:=O.look
  exact kia_one (PySem.W.kitx_own (cl.get _) cl.hd ha hn htk hm) I.kIn J e (fun z=>nomatch z) h
end
structure Room (k:Nat) (A:Around):Prop where
 hd:A.handled=none
 dp:A.depth+3 * k+5<recursionLimit
 un:A.units+16 * k+200<cLine
theorem Room.mono (r:Room k A) (h:j<=k):Room j A:=⟨r.hd,by have:=r.dp;lia,by have:=r.un;lia⟩
theorem Room.deeper (r:Room (k+1) A) (env:Env):Room k (A.deeper env):=
 ⟨r.hd,by have:=r.dp;show A.depth+1+3 * k+5<_;lia,by have:=r.un;show A.units+3+16 * k+200<_;lia⟩
theorem yG {A:Around} {C:Addr} {us:List Value} {kw:List (Str×Value)}:(A.under (.builtin "type.__call__" ⟨.ref C::us,kw⟩)).depth=A.depth+1:=by first | rfl | simp [Around.under,Code.weight,Code.isCreation,Code.isGuard,Code.isCaller,Code.frames,Code.isFrame,guardIds]
theorem yF {A:Around} {C:Addr} {us:List Value} {kw:List (Str×Value)}:(A.under (.builtin "type.__call__" ⟨.ref C::us,kw⟩)).units=A.units+1:=by first | rfl | simp [Around.under,Code.cUnits,Code.frames,Code.isFrame]
theorem Room.make (r:Room (k+1) A) (C:Addr) (us:List Value) (kw:List (Str×Value)):Room k (A.under (.builtin "type.__call__" ⟨.ref C::us,kw⟩)):=
 ⟨r.hd,by have:=r.dp;rw [yG];omega,by have:=r.un;rw [yF];omega⟩
theorem Room.depth (r:Room k A):A.depth<recursionLimit:=by have:=r.dp;omega
theorem Room.units (r:Room k A):A.units+64<cLine:=by have:=r.un;lia
noncomputable def O0:TA:=fun _ H Q=>Q [] H
noncomputable def J8 (ta:TE) (tr:TA):TA:=fun U H Q=>ta U H fun x H1=>tr U H1 fun xs H2=>Q (x::xs) H2
section
variable {X:Cx} {e:Expr} {es:List Expr} {te:TE} {t:TA} {pos:Pos}
theorem pa_nil:PA X [] O0:=fun _ _ _ _ H Q I h=>Calls.spliced_nil ⟨[],H,I,.nil,h⟩
theorem G8 (ha:PE X e te) (hr:PA X es t) (hs:starEach (e::es) X.env=(false,eval e X.env)::starEach es X.env:=by rfl):PA X (e::es) (J8 te t):=by intro pos pins s U H Q I h;rw [hs];show wpAny _ _ (spliced ((false,eval e X.env)::backTo pos (starEach es X.env))) _ _ s;refine Calls.spliced_cons (thn (ha pins s U H _ I h) fun u s1 ⟨x,H1,I1,r1,q1⟩=>?_);exact thn (hr pos pins s1 U H1 _ I1 q1) fun us s2 ⟨xs,H2,I2,r2,q2⟩=>⟨x::xs,H2,I2,.cons r1 r2,q2⟩
def Yn (t:TA):TE:=fun U H Q=>t U H fun xs H1=>xs.length<=sizeLine/\∀p,H1 p=none->Q (.ref p) (upd H1 p (.tup xs))
def Ym (t:TA):TE:=fun U H Q=>t U H fun xs H1=>xs.length<=sizeLine/\∀p,H1 p=none->Q (.ref p) (upd H1 p (.lst xs))
theorem kU (h:PA X es t):PE X (.Tuple es x1 pos) (Yn t):=by intro pins s U H Q I hq;refine wpAny_Tuple_spliced (thn (h pos pins s U H _ I hq) fun us s1 ⟨xs,H1,I1,r,z,q⟩=>⟨by rw [<-r.length];exact z,?_⟩);have hf:H1 s1.heap.objs.size=none:=I1.hok.fresh (η _);refine ⟨.ref s1.heap.objs.size,upd H1 s1.heap.objs.size (.tup xs),I1.laid (t':=s1.toks) (fun b u e=>τ _ e) (η _) ?_,rfl,q _ hf⟩;exact ⟨z,us,r,.mk' (Ψ _ rfl)⟩
theorem kT (h:PA X es t):PE X (.List es pos) (Ym t):=by intro pins s U H Q I hq;refine wpAny_List_spliced (thn (h pos pins s U H _ I hq) fun us s1 ⟨xs,H1,I1,r,z,q⟩=>⟨by rw [<-r.length];exact z,?_⟩);have hf:H1 s1.heap.objs.size=none:=I1.hok.fresh (η _);refine ⟨.ref s1.heap.objs.size,upd H1 s1.heap.objs.size (.lst xs),I1.laid (t':=s1.toks) (fun b u e=>τ _ e) (η _) ?_,rfl,q _ hf⟩;exact ⟨z,us,0,r,Ψ _ rfl⟩
end
abbrev Sp:=List V->Hp->VK->XK->Prop
abbrev CXT:=List Env->Hp->Shared->XK->Value->Shared->Prop
structure Env0 (P:Program) (w:World) (K:Frag) (mg:Str->Option Value) (base:Heap) (A:Around) (outer:List Env) (s:Shared) (H:Hp):Prop where
 frames:A.frames=some outer
 mod:Mod K mg base
 bs:∀b o,base.get? b=some o->s.heap.get? b=some o/\H b=none
 bsz:base.objs.size<=s.heap.objs.size
 funs:s.heap.FunFrames base outer
 frf:∀b∈frs outer,H b=none
 hok:HOk P w H s.heap
 bare:AllBare s.gens
def CE (outer:List Env) (P:Program) (w:World) (H:Hp) (s:Shared) (Q:VK) (u:Value) (s':Shared):Prop:=
 ∃v H',s'.os=s.os/\AllBare s'.gens/\Un (frs outer) [] H H' s.heap s'.heap/\HOk P w H' s'.heap/\RelV v u/\Q v H'
def CR (CX:CXT) (outer:List Env) (P:Program) (w:World) (H:Hp) (s:Shared) (Q:VK) (E:XK) (r:Result) (s':Shared):Prop:=
 match r with
 | .ok (.ret u)=>CE outer P w H s Q u s'
 | .ok _=>False
 | .error e=>CX outer H s E e s'
structure FnOk (P:Program) (w:World) (K:Frag) (mg:Str->Option Value) (base:Heap) (CX:CXT) (k:Nat) (f:Addr) (fd:FuncData) (ps:List Str) (sp:Sp):Prop where
 len:∀vs H Q E,sp vs H Q E->vs.length=ps.length
 run:∀(A:Around) (outer:List Env) (s:Shared) (H:Hp) (args:Args) (us:List Value) (vs:List V) (Q:VK) (E:XK),Room k A->Env0 P w K mg base A outer s H->BindsTo s fd args (ps.zip us)->Vals vs us->sp vs H Q E ->
  codeAny (model P w) A (.call (.ref f) args) (CR CX outer P w H s Q E) s
theorem FnOk.imp {P:Program} {w:World} {K:Frag} {mg:Str->Option Value} {base:Heap} {CX:CXT} {k:Nat} {f:Addr} {fd:FuncData} {ps:List Str} {sp sp':Sp} (F:FnOk P w K mg base CX k f fd ps sp)
  (h:∀vs H Q E,sp' vs H Q E->sp vs H Q E):FnOk P w K mg base CX k f fd ps sp':=
 ⟨fun vs H Q E q=>F.len vs H Q E (h _ _ _ _ q),fun A outer s H args us vs Q E hr he hb hv hs=>F.run A outer s H args us vs Q E hr he hb hv (h _ _ _ _ hs)⟩
theorem Env0.make {P:Program} {w:World} {K:Frag} {mg:Str->Option Value} {base:Heap} {A:Around} {outer:List Env} {s:Shared} {H:Hp} (e:Env0 P w K mg base A outer s H) (C:Addr) (us:List Value) (kw:List (Str×Value)) :
 Env0 P w K mg base (A.under (.builtin "type.__call__" ⟨.ref C::us,kw⟩)) outer s H:=⟨by first | exact e.frames | (simpa [Around.under,Code.envs,Code.isFrame,pushEnvs] using e.frames),e.mod,e.bs,e.bsz,e.funs,e.frf,e.hok,e.bare⟩
section
variable {X:Cx} {pins:List (Addr×Obj)} {U:St} {H:Hp} {s s':Shared}
theorem Inv.env0 (I:Inv X pins U H s):Env0 X.prog X.w X.K X.mg X.base X.A X.stack s H:=
 ⟨I.ok.frames,I.ok.mod,I.bs,Nat.le_trans I.ok.bsz I.sz,I.stack,I.stkFree,I.hok,I.bare⟩
theorem Inv.after (I:Inv X pins U H s) (h:CE X.stack X.prog X.w H s Q u s'):EP X pins U Q u s':=by obtain ⟨v,H',os,bare,un,hok,r,q⟩:=h;obtain ⟨hh,g,d,t,os'⟩:=s';obtain rfl:os'=s.os:=os;exact ⟨v,H',I.call (h':=hh) (g':=g) (d':=d) (t':=t) (ch:=[]) un hok bare (fun b z=>absurd z (by simp)),r,q⟩
end
noncomputable def Oo (sp:Sp) (dvs:List V) (E:XK) (t:TA):TE:=fun U H Q=>t U H fun vs H1=>sp (vs++dvs) H1 Q E
def On (C:Addr) (sp:Sp) (dvs:List V) (E:XK) (t:TA):TE:=fun U H Q=>t U H fun vs H1=>∀x dx,H1 x=none->H1 dx=none->dx≠x ->
 sp (.ref x::(vs++dvs)) (upd (upd H1 dx (.own x)) x (.ins C dx [])) (fun v H2=>v=.non/\Q (.ref x) H2) E
def Binds (K:Frag) (fd:FuncData) (ps:List Str) (ds:List Value):Prop:=
 ∀(s:Shared) (us:List Value),K.In s.heap->(us++ds).length=ps.length->BindsTo s fd ⟨us,[]⟩ (ps.zip (us++ds))
theorem Binds.all {K:Frag} {fd:FuncData} {ps:List Str} (h:∀us:List Value,us.length=ps.length->bindArgs fd ⟨us,[]⟩=pure (ps.zip us)):Binds K fd ps []:=fun s us _ hl=>by rw [List.append_nil] at hl ⊢;exact .of_eq (h us hl)
def T5 (CX:CXT) (X:Cx) (E:XK):Prop:=∀(pins:List (Addr×Obj)) (U:St) (H:Hp) (s:Shared) (e:Value) (s':Shared),Inv X pins U H s->CX X.stack H s E e s'->X.xe e s'
section
variable {X:Cx} {CX:CXT} {k:Nat} {f C:Addr} {fd:FuncData} {ps:List Str} {sp:Sp} {dvs:List V} {ds:List Value} {E:XK} {x:Str} {p pos:Pos} {e:Expr} {es:List Expr} {t:TA}
theorem Qq (F:FnOk X.prog X.w X.K X.mg X.base CX k f fd ps sp) (hr:Room k X.A) (hb:Binds X.K fd ps ds) (hd:Vals dvs ds) (hx:T5 CX X E)
  (I:Inv X pins U H s) (r:Vals vs us) (h:sp (vs++dvs) H Q E):wpAny (model X.prog X.w) X.A (call (.ref f) us) (EP X pins U Q) X.xe s:=by
 have r2:Vals (vs++dvs) (us++ds):=r.append hd
 have hl:(us++ds).length=ps.length:=by rw [<-r2.length];exact F.len _ _ _ _ h
 refine wpAny_call (codeAny_mono (F.run X.A X.stack s H ⟨us,[]⟩ (us++ds) (vs++dvs) Q E hr I.env0 (hb s us I.kIn hl) r2 h) fun r s' hq=>?_)
 cases r with
 | error e=>exact hx pins U H s e s' I hq
 | ok fl=>
  cases fl with
  | ret u=>exact I.after hq
  | next=>exact False.elim hq
  | brk=>exact False.elim hq
  | cont=>exact False.elim hq
theorem vW (F:FnOk X.prog X.w X.K X.mg X.base CX k f fd ps sp) (hr:Room k X.A) (hg:Gl X x) (hm:X.mg x=some (.ref f)) (hk:keepIn X.K (.ref f)=true) (hb:Binds X.K fd ps ds) (hd:Vals dvs ds) (hx:T5 CX X E)
  (ha:PA X (e::es) t) (hdb:(x==("__debug__":Str))=false:=by decide) (he:starEach (e::es) X.env=(false,eval e X.env)::starEach es X.env:=by rfl) (hpl:(backTo pos (starEach es X.env)).any (·.1)=false:=by rfl) :
  PE X (.Call (.Name x p) (e::es) [] pos) (Oo sp dvs E t):=by
 intro pins s U H Q I h
 refine wpAny_Call_Name_kw (U2 I hg hm ?_ hdb)
 refine callWith_K (h₀:=X.base) I.ok.mod.kin hk (thn (ha pos pins s U H _ I h) fun us s1 ⟨vs,H1,I1,r,q⟩=>⟨I1.kIn,?_⟩) he hpl
 exact Qq F hr hb hd hx I1 r q
structure Mk (K:Frag) (C f:Addr):Prop where
 makes:PySem.W.makesIn K C=true
 init:PySem.W.findIn K (.ref C) "__init__"=some (some (.ref f))
 fn:isFn K (.ref f)=true
 kp:keepIn K (.ref C)=true
theorem xu (M:Mk X.K C f) (F:FnOk X.prog X.w X.K X.mg X.base CX k f fd ps sp) (hr:Room (k+1) X.A) (hb:Binds X.K fd ps ds) (hd:Vals dvs ds)
  (hx:T5 CX X E) (I:Inv X pins U H s) (r:Vals vs us)
  (h:∀x dx,H x=none->H dx=none->dx≠x->sp (.ref x::(vs++dvs)) (upd (upd H dx (.own x)) x (.ins C dx [])) (fun v H2=>v=.non/\Q (.ref x) H2) E) :
  wpAny (model X.prog X.w) X.A (call (.ref C) us) (EP X pins U Q) X.xe s:=by
 have hq:=h (s.heap.objs.size+1) s.heap.objs.size (I.hok.fresh (Nat.le_succ _)) (I.hok.fresh (η _)) (Nat.ne_of_lt (Nat.lt_succ_self _))
 have I2:=Inv.made (C:=C) I
 have r2:Vals (V.ref (s.heap.objs.size+1)::(vs++dvs)) (Value.ref (s.heap.objs.size+1)::(us++ds)):=.cons rfl (r.append hd)
 have hl:(Value.ref (s.heap.objs.size+1)::us++ds).length=ps.length:=by have e:=r2.length;rw [F.len _ _ _ _ hq] at e;exact e.symm
 refine wpAny_call (xv (f:=f) I.kIn M.makes M.init (beq_iff_eq.mp M.fn) (codeAny_mono (F.run _ X.stack _ _ ⟨Value.ref (s.heap.objs.size+1)::us,[]⟩ (Value.ref (s.heap.objs.size+1)::(us++ds)) _ _ E (hr.make C us [])
  (I2.env0.make C us []) (hb _ (Value.ref (s.heap.objs.size+1)::us) I2.kIn hl) r2 hq) fun r s' hq'=>?_))
 cases r with
 | error e=>exact hx pins U _ _ e s' I2 hq'
 | ok fl=>
  cases fl with
  | ret u=>
   obtain ⟨v,H',I3,rv,ev,q3⟩:=I2.after hq'
   subst ev
   exact ⟨rv,⟨V.ref (s.heap.objs.size+1),H',I3,rfl,q3⟩⟩
  | next=>exact False.elim hq'
  | brk=>exact False.elim hq'
  | cont=>exact False.elim hq'
theorem vV (M:Mk X.K C f) (F:FnOk X.prog X.w X.K X.mg X.base CX k f fd ps sp) (hr:Room (k+1) X.A) (hg:Gl X x) (hm:X.mg x=some (.ref C)) (hb:Binds X.K fd ps ds) (hd:Vals dvs ds) (hx:T5 CX X E)
  (ha:PA X (e::es) t) (hdb:(x==("__debug__":Str))=false:=by decide) (he:starEach (e::es) X.env=(false,eval e X.env)::starEach es X.env:=by rfl) (hpl:(backTo pos (starEach es X.env)).any (·.1)=false:=by rfl) :
  PE X (.Call (.Name x p) (e::es) [] pos) (On C sp dvs E t):=by
 intro pins s U H Q I h
 refine wpAny_Call_Name_kw (U2 I hg hm ?_ hdb)
 refine callWith_K (h₀:=X.base) I.ok.mod.kin M.kp (thn (ha pos pins s U H _ I h) fun us s1 ⟨vs,H1,I1,r,q⟩=>⟨I1.kIn,?_⟩) he hpl
 exact xu M F hr hb hd hx I1 r q
end
structure FnScope (N P:List Str) (sc:Scope):Prop where
 kind:sc.kind=.function
 co:sc.isCoroutine=false
 gen:sc.isGenerator=false
 nd:N.Nodup
 pre:N.take P.length=P
 par:∀x∈P,sc.names.lookup x=some .local\/sc.names.lookup x=some .cell
 nofree:∀y∈sc.names,y.2≠.free
theorem Vf {kindOf:Str->Option NameKind} {x:Str}:∀{binds:List (Str×Value)} {m:Str->Option Value},(∀v,(x,v)∉binds)->bindL kindOf binds m x=m x
 | [],_,_=>rfl
 | (n,v)::r,m,h=>by
  unfold bindL;rw [Vf fun w hw=>h w (List.mem_cons_of_mem _ hw)];split
  . have:x≠n:=by rintro rfl;exact h v List.mem_cons_self
    simp [this]
  . rfl
theorem Ve {kindOf:Str->Option NameKind} {x:Str}:∀{binds:List (Str×Value)} {m:Str->Option Value},(∀v,(x,v)∉binds)->bindC kindOf binds m x=m x
 | [],_,_=>rfl
 | (n,v)::r,m,h=>by
  unfold bindC;rw [Ve fun w hw=>h w (List.mem_cons_of_mem _ hw)];split
  . rfl
  . have:x≠n:=by rintro rfl;exact h v List.mem_cons_self
    simp [this]
theorem Vd {kindOf:Str->Option NameKind} {x:Str} {v:Value}:∀{P:List Str} {vs:List Value} {i:Nat} {m:Str->Option Value},P.Nodup->P[i]?=some x->vs[i]?=some v->kindOf x=some .local ->
  bindL kindOf (P.zip vs) m x=some v
 | [],_,_,_,_,h,_,_=>by simp at h
 | _::_,[],_,_,_,_,h,_=>by simp at h
 | p::P,w::vs,0,m,nd,h1,h2,hk=>by simp at h1 h2;subst h1;subst h2;show bindL kindOf ((p,w)::P.zip vs) m p=_;unfold bindL;rw [Vf fun v hv=>(List.nodup_cons.mp nd).1 (List.of_mem_zip hv).1,ζ hk];simp
 | p::P,w::vs,i+1,m,nd,h1,h2,hk=>by show bindL kindOf ((p,w)::P.zip vs) m x=_;unfold bindL;exact Vd (i:=i) (List.nodup_cons.mp nd).2 (by simpa using h1) (by simpa using h2) hk
theorem Vb {kindOf:Str->Option NameKind} {x:Str} {v:Value}:∀{P:List Str} {vs:List Value} {i:Nat} {m:Str->Option Value},P.Nodup->P[i]?=some x->vs[i]?=some v->kindOf x≠some .local ->
  bindC kindOf (P.zip vs) m x=some v
 | [],_,_,_,_,h,_,_=>by simp at h
 | _::_,[],_,_,_,_,h,_=>by simp at h
 | p::P,w::vs,0,m,nd,h1,h2,hk=>by simp at h1 h2;subst h1;subst h2;show bindC kindOf ((p,w)::P.zip vs) m p=_;unfold bindC;rw [Ve fun v hv=>(List.nodup_cons.mp nd).1 (List.of_mem_zip hv).1,ξ hk];simp
 | p::P,w::vs,i+1,m,nd,h1,h2,hk=>by show bindC kindOf ((p,w)::P.zip vs) m x=_;unfold bindC;exact Vb (i:=i) (List.nodup_cons.mp nd).2 (by simpa using h1) (by simpa using h2) hk
noncomputable def z8 (N:List Str) (vs:List V):St:=vs.map some++List.replicate (N.length - vs.length) none
noncomputable def E3 (CX:CXT) (P:Program) (w:World) (K:Frag) (mg:Str->Option Value) (base:Heap) (N:List Str) (qual:Str) (scope:Scope) (f:Addr) (cd:Value) (A:Around) (outer:List Env) (s:Shared) (H:Hp) (E:XK):Cx where
 prog:=P
 w:=w
 K:=K
 mg:=mg
 base:=base
 A:=A.deeper (envOfC qual scope s.heap.objs.size f cd)
 N:=N
 s₀:=s
 H₀:=H
 env:=envOfC qual scope s.heap.objs.size f cd
 outer:=outer
 stack:=envOfC qual scope s.heap.objs.size f cd::outer
 ex:=[]
 calm:=true
 fn:=fun _=>true
 pn:=[]
 xe:=fun e s'=>wpAny (model P w) (A.deeper (envOfC qual scope s.heap.objs.size f cd)) (leaving (envOfC qual scope s.heap.objs.size f cd) e) (fun _ s''=>CX outer H s E e s'') (fun e' s''=>CX outer H s E e' s'') s'
theorem Uj {sc:Scope} {n:Nat} {x:Str} (h:sc.names.lookup x=some .cell):∃c,(cellsFrom n sc.names []).lookup x=some c:=by have q:=PySem.W.cellsFrom_some sc.names n [] (.inl h);exact Option.isSome_iff_exists.mp q
theorem yg {CX:CXT} {P:Program} {w:World} {K:Frag} {mg:Str->Option Value} {base:Heap} {N ps:List Str} {qual:Str} {scope:Scope} {f:Addr} {cd:Value} {A:Around} {outer:List Env} {s s1:Shared} {H:Hp} {E:XK} {us:List Value} {vs:List V}
  (S:FnScope N ps scope) (hd:A.handled=none) (e0:Env0 P w K mg base A outer s H) (hl:vs.length=ps.length) (r:Vals vs us)
  (x:InCallC s s.heap.objs.size (bindL (envOfC qual scope s.heap.objs.size f cd).kindOf (ps.zip us) fun _=>none) (cellsFrom (s.heap.objs.size+1) scope.names []) (bindC (envOfC qual scope s.heap.objs.size f cd).kindOf (ps.zip us) fun _=>none) s1) :
  Inv (E3 CX P w K mg base N qual scope f cd A outer s H E) [] (z8 N vs) H s1:=by
 have hpl:ps.length<=N.length:=by have:=congrArg List.length S.pre;rw [List.length_take] at this;lia
 obtain ⟨h1,tk,rfl,hk⟩:=x.done
 have noA:∀b:Addr,b∉(E3 CX P w K mg base N qual scope f cd A outer s H E).ex:=fun b z=>absurd (show b∈([]:List Addr) from z) (by simp)
 refine ⟨⟨e0.mod,S.kind,rfl,rfl,η _,fun y z c h1 h2=>?_,fun y hy=>?_,fun y c _ h=>?_,fun _=>hd,Around.frames_deeper e0.frames,.inr ⟨rfl,rfl⟩,fun b z=>absurd z (noA b),e0.bs,e0.bsz,fun b _ _=>noA b,fun b z=>absurd z (noA b),e0.funs,e0.frf⟩,
  rfl,e0.bare,Un.kept hk,⟨_,x.toInCall.ns,fun i y v h1 h2 h3=>?_⟩,fun y c h=>⟨_,x.cell y c h⟩,e0.hok.fresh (η _),fun y c h=>?_,fun p hp=>absurd (show p∈([]:List (Addr×Obj)) from hp) (by simp),e0.hok.kept hk,?_⟩
 . exact name_of_addr x.apart (PySem.mem_of_lookup h1) (PySem.mem_of_lookup h2)
 . have hy:scope.names.lookup y=some .cell\/scope.names.lookup y=some .free:=hy;rcases hy with hy | hy
   . exact Uj hy
   . exact absurd rfl (S.nofree _ (PySem.mem_of_lookup hy))
 . exact Nat.le_of_lt (x.above y c (PySem.mem_of_lookup h))
 . have hi:i<vs.length:=by
    unfold z8 at h2
    by_cases hi:i<vs.length
    . exact hi
    . rw [List.getElem?_append_right (by simpa using hi)] at h2;rw [List.getElem?_replicate] at h2;split at h2<;>cases h2
   have ha:vs[i]?=some v:=by
    unfold z8 at h2;rw [List.getElem?_append_left (by simpa using hi),List.getElem?_map] at h2;cases e:vs[i]? with
    | none=>rw [e] at h2;cases h2
    | some a=>rw [e] at h2;cases h2;rfl
   obtain ⟨u,hu,rv⟩:=r.get ha
   have hp:ps[i]?=some y:=by rw [<-S.pre,List.getElem?_take_of_lt (by lia)];exact h1
   have ndP:ps.Nodup:=by rw [<-S.pre];exact S.nd.sublist (List.take_sublist _ _)
   refine ⟨u,rv,?_⟩
   rcases S.par y (List.mem_of_getElem? hp) with k | k
   . exact .inl ⟨k,Vd ndP hp hu k⟩
   . obtain ⟨c,e⟩:=Uj (n:=s.heap.objs.size+1) k;refine .inr ⟨.inl k,c,e,?_⟩;have q:=x.cell y c e;rw [Vb ndP hp hu (by show scope.names.lookup y≠_;rw [k];decide)] at q;exact q
 . exact e0.hok.fresh (Nat.le_of_lt (x.above y c (PySem.mem_of_lookup h)))
 . unfold z8;show _=N.length;rw [χ,List.length_map,List.length_replicate]
   lia
theorem Jh {CX:CXT} {P:Program} {w:World} {K:Frag} {mg:Str->Option Value} {base:Heap} {k:Nat} {f:Addr} {name qual:Str} {params:Arguments} {body:List Stmt} {scope:Scope} {dV kV doc pm cdv ct oc:Value} {an od:Option Addr}
  {osl:Array (Option Value)} {N ps:List Str} {sp:Sp} (lk:K.lookup f=some ⟨oc,od,.func (PySem.W.fnOf name qual params body scope dV kV doc pm an cdv ct),osl⟩) (hcd:codeIn K cdv qual=true) (S:FnScope N ps scope)
  (len:∀vs H Q E,sp vs H Q E->vs.length=ps.length)
  (hbody:∀(A:Around) (outer:List Env) (s:Shared) (H:Hp) (vs:List V) (Q:VK) (E:XK),Room k (A.deeper (envOfC qual scope s.heap.objs.size f cdv))->sp vs H Q E ->
   ∃t,PSs (E3 CX P w K mg base N qual scope f cdv A outer s H E) body t/\t { nx:=fun _ H'=>Q .non H',rt:=Q } (z8 N vs) H) :
  FnOk P w K mg base CX (k+1) f (PySem.W.fnOf name qual params body scope dV kV doc pm an cdv ct) ps sp:=by
 refine ⟨len,fun A outer s H args us vs Q E hr e0 hb r hsp=>?_⟩
 have hl:=len _ _ _ _ hsp
 have KX:K.In s.heap:=e0.mod.kin.keeps fun b o e=>(e0.bs b o e).1
 have lim:s.heap.NoLimit:=e0.mod.nolimit.keeps fun b o e=>(e0.bs b o e).1
 have hkind:∀y∈ps.zip us,scope.names.lookup y.1=some .local\/(scope.names.lookup y.1=some .cell/\((cellsFrom (s.heap.objs.size+1) scope.names []).lookup y.1).isSome=true):=fun ⟨n,v⟩ hy=>by
  rcases S.par n (List.of_mem_zip hy).1 with q | q
  . exact .inl q
  . exact .inr ⟨q,PySem.W.cellsFrom_some _ _ _ (.inl q)⟩
 refine codeAny_call_function hr.depth (KX _ _ lk) rfl S.co S.gen rfl (PySem.W.codeRec_of KX hcd) (hb _ _ _ _ ?_)
 refine wpAny_newFunctionEnv_cells S.kind hkind fun env he s1 x=>?_
 subst he
 refine ⟨lim.keeps x.toInCall.keep,codeAny_func ?_⟩
 obtain ⟨t,ht,hq⟩:=hbody A outer s H vs Q E (hr.deeper _) hsp
 have I:Inv (E3 CX P w K mg base N qual scope f cdv A outer s H E) [] (z8 N vs) H s1:=yg S hr.hd e0 hl r x
 refine wpAny_mono (ht [] s1 (z8 N vs) H _ I hq) (fun fl s' hs=>?_) fun e s' hs=>hs
 have fin:∀{σ':St} {H':Hp} {v:V} {u:Value},Inv (E3 CX P w K mg base N qual scope f cdv A outer s H E) [] σ' H' s'->RelV v u->Q v H'->CE outer P w H s Q u s':=
  fun {σ' H' v u} J rv q=>⟨v,H',J.os,J.bare,J.base,J.hok,rv,q⟩
 cases fl with
 | ret u=>
  obtain ⟨v,σ',H',J,rv,q⟩:=hs
  exact fin J rv q
 | next=>
  obtain ⟨σ',H',J,q⟩:=hs
  exact fin (v:=V.non) (u:=Value.none) J rfl q
 | brk=>
  obtain ⟨_,_,_,q⟩:=hs
  exact False.elim q
 | cont=>
  obtain ⟨_,_,_,q⟩:=hs
  exact False.elim q
section
variable {X:Cx} {x:Str} {p pos:Pos} {e:Expr} {es:List Expr} {t:TA} {id T:String} {r:List V->Hp->VK->Prop}
noncomputable def tCB (r:List V->Hp->VK->Prop) (t:TA):TE:=fun U H Q=>t U H fun vs H1=>r vs H1 Q
theorem Lx (hc:CallR X (.builtin id) r) (hg:Gl X x) (hm:X.mg x=none) (hv:bootBuiltins x=some (.builtin id)) (ha:PA X (e::es) t) (hn:x≠"__name__":=by decide) (hdb:(x==("__debug__":Str))=false:=by decide)
  (he:starEach (e::es) X.env=(false,eval e X.env)::starEach es X.env:=by rfl) (hpl:(backTo pos (starEach es X.env)).any (·.1)=false:=by rfl):PE X (.Call (.Name x p) (e::es) [] pos) (tCB r t):=by
 intro pins s U H Q I h
 refine wpAny_Call_Name_kw (T6 I hg hm hv ?_ hn hdb)
 exact PyProof.Rows.callWith_builtin1 (thn (ha pos pins s U H _ I h) fun us s1 ⟨vs,H1,I1,r1,q1⟩=>hc pins s1 U H1 vs us Q I1 r1 q1) he hpl
theorem yf (hc:CallR X (.type T) r) (hg:Gl X x) (hm:X.mg x=none) (hv:bootBuiltins x=some (.type T)) (ha:PA X (e::es) t) (hn:x≠"__name__":=by decide) (hdb:(x==("__debug__":Str))=false:=by decide)
  (he:starEach (e::es) X.env=(false,eval e X.env)::starEach es X.env:=by rfl) (hpl:(backTo pos (starEach es X.env)).any (·.1)=false:=by rfl):PE X (.Call (.Name x p) (e::es) [] pos) (tCB r t):=by
 intro pins s U H Q I h
 refine wpAny_Call_Name_kw (T6 I hg hm hv ?_ hn hdb)
 exact PyProof.Rows.callWith_type1 (thn (ha pos pins s U H _ I h) fun us s1 ⟨vs,H1,I1,r1,q1⟩=>hc pins s1 U H1 vs us Q I1 r1 q1) he hpl
end
end L2
namespace HT
open PySem PyProof.Rows
theorem rcLt_int (A:Around) (s:Shared) (a:Int) (t:Tok) (c:Int) (u:Tok) (prog:Program) (w:World) (E:Value->Shared->Prop) (Q:Value->Shared->Prop) (h:Q (.bool (decide (a<c))) s) :
  wpAny (model prog w) A (richCompare .Lt (.int a t) (.int c u)) Q E s:=
 (PyProof.Rows.lt_int h:wpAny (model prog w) A (compareOp .Lt (.int a t) (.int c u)) Q E s)
section
open PySem.SeqAt
open PySem.AutoSeq1 (wpAny_loadPart')
open PySem.MeetsSeq PySem.MeetsSeq2 PySem.MeetsSeq3
end
section
def sIx (n d:Nat):Option Int->Nat
 | none=>d
 | some v=>if v<0 then (v+(n:Int)).toNat else min v.toNat n
end
end HT
namespace L2
open PySem PySem.Spec PyProof.Rows
abbrev TO:=St->Hp->(Option Int->Hp->Prop)->Prop
def PO (X:Cx) (e:Option Expr) (t:TO):Prop:=
 ∀(pins:List (Addr×Obj)) (s:Shared) (U:St) (H:Hp) (Q:Option Int->Hp->Prop),Inv X pins U H s->t U H Q ->
  wpAny (model X.prog X.w) X.A (evalPart e X.env) (fun u s'=>∃o H',Inv X pins U H' s'/\IsPart u o/\Q o H') X.xe s
noncomputable def ja (t:TE):TO:=fun U H Q=>t U H fun x H1=>∃i,x=.int i/\Q (some i) H1
theorem Gn:∀{us:List Value},Vals (ns.map V.int) us->IntsAre us ns:=by
 induction ns with
 | nil=>intro us r;rw [List.map_nil] at r;cases r;exact .nil
 | cons n ns ih=>
  intro us r
  rw [List.map_cons] at r
  cases r with
  | cons r1 r2=>
   obtain ⟨t,e⟩:=r1
   subst e
   exact .cons n t (ih r2)
section
variable {X:Cx} {e:Expr} {te:TE} {lo hi:Option Expr} {tl th:TO} {pos p2:Pos}
theorem vU (h:PE X e te):PO X (some e) (ja te):=by
 intro pins s U H Q I hw;rw [evalPart_some];refine thn (h pins s U H _ I hw) fun u s1 ⟨x,H1,I1,r1,q1⟩=>?_
 obtain ⟨i,rfl,q⟩:=q1;obtain ⟨t,rfl⟩:=r1;exact ⟨some i,H1,I1,.int i t,q⟩
def SlR (X:Cx) (r:V->Option Int->Option Int->Hp->VK->Prop):Prop:=
 ∀(pins:List (Addr×Obj)) (s:Shared) (U:St) (H:Hp) (x:V) (v vl vu:Value) (lo hi:Option Int) (sl:Addr) (Q:VK),Inv X pins U H s->RelV x v->s.heap.IsSliceOf sl vl vu .none->IsPart vl lo->IsPart vu hi->r x lo hi H Q ->
  ∃T id,typeLookup (.type T) "__getitem__"=pure (some (.builtin id))/\s.TypeIs v T/\wpAny (model X.prog X.w) X.A (getItem v (.ref sl)) (EP X pins U Q) X.xe s
noncomputable def tSl (r:V->Option Int->Option Int->Hp->VK->Prop) (te:TE) (tl th:TO):TE:=fun U H Q=>te U H fun x H1=>tl U H1 fun l H2=>th U H2 fun u H3=>r x l u H3 Q
theorem xr (hr:SlR X r) (he:PE X e te) (hl:PO X lo tl) (hu:PO X hi th):PE X (.Subscript e (.Slice lo hi none p2) pos) (tSl r te tl th):=by
 intro pins s U H Q I h;refine Subscript_ (thn (he pins s U H _ I h) fun v s1 ⟨x,H1,I1,r1,q1⟩=>?_);refine wpAny_Slice (thn (hl pins s1 U H1 _ I1 q1) fun vl s2 ⟨l,H2,I2,pl,q2⟩=>thn (hu pins s2 U H2 _ I2 q2) fun vu s3 ⟨u,H3,I3,pu,q3⟩=>?_);rw [evalPart_none];refine ω ?_;have I4:Inv X pins U H3 { s3 with heap:=s3.heap.push { cls:=.type "slice",data:=.fields #[vl,vu,.none] } }:=I3.kept (t':=s3.toks) fun b ob q=>τ _ q
 obtain ⟨T,id,hT,ht,hg⟩:=hr pins { s3 with heap:=s3.heap.push { cls:=.type "slice",data:=.fields #[vl,vu,.none] } } U H3 x v vl vu l u s3.heap.objs.size Q I4 r1 (Heap.IsSliceOf.new ..) pl pu q3;show wpAny (model X.prog X.w) X.A (subscriptTail e (.Slice lo hi none p2) v (.ref s3.heap.objs.size)) (EP X pins U Q) X.xe { s3 with heap:=s3.heap.push { cls:=.type "slice",data:=.fields #[vl,vu,.none] } };exact tail_any (ops:=[.ref s3.heap.objs.size,v]) ht hT hg (by with_unfolding_all rfl)
noncomputable def W5 (xs:List V) (lo hi:Option Int):List V:=(xs.drop (HT.sIx xs.length 0 lo)).take (HT.sIx xs.length xs.length hi - HT.sIx xs.length 0 lo)
theorem yW (xs:List V) (lo hi:Option Int):(W5 xs lo hi).length<=xs.length:=by unfold W5;rw [List.length_take,List.length_drop];omega
end
noncomputable def ixN (n:Nat) (i:Int):Option Nat:=if 0<=i then (if i<n then some i.toNat else none) else if -(n:Int)<=i then some (i+n).toNat else none
def atI {α:Type} (xs:List α) (i:Int):Option α:=(ixN xs.length i).bind fun j=>xs[j]?
theorem vT (h:ixN n i=some j):seqIndex? i n=some j/\j<n/\-(n:Int)<=i/\i<n:=by
 unfold ixN at h;by_cases h0:0<=i
 . rw [ζ h0] at h;by_cases h1:i<n
   . rw [ζ h1] at h;have e:i.toNat=j:=Option.some.inj h;exact ⟨by rw [seqIndex_of h0 h1,e],by lia,by lia,h1⟩
   . rw [ξ h1] at h;cases h
 . rw [ξ h0] at h;by_cases h1:-(n:Int)<=i
   . rw [ζ h1] at h;have e:(i+n).toNat=j:=Option.some.inj h;exact ⟨by rw [seqIndex_neg (by lia) h1,e],by lia,h1,by lia⟩
   . rw [ξ h1] at h;cases h
theorem Ld (h:atI xs i=some v):∃j,seqIndex? i xs.length=some j/\xs[j]?=some v/\j<xs.length/\-(xs.length:Int)<=i/\i<xs.length:=by
 unfold atI at h;cases e:ixN xs.length i with
 | none=>rw [e] at h;cases h
 | some j=>
  rw [e] at h
  obtain ⟨h1,h2,h3,h4⟩:=vT e
  exact ⟨j,h1,h,h2,h3,h4⟩
theorem Dq {α:Type} {xs:List α} {j:Nat} {v:α} (h:xs[j]?=some v):atI xs (j:Int)=some v:=by
 have hj:j<xs.length:=(List.getElem?_eq_some_iff.mp h).1;have e:ixN xs.length (j:Int)=some j:=by unfold ixN;rw [ζ (by lia),ζ (by lia)];simp
 unfold atI;rw [e];exact h
theorem xq (xs:List α) (v:α):atI (xs++[v]) (-1)=some v:=by
 have hl:(xs++[v]).length=xs.length+1:=by simp
 have e:ixN (xs++[v]).length (-1)=some xs.length:=by
  unfold ixN;rw [hl,ξ (by decide),ζ (by lia)];congr 1
  lia
 unfold atI;rw [e];show (xs++[v])[xs.length]?=some v;simp
def Lc (b:Expr):Prop:=∀o i,subscripted b false o i=operate [o,i] (getItem o i)
def IxR (X:Cx) (r:R2):Prop:=
 ∀(value slice:Expr) (pins:List (Addr×Obj)) (s:Shared) (U:St) (H:Hp) (x y:V) (v u:Value) (Q:VK),Inv X pins U H s->RelV x v->RelV y u->r x y H Q ->
  subscripted slice false v u=operate [v,u] (getItem v u)->wpAny (model X.prog X.w) X.A (subscriptTail value slice v u) (EP X pins U Q) X.xe s
def MtR (X:Cx) (id:String) (r:V->List V->Hp->VK->Prop):Prop:=
 ∀(pins:List (Addr×Obj)) (s:Shared) (U:St) (H:Hp) (x:V) (xs:List V) (v:Value) (us:List Value) (Q:VK),Inv X pins U H s->RelV x v->Vals xs us->r x xs H Q ->
  wpAny (model X.prog X.w) X.A (call (.builtin id) (v::us)) (EP X pins U Q) X.xe s
section
variable {X:Cx} {a b:Expr} {ta tb:TE} {pos:Pos}
theorem IxR.or (h:IxR X r) (h':IxR X r'):IxR X (fun x y H Q=>r x y H Q\/r' x y H Q):=by
 intro value slice pins s U H x y v u Q I rx ry q hs;rcases q with q | q
 . exact h value slice pins s U H x y v u Q I rx ry q hs
 . exact h' value slice pins s U H x y v u Q I rx ry q hs
theorem Zz (hr:IxR X r) (ha:PE X a ta) (hb:PE X b tb) (hs:Lc b):PE X (.Subscript a b pos) (tOp r ta tb):=by intro pins s U H Q I h;exact Subscript_ (Hf ha hb I h fun v u s2 x y H2 I2 rx ry q=>hr a b pins s2 U H2 x y v u Q I2 rx ry q (hs _ _))
def Yl (K:Frag):R2:=fun x y H Q=>∃p xs i v,x=.ref p/\y=.int i/\SqL K H p xs/\atI xs i=some v/\Q v H
def Yk (K:Frag):R2:=fun x y H Q=>∃p xs i v,x=.ref p/\y=.int i/\SqT K H p xs/\atI xs i=some v/\Q v H
def Yj:R2:=fun x y H Q=>∃z i c,x=.str z/\y=.int i/\z.length<=sizeLine/\atI z.cps.toList i=some c/\Q (.str ⟨#[c]⟩) H
theorem ix_list:IxR X (Yl X.K):=by
 intro value slice pins s U H x y v u Q I rx ry h hs;obtain ⟨p,xs,i,z,rfl,rfl,hq,he,q⟩:=h;cases rx;obtain ⟨t,rfl⟩:=ry;obtain ⟨its,r,pl,hz⟩:=I.list hq;obtain ⟨j,h1,h2,h3,h4,h5⟩:=Ld he;obtain ⟨w,ew,rw'⟩:=r.get h2;have hl:=r.length;have hn:=Z1;have fin:EP X pins U Q w s:=⟨z,H,I,rw',q⟩;by_cases h0:0<=i
 . have hj:i.toNat=j:=by
    rw [seqIndex_of h0 h5] at h1
    exact Option.some.inj h1
   exact item_listR pl.isList h0 (by lia) (by rw [hj];simpa using ew) fin hs
 . have hj:(i+(its.toArray.size:Int)).toNat=j:=by
    rw [seqIndex_neg (by lia) h4] at h1
    rw [List.size_toArray,<-hl]
    exact Option.some.inj h1
   exact subscriptTail_builtinR (x:=w) pl.isList.typeIs slot_list_getitem.lookup
    (wpAny_getItem_list_neg (Q:=fun r s'=>r=w/\EP X pins U Q r s') pl.isList (by lia) (by rw [List.size_toArray]<;>lia) (by lia) (by rw [hj];simpa using ew) ⟨rfl,fin⟩) hs
theorem ix_tup:IxR X (Yk X.K):=by
 intro value slice pins s U H x y v u Q I rx ry h hs;obtain ⟨p,xs,i,z,rfl,rfl,hq,he,q⟩:=h;cases rx;obtain ⟨t,rfl⟩:=ry;obtain ⟨its,r,pl,hz⟩:=I.tuple hq;obtain ⟨j,h1,h2,h3,h4,h5⟩:=Ld he;obtain ⟨w,ew,rw'⟩:=r.get h2;have hl:=r.length;have hn:=Z1;have fin:EP X pins U Q w s:=⟨z,H,I,rw',q⟩;exact subscriptTail_builtinR (x:=w) pl.typeIs slot_tuple_getitem.lookup
  (getItem_tuple (j:=j) (Q:=fun r s'=>r=w/\EP X pins U Q r s') pl (by lia) (by lia) (by rw [List.size_toArray,<-hl];exact h1) (by simpa using ew) ⟨rfl,fin⟩) hs
theorem kS:IxR X Yj:=by
 intro value slice pins s U H x y v u Q I rx ry h hs;obtain ⟨z,i,c,rfl,rfl,hz,he,q⟩:=h;obtain ⟨t,rfl⟩:=rx;obtain ⟨t',rfl⟩:=ry;obtain ⟨j,h1,h2,h3,h4,h5⟩:=Ld he;have hl:z.cps.toList.length=z.length:=by simp [Str.length]
 rw [hl] at h1 h4 h5;have hn:=Z1;exact tail_any (typeIs_str s z t) slot_str_getitem.lookup (getItem_str (c:=c) (by have e1:decide (i < -(2 ^ 63:Int))=false:=decide_eq_false (by lia);have e2:decide (i ≥ 2 ^ 63)=false:=decide_eq_false (by lia);rw [e1,e2,Bool.or_false]) (by rw [h1];simpa using h2) ⟨.str ⟨#[c]⟩,H,I.tok _,⟨_,rfl⟩,q⟩) hs
def rIx (K:Frag):R2:=fun x y H Q=>Yl K x y H Q\/Yk K x y H Q\/Yj x y H Q
theorem ix_seq:IxR X (rIx X.K):=ix_list.or (ix_tup.or kS)
theorem Inv.lst (I:Inv X pins U H s) (h:H p=some (.lst xs)) :
  ∃(its:List Value) (n:Nat),Vals xs its/\s.heap.get? p=some { cls:=.type "list",data:=.seq its.toArray n }/\xs.length<=sizeLine:=by
 obtain ⟨z,its,n,r,e⟩:=I.hok p _ h
 exact ⟨its,n,r,e,z⟩
theorem zz (lo hi:Option Int) (n:Nat):(sliceBounds lo hi none n).1=((HT.sIx n 0 lo:Nat):Int)/\(sliceBounds lo hi none n).2.1=((HT.sIx n n hi:Nat):Int)/\(sliceBounds lo hi none n).2.2=1:=by
 refine ⟨?_,?_,rfl⟩
 . cases lo with
   | none=>simp [sliceBounds,HT.sIx]
   | some i=>
    simp only [sliceBounds,HT.sIx,Option.getD_none,show (1:Int) > 0 by decide,if_true]
    by_cases h:i<0
    . simp only [h,if_true]<;>lia
    . simp only [h,if_false]<;>lia
 . cases hi with
   | none=>simp [sliceBounds,HT.sIx]
   | some i=>
    simp only [sliceBounds,HT.sIx,Option.getD_none,show (1:Int) > 0 by decide,if_true]
    by_cases h:i<0
    . simp only [h,if_true]<;>lia
    . simp only [h,if_false]<;>lia
theorem zJ (its:List Value) (lo hi:Option Int):slicePick its.toArray lo hi none=((its.drop (HT.sIx its.length 0 lo)).take (HT.sIx its.length its.length hi - HT.sIx its.length 0 lo)).toArray:=by obtain ⟨h1,h2,h3⟩:=zz lo hi its.toArray.size;unfold slicePick;rw [h1,h2,h3];simp only [sliceRange_one,pick_run,List.size_toArray]<;>rfl
def Yi (K:Frag):V->Option Int->Option Int->Hp->VK->Prop:=fun x lo hi H Q=>∃a xs,x=.ref a/\SqL K H a xs/\∀p,H p=none->Q (.ref p) (upd H p (.lst (W5 xs lo hi)))
theorem Lb:SlR X (Yi X.K):=by intro pins s U H x v vl vu lo hi sl Q I rx hs pl pu h;obtain ⟨a,xs,rfl,hx,q⟩:=h;cases rx;obtain ⟨its,r,ht,hz⟩:=I.list hx;have hlen:=r.length;refine ⟨"list",_,slot_list_getitem.lookup,ht.isList.typeIs,?_⟩;refine wpAny_getItem_list_slice ht.isList hs pl pu .none (by simp) ?_ (by rw [List.size_toArray]<;>lia);rw [zJ,<-hlen];refine ⟨.ref s.heap.objs.size,_,I.laid (t':=s.toks) (o:=.lst (W5 xs lo hi)) (fun b ob q=>τ _ q) (η _) ?_,rfl,q _ (I.hok.fresh (η _))⟩;exact ⟨Nat.le_trans (yW xs lo hi) hz,_,0,(r.drop (HT.sIx xs.length 0 lo)).take (HT.sIx xs.length xs.length hi - HT.sIx xs.length 0 lo),Ψ _ rfl⟩
theorem call_len_seq:CallR X (.builtin "len") (fun xs H Q=>∃p ys,xs=[.ref p]/\(SqL X.K H p ys\/SqT X.K H p ys)/\Q (.int ys.length) H):=by
 intro pins s U H xs us Q I r h;obtain ⟨p,ys,rfl,hq,q⟩:=h;obtain ⟨u,rfl,rx⟩:=A9 r;cases rx;have hn:=Z1;rcases hq with hq | hq
 . obtain ⟨its,r',pl,hz⟩:=I.list hq;have hlen:=r'.length;exact Calls.call_len_list pl.isList (by simp only [List.size_toArray]<;>lia) ⟨.int ys.length,H,I.tok _,⟨s.toks+1,by rw [List.size_toArray,hlen]⟩,q⟩
 . obtain ⟨its,r',pl,hz⟩:=I.tuple hq;have hlen:=r'.length;exact len_tuple pl (by simp only [List.size_toArray]<;>lia) ⟨.int ys.length,H,I.tok _,⟨s.toks+1,by rw [List.size_toArray,hlen]⟩,q⟩
theorem zy:CallR X (.builtin "len") (fun xs H Q=>∃z,xs=[.str z]/\z.length<=sizeLine/\Q (.int z.length) H):=by intro pins s U H xs us Q I r h;obtain ⟨z,rfl,hz,q⟩:=h;obtain ⟨u,rfl,t,rfl⟩:=A9 r;have hn:=Z1;exact len_str (by lia) ⟨.int z.length,H,I.tok _,⟨_,rfl⟩,q⟩
theorem CallR.or (h:CallR X f r) (h':CallR X f r'):CallR X f (fun xs H Q=>r xs H Q\/r' xs H Q):=by
 intro pins s U H xs us Q I rs q;rcases q with q | q
 . exact h pins s U H xs us Q I rs q
 . exact h' pins s U H xs us Q I rs q
theorem zx:CallR X (.type "list") (fun xs H Q=>∃p ys,xs=[.ref p]/\(SqL X.K H p ys\/SqT X.K H p ys)/\∀l,H l=none->Q (.ref l) (upd H l (.lst ys))):=by
 intro pins s U H xs us Q I r h;obtain ⟨p,ys,rfl,hq,q⟩:=h;obtain ⟨u,rfl,rx⟩:=A9 r;cases rx;have fin:∀(its:List Value),Vals ys its->ys.length<=sizeLine->∀(h':Heap) (c':Nat),(∀b o',s.heap.get? b=some o'->h'.get? b=some o') ->
   h'.get? s.heap.objs.size=some { cls:=.type "list",dict:=none,data:=.seq its.toArray c',slots:=#[] }->EP X pins U Q (.ref s.heap.objs.size) { s with heap:=h' }:=fun its r' hz h' c' kp e=>
  ⟨.ref s.heap.objs.size,_,I.laid (t':=s.toks) kp (η _) (show ObjOk X.prog X.w _ h' _ (.lst ys) from ⟨hz,its,c',r',e⟩),rfl,q _ (I.hok.fresh (η _))⟩
 rcases hq with hq | hq
 . obtain ⟨its,r',pl,hz⟩:=I.list hq;have hlen:=r'.length;obtain ⟨o,ho,hc,n,hd⟩:=pl.isList;exact call_list_seq p (.inl rfl) ho hc hd (fun h' c' kp e=>fin its r' hz h' c' kp e) (by simp only [List.size_toArray]<;>lia)
 . obtain ⟨its,r',pl,hz⟩:=I.tuple hq;have hlen:=r'.length;obtain ⟨o,ho,hc,n,hd⟩:=pl;exact call_list_seq p (.inr rfl) ho hc hd (fun h' c' kp e=>fin its r' hz h' c' kp e) (by simp only [List.size_toArray]<;>lia)
theorem zI:CallR X (.type "tuple") (fun xs H Q=>∃p ys,xs=[.ref p]/\((SqL X.K H p ys/\∀l,H l=none->Q (.ref l) (upd H l (.tup ys)))\/(SqT X.K H p ys/\Q (.ref p) H))):=by
 intro pins s U H xs us Q I r h;obtain ⟨p,ys,rfl,h⟩:=h;obtain ⟨u,rfl,rx⟩:=A9 r;cases rx;rcases h with ⟨hq,q⟩ | ⟨hq,q⟩
 . obtain ⟨its,r',pl,hz⟩:=I.list hq;have hlen:=r'.length;refine call_tuple_list pl.isList (fun h' kp=>?_) (by simp only [List.size_toArray]<;>lia);have I1:Inv X pins U H { s with heap:=h' }:=I.kept (t':=s.toks) kp;have I2:Inv X pins U (upd H h'.objs.size (.tup ys)) { s with heap:=h'.push { cls:=.type "tuple",data:=.seq its.toArray } }:=
    I1.laid (t':=s.toks) (fun b o e=>τ _ e) (η _) (show ObjOk X.prog X.w _ _ _ (.tup ys) from ⟨hz,its,r',.mk' (Ψ _ rfl)⟩)
   exact ⟨.ref h'.objs.size,_,I2,rfl,q _ (I1.hok.fresh (η _))⟩
 . obtain ⟨its,r',pl,hz⟩:=I.tuple hq;exact call_tuple_same pl ⟨.ref p,H,I,rfl,q⟩
def tyV (K:Frag) (T:String) (x:V) (H:Hp):Prop:=match x with
 | .str _=>T="str"
 | .int _=>T="int"
 | .ref p=>(T="list"/\∃xs,SqL K H p xs)\/(T="tuple"/\∃o,K.lookup p=some o/\o.cls=.type "tuple"/\o.dict=none) \/
  (T="dict"/\((∃kvs,H p=some (.dK kvs))\/∃kvs,H p=some (.dT kvs)))\/(T="set"/\∃S n,H p=some (.set S n))
 | _=>False
theorem kR (I:Inv X pins U H s) (r:RelV x v) (ty:tyV X.K T x H) :
  s.TypeIs v T/\∀a,v=.ref a->∃ob,s.heap.get? a=some ob/\ob.dict=none:=by
 cases x with
 | str z=>
  obtain ⟨t,rfl⟩:=r
  cases (show T="str" from ty)
  exact ⟨typeIs_str s z t,fun _ e=>nomatch e⟩
 | int i=>
  obtain ⟨t,rfl⟩:=r
  cases (show T="int" from ty)
  exact ⟨typeIs_int s i t,fun _ e=>nomatch e⟩
 | ref p=>
  cases r
  rcases ty with ⟨rfl,xs,hq⟩ | ⟨rfl,o,hk,hc,hd⟩ | ⟨rfl,hk⟩ | ⟨rfl,S,n,hk⟩
  . obtain ⟨its,_,pl,_⟩:=I.list hq;refine ⟨pl.isList.typeIs,fun a e=>?_⟩;cases e;obtain ⟨o,n,e,c,hd,_⟩:=pl;exact ⟨o,e,hd⟩
  . refine ⟨⟨o,I.kIn p o hk,hc⟩,fun a e=>?_⟩;cases e;exact ⟨o,I.kIn _ o hk,hd⟩
  . have z:∃o,s.heap.get? p=some o/\o.ExactDict:=by
     rcases hk with ⟨kvs,hk⟩ | ⟨kvs,hk⟩
     . obtain ⟨_,_,_,_,o,_,_,e,ex,_⟩:=I.hok p _ hk;exact ⟨o,e,ex⟩
     . obtain ⟨_,_,_,_,o,_,_,e,ex,_⟩:=I.hok p _ hk;exact ⟨o,e,ex⟩
    obtain ⟨o,e,ex⟩:=z
    refine ⟨⟨o,e,ex.1⟩,fun a e2=>?_⟩
    cases e2
    exact ⟨o,e,ex.2.1⟩
  . obtain ⟨o,_,_,_,e,ex,_⟩:=I.hok p _ hk;refine ⟨⟨o,e,ex.1⟩,fun a e2=>?_⟩;cases e2;exact ⟨o,e,ex.2.1⟩
 | _=>exact False.elim ty
noncomputable def tBM (K:Frag) (T:String) (r:V->List V->Hp->VK->Prop) (to:TE) (t:TA):TE:=fun U H Q=>to U H fun x H1=>tyV K T x H1/\t U H1 fun xs H2=>r x xs H2 Q
variable {o e:Expr} {es:List Expr} {to:TE} {t:TA} {name:Str} {apos cpos:Pos} {T id:String} {r:V->List V->Hp->VK->Prop}
theorem Om (pa:PlainAttrs T) (slot:Slot T name id) (hty:typeOf (.builtin id)=pure (.type "method_descriptor")) (hm:MtR X id r) (ho:PE X o to) (ha:PA X (e::es) t)
  (hbase:attributeBase o name X.env (eval o X.env)=eval o X.env:=by rfl)
  (hfew:((backTo cpos (starEach (e::es) X.env)).all (fun x=>!x.1)&&(backToKw cpos (keywordEach [] X.env)).all (fun x=>x.1.isSome)
   && decide ((e::es).length+([]:List Keyword).length+(if ([]:List Keyword).isEmpty then 0 else 1)<30))=true:=by rfl)
  (hline:(apos.endLine==cpos.line)=true:=by rfl) (hs:starEach (e::es) X.env=(false,eval e X.env)::starEach es X.env:=by rfl) (hplain:(backTo cpos (starEach es X.env)).any (·.1)=false:=by rfl) :
  PE X (.Call (.Attribute o name apos) (e::es) [] cpos) (tBM X.K T r to t):=by
 intro pins s U H Q I h
 refine wpAny_Call_method_late hbase hfew hline rfl (thn (ho pins s U H _ I h) fun v s1 ⟨x,H1,I1,r1,ty,q1⟩=>?_)
 obtain ⟨h1,h2⟩:=kR I1 r1 ty
 refine ⟨T,id,pa,slot,hty,h1,h2,?_⟩
 have hA:=ha cpos pins s1 U H1 _ I1 q1
 rw [hs] at hA ⊢
 refine Calls.callWith_builtin (by show (false||(backTo cpos (starEach es X.env)).any (·.1))=false;rw [hplain]<;>rfl) (Calls.evalArgs_plain ?_)
 exact thn hA fun us s2 ⟨vs,H2,I2,r2,q2⟩=>hm pins s2 U H2 x vs v us Q I2 r1 r2 q2
end
def MtM (X:Cx) (id:String) (r:V->List V->Hp->VK->Prop):Prop:=
 ∀(pins:List (Addr×Obj)) (s:Shared) (U:St) (H:Hp) (x:V) (xs:List V) (v:Value) (us:List Value) (Q:VK),Inv X pins U H s->RelV x v->Vals xs us->r x xs H Q ->
  wpAny (model X.prog X.w) X.A (call (.builtin id) (v::us)) (EP X pins U Q) X.xe s
theorem Vals.one:∀{x:V} {us:List Value},Vals [x] us->∃u,us=[u]/\RelV x u
 | _,_,.cons r .nil=>⟨_,rfl,r⟩
theorem Vals.two:∀{x y:V} {us:List Value},Vals [x,y] us->∃u v,us=[u,v]/\RelV x u/\RelV y v
 | _,_,_,.cons r (.cons q .nil)=>⟨_,_,rfl,r,q⟩
section
variable {X:Cx} {pins:List (Addr×Obj)} {U:St} {H:Hp} {s:Shared} {l:Addr} {xs ys:List V}
theorem Inv.lset {its its':List Value} {n:Nat} {f:Array Value->Array Value} {t':Nat} (I:Inv X pins U H s) (hH:H l=some (.lst xs))
  (e:s.heap.get? l=some { cls:=.type "list",data:=.seq its.toArray n }) (hf:f its.toArray=its'.toArray) (hv:Vals ys its') (hz:ys.length<=sizeLine) :
  Inv X pins U (upd H l (.lst ys)) { s with heap:=s.heap.update l (Obj.mapSeq f),toks:=t' }:=by
 have q:=PySem.IsL.update e f
 rw [hf] at q
 refine I.write (x:=l) (e:=l) (by rw [hH];exact trivial) (.inl rfl) (fun b' u hb hu=>(Heap.get?_update_other s.heap (Obj.mapSeq f) (Ne.symm hb)).trans hu) ⟨_,q⟩ ?_
 exact ⟨hz,its',_,hv,q⟩
theorem Inv.lnew (I:Inv X pins U H s) (hv:Vals ys its) (hz:ys.length<=sizeLine) :
  Inv X pins U (upd H s.heap.objs.size (.lst ys)) { s with heap:=s.heap.push { cls:=.type "list",data:=.seq its.toArray },toks:=t' }:=
 I.laid (fun _ _ q=>τ _ q) (η _) ⟨hz,its,0,hv,Ψ _ rfl⟩
theorem Inv.fresh (I:Inv X pins U H s):H s.heap.objs.size=none:=I.hok.fresh (η _)
theorem Inv.lstM (I:Inv X pins U H s) (hH:H l=some (.lst xs)):xs.length<=sizeLine/\∃(its:List Value) (n:Nat),Vals xs its/\xs.length=its.length/\s.heap.get? l=some { cls:=.type "list",data:=.seq its.toArray n }:=by obtain ⟨z,its,n,r,e⟩:=I.hok l _ hH;exact ⟨z,its,n,r,r.length,e⟩
end
section
variable {X:Cx}
def Ti:V->List V->Hp->VK->Prop:=fun x vs H Q=>∃l xs y,x=.ref l/\vs=[y]/\H l=some (.lst xs)/\xs.length<sizeLine/\Q .non (upd H l (.lst (xs++[y])))
theorem V1:MtM X "list.append" Ti:=by
 intro pins s U H x vs v us Q I rx rv h;obtain ⟨l,xs,y,rfl,rfl,hH,hz,q⟩:=h;cases rx;obtain ⟨u,rfl,ru⟩:=rv.one;obtain ⟨z,its,n,r,hl,e⟩:=I.lstM hH;refine call_meets F.slot_list_append ⟨_,e,rfl⟩ F.entry_list_append (F.args_list_append_2 _ _) (PySem.list_append l its.toArray n u (by rw [List.size_toArray];lia)) ⟨e,?_⟩;refine ⟨.non,_,I.lset (its':=its++[u]) hH e (by simp) (r.append (.cons ru .nil)) ?_,rfl,q⟩;rw [χ,List.length_singleton]
 lia
def Yh:R2:=fun x y H Q=>∃l b xs zs,x=.ref l/\y=.ref b/\H l=some (.lst xs)/\H b=some (.lst zs)/\xs.length+zs.length<=sizeLine/\∀p,H p=none->Q (.ref p) (upd H p (.lst (xs++zs)))
theorem Z0:OpR X (binaryOp .Add) Yh:=by
 intro pins s U H x y v u Q I rx ry h;obtain ⟨l,b,xs,zs,rfl,rfl,hH,hB,hz,q⟩:=h;cases rx;cases ry;obtain ⟨z,its,n,r,hl,e⟩:=I.lstM hH;obtain ⟨z2,its2,n2,r2,hl2,e2⟩:=I.lstM hB;refine PySem.P.add_list e e2 ?_ (by rw [List.size_toArray,List.size_toArray];omega);have ea:its.toArray++its2.toArray=(its++its2).toArray:=by simp
 rw [ea];exact ⟨.ref _,_,I.lnew (t':=s.toks) (r.append r2) (by rw [χ];omega),rfl,q _ I.fresh⟩
end
section
variable {κ:Type} [DecidableEq κ]
noncomputable def C3 (kvs:List (κ×V)) (k:κ):Option V:=(kvs.find? fun kv=>decide (kv.1=k)).map (·.2)
noncomputable def Ol (kvs:List (κ×V)) (k:κ):List (κ×V):=kvs.filter fun kv=>decide (kv.1≠k)
theorem Ui {p:κ×V} {r:List (κ×V)} {k:κ} (e:p.1=k):C3 (p::r) k=some p.2:=by simp [C3,List.find?_cons,e]
theorem Uh {p:κ×V} {r:List (κ×V)} {k:κ} (e:¬p.1=k):C3 (p::r) k=C3 r k:=by simp [C3,List.find?_cons,e]
theorem RelO.isSome_eq (r:RelO o u):o.isSome=u.isSome:=by
 cases o with
 | none=>cases u with
  | none=>rfl
  | some _=>exact (show False from r).elim
 | some _=>cases u with
  | none=>exact (show False from r).elim
  | some _=>rfl
theorem RelO.getD (r:RelO o u) (rd:RelV d d'):RelV (o.getD d) (u.getD d'):=by
 cases o with
 | none=>cases u with
  | none=>exact rd
  | some _=>exact (show False from r).elim
 | some _=>cases u with
  | none=>exact (show False from r).elim
  | some _=>exact r
theorem KV.val (r:KV kvs vs) (k:κ):RelO (C3 kvs k) (valueAt vs k):=by
 unfold KV at r;induction r with
 | nil=>exact True.intro
 | @cons p q ps qs h t ih=>
  obtain ⟨h1,h2⟩:=h
  by_cases e:p.1=k
  . have e':q.1=k:=h1.symm.trans e;have b:valueAt (q::qs) k=some q.2:=by simp [valueAt,List.find?_cons,e']
    rw [Ui e,b];exact h2
  . have e':¬q.1=k:=fun z=>e (h1.trans z)
    have b:valueAt (q::qs) k=valueAt qs k:=by simp [valueAt,List.find?_cons,e']
    rw [Uh e,b];exact ih
theorem KV.drop (r:KV kvs vs) (k:κ):KV (Ol kvs k) (without vs k):=by
 unfold KV at r ⊢;unfold Ol without;induction r with
 | nil=>exact .nil
 | @cons p q ps qs h t ih=>
  obtain ⟨h1,h2⟩:=h
  rw [List.filter_cons,List.filter_cons]
  by_cases e:p.1=k
  . have a:¬decide (p.1≠k)=true:=by simp [e]
    have b:¬decide (q.1≠k)=true:=by simp [h1.symm.trans e]
    rw [ξ a,ξ b];exact ih
  . have e':¬q.1=k:=fun z=>e (h1.trans z)
    have a:decide (p.1≠k)=true:=by simp [e]
    have b:decide (q.1≠k)=true:=by simp [e']
    rw [ζ a,ζ b];exact .cons ⟨h1,h2⟩ ih
theorem KV.length (r:KV kvs vs):kvs.length=vs.length:=Paired.length r
end
theorem Fj (r:RelV (kV k) u):(G9 P w).is k u=true:=by
 cases k with
 | inl i=>obtain ⟨t,e⟩:=(show ∃t,u=Value.int i t from r);subst e;exact yZ P w i t
 | inr x=>obtain ⟨t,e⟩:=(show ∃t,u=Value.str x t from r);subst e;exact yY P w x t
theorem Va:∀{ks:List Key} {us:List Value},Vals (ks.map kV) us->ItemsAre (G9 P w) ks us
 | [],_,r=>by rw [List.map_nil] at r;cases r;exact .nil
 | k::ks,_,r=>by
  rw [List.map_cons] at r;cases r with
  | cons h t=>exact .cons (Fj h) (Va t)
abbrev KT (H:Hp):List (List Key×V)->List (List Key×Addr×Value)->Prop:=Paired fun p q=>p.1=q.1/\H q.2.1=some (.tup (p.1.map kV))/\RelV p.2 q.2.2
theorem KT.val (r:KT H kvs xs) (k:List Key):RelO (C3 kvs k) ((atKey xs k).map (·.2)):=by
 induction r with
 | nil=>exact True.intro
 | @cons p q ps qs h t ih=>
  obtain ⟨h1,_,h2⟩:=h
  by_cases e:p.1=k
  . have e':q.1=k:=h1.symm.trans e;have b:atKey (q::qs) k=some q.2:=by simp [atKey,List.find?_cons,e']
    rw [Ui e,b];exact h2
  . have e':¬q.1=k:=fun z=>e (h1.trans z)
    have b:atKey (q::qs) k=atKey qs k:=by simp [atKey,List.find?_cons,e']
    rw [Uh e,b];exact ih
section
variable {P:Program} {w:World} {H:Hp} {h:Heap} {a:Addr}
theorem Oj (ok:HOk P w H h) (e:Rd H a u):ObjOk P w H h a u:=e.ok ok
theorem Cr (ok:HOk P w H h) (e:Rd H a (.dK kvs)):kvs.length<=sizeLine/\(a==sysModules)=false/\∃vs,KV kvs vs/\h.DictOf (G9 P w) a vs:=
 show ObjOk P w H h a (.dK kvs) from Oj ok e
theorem Fu (ok:HOk P w H h) (e:H a=some (.tup (ks.map kV))):(tupleKind (G9 P w)).is h ks a:=by obtain ⟨_,its,r,o,h1,h2,⟨n,h3⟩,_⟩:=(show ObjOk P w H h a (.tup (ks.map kV)) from ok a _ e);exact ⟨o,its.toArray,n,h1,h2,h3,by simpa using Va r⟩
theorem Fi (ok:HOk P w H h) (e:Rd H a (.dT kvs)):kvs.length<=sizeLine/\(a==sysModules)=false /\
  ∃xs,KT H kvs xs/\h.DictOfH (tupleKind (G9 P w)) a xs:=by
 obtain ⟨z,y,xs,r,o,es,ep,h1,h2,h3,h4,h5⟩:=(show ObjOk P w H h a (.dT kvs) from Oj ok e)
 refine ⟨z,y,xs,r,o,es,ep,h1,h2,h3,h4,fun x hx=>?_,h5⟩
 have all:∀{l:List (List Key×V)} {m:List (List Key×Addr×Value)},KT H l m->∀x∈m,(tupleKind (G9 P w)).is h x.1 x.2.1:=by
  intro l m q;induction q with
  | nil=>intro x hx;exact nomatch hx
  | @cons p q ps qs hq t ih=>
   intro x hx
   rcases List.mem_cons.mp hx with e | hx
   . subst e;exact Fu ok (by rw [<-hq.1];exact hq.2.1)
   . exact ih x hx
 exact all r x hx
end
def DGet (H:Hp) (a:Addr) (y:V) (r:Option V):Prop:=
 (∃kvs k,Rd H a (.dK kvs)/\y=kV k/\r=C3 kvs k)\/∃kvs k b,Rd H a (.dT kvs)/\y=.ref b/\H b=some (.tup (k.map kV))/\r=C3 kvs k
theorem DGet.k {H:Hp} {a:Addr} {kvs:List (Key×V)} {k:Key} (e:H a=some (.dK kvs)):DGet H a (kV k) (C3 kvs k):=.inl ⟨kvs,k,.inl e,rfl,rfl⟩
theorem DGet.t {H:Hp} {a b:Addr} {kvs:List (List Key×V)} {k:List Key} (e:H a=some (.dT kvs)) (eb:H b=some (.tup (k.map kV))):DGet H a (.ref b) (C3 kvs k):=.inr ⟨kvs,k,b,.inl e,rfl,eb,rfl⟩
section
variable {X:Cx} {pins:List (Addr×Obj)} {U:St} {H:Hp} {s:Shared} {a:Addr} {y v:V} {u:Value} {o:Option V} {A:Around} {E:Value->Shared->Prop}
theorem Inv.big (I:Inv X pins U H s):sysModules<s.heap.objs.size:=by have h:mainGlobals<s.heap.objs.size:=(I.mod.glob.keeps I.bk).lt;exact Nat.lt_trans (by decide) h
theorem ye (hu:A.units+1<cLine) (I:Inv X pins U H s) (g:DGet H a y (some v)) (ry:RelV y u) (h:∀w' s',Inv X pins U H s'->RelV v w'->Q w' s') :
  wpAny (model X.prog X.w) A (getItem (.ref a) u) Q E s:=by
 rcases g with ⟨kvs,k,e,ey,l⟩ | ⟨kvs,k,b,e,ey,eb,l⟩
 . subst ey;obtain ⟨z,hd,vs,rel,dd⟩:=Cr I.hok e;obtain ⟨w',hw,rw'⟩:=RelO.some_of (v:=v) (o:=valueAt vs k) (by rw [l];exact rel.val k);exact wpAny_getItem_of (Fj ry) dd.mapOf hw (h w' _ (I.tok _) rw')
 . subst ey;cases (show u=Value.ref b from ry);obtain ⟨z,hd,xs,rel,dd⟩:=Fi I.hok e;obtain ⟨w',hw,rw'⟩:=RelO.some_of (v:=v) (o:=(atKey xs k).map (·.2)) (by rw [l];exact rel.val k);obtain ⟨p,hp,hp2⟩:=Option.map_eq_some_iff.mp hw;refine wpAny_getItem_heap (tupleKind_room_in1 hu) (Fu I.hok eb) dd hp ?_;rw [hp2];exact h w' _ (I.tok _) rw'
theorem y23 (hu:A.units+1<cLine) (I:Inv X pins U H s) (g:DGet H a y o) (ry:RelV y u) (h:∀s',Inv X pins U H s'->Q (.bool o.isSome) s') :
  wpAny (model X.prog X.w) A (compareOp .In u (.ref a)) Q E s:=by
 rcases g with ⟨kvs,k,e,ey,l⟩ | ⟨kvs,k,b,e,ey,eb,l⟩
 . subst ey;obtain ⟨z,hd,vs,rel,dd⟩:=Cr I.hok e;refine wpAny_in_of (Fj ry) hd dd.mapOf ?_;rw [<-(rel.val k).isSome_eq,<-l];exact h _ (I.tok _)
 . subst ey;cases (show u=Value.ref b from ry);obtain ⟨z,hd,xs,rel,dd⟩:=Fi I.hok e;refine wpAny_in_heap (tupleKind_room_in1 hu) (Fu I.hok eb) hd dd ?_;have q:=(rel.val k).isSome_eq;rw [Option.isSome_map] at q;rw [<-q,<-l];exact h _ (I.tok _)
theorem vS (hu:A.units+1<cLine) (I:Inv X pins U H s) (g:DGet H a y o) (ry:RelV y u) (h:∀s',Inv X pins U H s'->Q (.bool (!o.isSome)) s') :
  wpAny (model X.prog X.w) A (compareOp .NotIn u (.ref a)) Q E s:=by
 rcases g with ⟨kvs,k,e,ey,l⟩ | ⟨kvs,k,b,e,ey,eb,l⟩
 . subst ey;obtain ⟨z,hd,vs,rel,dd⟩:=Cr I.hok e;refine wpAny_notIn_of (Fj ry) hd dd.mapOf ?_;rw [<-(rel.val k).isSome_eq,<-l];exact h _ (I.tok _)
 . subst ey;cases (show u=Value.ref b from ry);obtain ⟨z,hd,xs,rel,dd⟩:=Fi I.hok e;refine wpAny_notIn_heap (tupleKind_room_in1 hu) (Fu I.hok eb) hd dd ?_;have q:=(rel.val k).isSome_eq;rw [Option.isSome_map] at q;rw [<-q,<-l];exact h _ (I.tok _)
theorem vR (I:Inv X pins U H s) (mu:Mut (H a)) (hs:Heap.SameBut a s.heap h') (he:∃q,h'.get? a=some q) (new:ObjOk X.prog X.w (upd H a ob) h' a ob) :
  Inv X pins U (upd H a ob) { s with heap:=h',toks:=t' }:=
 I.write (x:=a) (e:=a) mu (.inl rfl) (fun b q hb z=>(hs.2 b hb).trans z) he new
end
section
variable {X:Cx} {pins:List (Addr×Obj)} {U:St} {H:Hp} {s:Shared} {a:Addr} {kvs:List (Key×V)} {A:Around} {E:Value->Shared->Prop}
theorem Zy (I:Inv X pins U H s) (e:Rd H a (.dK kvs)) (h:∀t s',Inv X pins U H s'->Q (.int kvs.length t) s'):wpAny (model X.prog X.w) A (call (.builtin "len") [.ref a]) Q E s:=by obtain ⟨z,hd,vs,rel,dd⟩:=Cr I.hok e;refine call_len_dict hd dd (by rw [<-rel.length];rw [sizeLine_eq] at z;lia) ?_;rw [<-rel.length];exact h _ _ (I.tok _)
end
theorem yV (I:Inv X pins U H s) (g:DGet H a y o):s.TypeIs (.ref a) "dict":=by
 rcases g with ⟨kvs,k,e,_,_⟩ | ⟨kvs,k,b,e,_,_,_⟩
 . obtain ⟨_,_,vs,_,dd⟩:=Cr I.hok e;exact dd.typeIs
 . obtain ⟨_,_,xs,_,dd⟩:=Fi I.hok e;exact dd.typeIs
end L2
namespace Att
open PySem PySem.W PySem.Calls PyProof.Rows
theorem zT:∀(ns:List Int) (vs:List Value),WellAll P h vs (ns.map WData.int)->IntsAre vs ns:=by
 intro ns;induction ns with
 | nil=>
  intro vs w
  rw [List.map_nil] at w
  cases w
  exact .nil
 | cons n ns ih=>
  intro vs w
  rw [List.map_cons] at w
  cases w with
  | cons a b=>
   cases a
   exact .cons _ _ (ih _ b)
theorem yd {l:OpenLaw} {n:Nat} (hn:l.most=some n) {P:Params} {h:Heap} {args:List WData} {vals:List Value}
  (hpre:l.row.toRowW.claim.pre args=true) (hwl:WellAll P h vals args) :
  ∃a vs ns,vals=[Value.ref a]/\args=[WData.list (ns.map WData.int)]/\h.get? a=some { cls:=.type "list",data:=.seq vs.toArray }/\IntsAre vs ns/\ns.length<=n:=by
 have hsh:WShape.hasAll [] args [.list .int]=true:=(pre_splitW hpre).1
 have hc:l.pre.holds [] { args:=args }=true:=(pre_splitW hpre).2
 obtain ⟨d,r,rfl,h1,h2⟩:=hasAllW_cons hsh
 obtain rfl:=hasAllW_nil h2
 obtain ⟨xs,rfl,h3⟩:=hasW_list h1
 obtain ⟨ns,rfl⟩:=items_int h3
 have hlen:ns.length<=n:=by
  unfold OpenLaw.pre at hc;have h4:(WTm.not (.lt (.lit (.int (n:Int))) (.len (.arg 0)))).holds [] { args:=[.list (ns.map .int)] }=true:=by have h4:=(holds_andW hc).1;rw [hn] at h4;exact h4
  have h5:=condW_of h4 (w_not (w_lt w_lit (w_len_list (w_arg rfl))));rw [List.length_map] at h5;refine Nat.le_of_not_lt fun q=>?_
  have q':(n:Int)<((ns.length:Nat):Int):=by omega
  first
   | (rw [decide_eq_true q'] at h5;exact absurd h5 (by decide))
   | (simp at h5;omega)
 cases hwl with
 | cons w1 w2=>
  cases w2
  cases w1 with
  | list ho hall=>exact ⟨_,_,ns,rfl,rfl,ho,zT ns _ hall,hlen⟩
theorem yc (l:OpenLaw) (args:List WData):l.row.toRowW.claim.post args (.bool true) args=true:=
 postW_of (r:=l.row.toRowW) (X:=(true==true))
  (show WShape.has [] (.bool true) .bool=true by first | rfl | decide | simp [WShape.has,WShape.arms,WShape.armsAll])
  (show (WTm.eq .res (.lit (.bool true))).value [] { args:=args,res:=some (.bool true),after:=args }=some (.bool (true==true)) from w_eq_bool (w_res rfl) w_lit) rfl
theorem attach_call {l:OpenLaw} {n:Nat} {q:Program} {loose:List Str} {XP:(Str->Option Value)->Heap->Prop} {YP:World->Heap->Prop} {d:DefRec}
  (hn:l.most=some n) (hdf:d.params.defaults=[])
  (call:∀(w:World) (s₀ s₁:Shared) (mg mb:Str->Option Value) (fa:Addr) (o:Obj) (pm cd doc:Value) (a:Addr) (vs:List Value) (ns:List Int),
   Ground q loose [] XP w s₀ mg mb s₁.heap->YP w s₁.heap ->
   s₁.heap.get? fa=some o->o.data=.func (docDef d.name d.params d.body d.scope pm cd doc)->s₁.heap.CodeRec cd d.name->mg d.name=some (.ref fa) ->
   s₁.heap.get? a=some { cls:=.type "list",data:=.seq vs.toArray }->IntsAre vs ns->ns.length<=n->s₁.gens=#[] ->
   codeAny (model l.prog w) callerA (.call (.ref fa) ⟨[.ref a],[]⟩) (fun r s'=>r=.ok (.ret (.bool true))/\OldK s₁.heap s'.heap/\s'.os=s₁.os/\AllBare s'.gens) s₁) :
  WalkO q loose XP YP l.row.toRowW d [] (fun f vs=>PySem.call f vs):=by
 intro w s₀ s₁ mg mb G Y fa o pm cd doc dV kV ho hd hcd hD hmg hg args vals as hpre hlay hrd hwl hlo
 obtain rfl:dV=.none:=Dflts.none hD hdf
 obtain rfl:kV=.none:=Dflts.noKw hD
 obtain ⟨a,vs,ns,rfl,rfl,hobj,hints,hlen⟩:=yd hn hpre hwl
 refine enter_call (codeAny_mono (call w s₀ s₁ mg mb fa o pm cd doc a vs ns G Y ho (fd_plain hd) hcd hmg hobj hints hlen hg) fun r s' hq=>?_)
 obtain ⟨rfl,h2,h3,h4⟩:=hq
 exact ⟨.inl ⟨.bool true,.bool true,[],rfl,fun _=>rfl,.bool true,yc l _,fun _=>⟨List.Pairwise.nil,fun _ hm=>(nomatch hm)⟩⟩,h2,h3,h4⟩
section
def noObjs (h:Heap):Heap:={ h with objs:=#[] }
theorem noObjs_get (h:Heap) (b:Addr):(noObjs h).get? b=none:=by
 cases e:(noObjs h).get? b with
 | none=>rfl
 | some o=>exact absurd (Heap.lt_size e) (Nat.not_lt_zero _)
theorem fr_all (n:h.Ns L m):Fr (noObjs h) L h m:=
 ⟨n,fun b o e=>(by rw [noObjs_get] at e;cases e),Nat.zero_le _⟩
end
end Att
namespace L2
open PySem PySem.Spec PyProof.Rows
theorem Uz:∀{vs:List Value} {ns:List Int},IntsAre vs ns->Vals (ns.map V.int) vs
 | _,_,.nil=>.nil
 | _,_,.cons n t h=>.cons ⟨t,rfl⟩ (Uz h)
def Et (H:Hp):Prop:=∀b,H b=none\/∃o xs,H b=some (.frz o (.lst xs))
theorem xn {P:Program} {w:World} {K:Frag} {mg mb:Str->Option Value} {CX:CXT} {k:Nat} {fa a:Addr} {fd:FuncData} {x:Str} {sp:Sp} {s₁:Shared} {vs:List Value} {ns:List Int}
  (KX:K.In s₁.heap) (hns:s₁.heap.Ns mainGlobals mg) (hb:s₁.heap.Ns builtinsNs mb) (hbb:∀x:Str,x≠"__name__"->mb x=bootBuiltins x) (hlim:s₁.heap.NoLimit) (hg:s₁.gens=#[])
  (ha:s₁.heap.get? a=some { cls:=.type "list",data:=.seq vs.toArray }) (hi:IntsAre vs ns) (hl:ns.length<=sizeLine) (hr:Room k callerA)
  (F:∀base:Heap,K.In base->base.Ns mainGlobals mg->FnOk P w K mg base CX k fa fd [x] sp) (hbind:∀(s:Shared) (u:Value),BindsTo s fd ⟨[u],[]⟩ [(x,u)])
  (hsp:∀H:Hp,Et H->SqL K H a (ns.map V.int)->sp [.ref a] H (fun v _=>v=.bl true) fun _ _ _=>False)
  (hCX:∀H e s',CX [] H s₁ (fun _ _ _=>False) e s'->False) :
  codeAny (model P w) callerA (.call (.ref fa) ⟨[.ref a],[]⟩) (fun r s'=>r=.ok (.ret (.bool true))/\OldK s₁.heap s'.heap/\s'.os=s₁.os/\AllBare s'.gens) s₁:=by
 have rv:=Uz hi
 have lenV:=hi.length
 have core:∀H:Hp,Et H->SqL K H a (ns.map V.int)->HOk P w H s₁.heap->(∀b,H b≠none->b=a)->(H a≠none->K.lookup a=none) ->
   codeAny (model P w) callerA (.call (.ref fa) ⟨[.ref a],[]⟩) (fun r s'=>r=.ok (.ret (.bool true))/\OldK s₁.heap s'.heap/\s'.os=s₁.os/\AllBare s'.gens) s₁:=by
  intro H hO hS hok hA hK
  have base_of:∀{b:Addr} {o:Obj},s₁.heap.get? b=some o->H b=none->(L8 s₁.heap H).get? b=some o:=fun e n=>xC e n
  have noA:∀{b:Addr} {o:Obj} {es:Array DictEntry} {ep:Nat},s₁.heap.get? b=some o->o.data=.dict es ep->H b=none:=fun {b o es ep} e d=>by
   cases q:H b with
   | none=>rfl
   | some u=>
    have e':b=a:=hA b (by rw [q];simp)
    subst e'
    rw [ha] at e;cases e
    have d':Data.seq vs.toArray _=Data.dict es ep:=d
    cases d'
  have nsK:∀{b:Addr} {m:Str->Option Value},s₁.heap.Ns b m->(L8 s₁.heap H).Ns b m:=fun {b m} ⟨o,es,ep,e,d,r⟩=>⟨o,es,ep,base_of e (noA e d),d,r⟩
  have hKb:K.In (L8 s₁.heap H):=fun b o e=>base_of (KX b o e) (by
   cases q:H b with
   | none=>rfl
   | some u=>
    have e':b=a:=hA b (by rw [q];simp)
    subst e'
    rw [hK (by rw [q];simp)] at e;cases e)
  have hM:Mod K mg (L8 s₁.heap H):=⟨hKb,nsK hns,⟨mb,nsK hb,hbb⟩,let ⟨mc,h1,h2⟩:=hlim;⟨mc,nsK h1,h2⟩⟩
  have e0:Env0 P w K mg (L8 s₁.heap H) callerA [] s₁ H:=⟨rfl,hM,fun b o e=>we e,Nat.le_of_eq (yo _ _),trivial,fun b hb=>absurd (show b∈([]:List Addr) from hb) (by simp),hok,.of_eq hg⟩
  refine codeAny_mono ((F _ hKb (nsK hns)).run callerA [] s₁ H ⟨[.ref a],[]⟩ [.ref a] [.ref a] _ _ hr e0 (hbind s₁ (.ref a)) (.cons rfl .nil) (hsp H hO hS)) fun r s' h=>?_
  cases r with
  | error e=>exact (hCX H e s' h).elim
  | ok fl=>
   cases fl with
   | next=>exact False.elim h
   | brk=>exact False.elim h
   | cont=>exact False.elim h
   | ret u=>
    obtain ⟨v,H',os,bare,un,hok',r',q⟩:=h
    have q':v=.bl true:=q
    subst q'
    obtain rfl:u=Value.bool true:=r'
    refine ⟨rfl,OldK.of_keep fun b o e=>?_,os,bare⟩
    cases q:H b with
    | none=>exact un.keep b o e q (by intro z;exact absurd (show b∈([]:List Addr) from z) (by simp)) (by simp)
    | some u=>
     rcases hO b with z | ⟨ob,xs,z⟩
     . rw [q] at z;cases z
     . have z2:=un.frzs b ob _ z;obtain ⟨e1,_⟩:=hok b _ z;obtain ⟨e2,_⟩:=hok' b _ z2;rw [e] at e1;cases e1;exact e2
 cases hk:K.lookup a with
 | some o=>
  have e:=KX a o hk
  rw [ha] at e
  cases e
  refine core (fun _=>none) (fun _=>.inl rfl) (.inr ⟨_,vs.toArray,_,hk,rfl,rfl,rfl,by rw [List.size_toArray,lenV];exact hl,by simpa using rv⟩) (fun b u z=>by have z':(none:Option HO)=some u:=z;cases z') (fun b z=>absurd rfl z) fun z=>absurd rfl z
 | none=>
  refine core (fun b=>if b=a then some (.frz { cls:=.type "list",data:=.seq vs.toArray } (.lst (ns.map V.int))) else none) (fun b=>?_) (.inl (.inr ⟨{ cls:=.type "list",data:=.seq vs.toArray },ζ rfl⟩)) (fun b u z=>?_) (fun b z=>?_) fun _=>hk
  . by_cases hb:b=a
    . exact .inr ⟨_,_,ζ hb⟩
    . exact .inl (ξ hb)
  . by_cases hb:b=a
    . have z':=(ζ hb).symm.trans z;cases z';subst hb;exact ⟨ha,by rw [List.length_map];exact hl,vs,_,rv,ha⟩
    . have z':=(ξ hb).symm.trans z;cases z'
  . by_cases hb:b=a
    . exact hb
    . exact absurd (ξ hb) z
theorem walk_of {l:PySem.W.OpenLaw} {n k:Nat} {q:Program} {loose:List Str} {XP:(Str->Option Value)->Heap->Prop} {YP:World->Heap->Prop} {d:DefRec} {K:Params->Frag} {CX:World->CXT} {sp:World->Sp} {x:Str}
  (hn:l.most=some n) (hn2:n<=sizeLine) (hdf:d.params.defaults=[]) (hr:Room k callerA)
  (hY:∀(w:World) (h:Heap),YP w h->(K w.params).In h)
  (F:∀(w:World) (mg:Str->Option Value) (fa:Addr) (h:Heap),(K w.params).In h->h.Ns mainGlobals mg->mg d.name=some (.ref fa) ->
   ∃fd:FuncData,(∀(s:Shared) (u:Value),BindsTo s fd ⟨[u],[]⟩ [(x,u)]) /\
    ∀base:Heap,(K w.params).In base->base.Ns mainGlobals mg->FnOk l.prog w (K w.params) mg base (CX w) k fa fd [x] (sp w))
  (hsp:∀(w:World) (H:Hp) (a:Addr) (ns:List Int),ns.length<=n->Et H->SqL (K w.params) H a (ns.map V.int)->sp w [.ref a] H (fun v _=>v=.bl true) fun _ _ _=>False)
  (hCX:∀(w:World) (H:Hp) (s:Shared) (e:Value) (s':Shared),CX w [] H s (fun _ _ _=>False) e s'->False) :
  PySem.W.WalkO q loose XP YP l.row.toRowW d [] (fun f vs=>PySem.call f vs):=by
 refine Att.attach_call hn hdf fun w s₀ s₁ mg mb fa o pm cd doc a vs ns G Y ho hd hcd hmg hobj hints hlen hg=>?_
 have KX:=hY w _ Y
 obtain ⟨fd,hb,hF⟩:=F w mg fa _ KX G.T.g hmg
 exact xn KX G.T.g G.T.b G.T.builtins G.T.nolimit hg hobj hints (Nat.le_trans hlen hn2) hr hF hb (fun H hO hS=>hsp w H a ns hlen hO hS) fun H e s'=>hCX w H s₁ e s'
noncomputable def m7 (s:Stmt):Arguments:=match s with
 | .FunctionDef _ a _ _ _ _ _ _ _ _=>a
 | _=>{ posonlyargs:=[],args:=[],vararg:=none,kwonlyargs:=[],kw_defaults:=[],kwarg:=none,defaults:=[] }
noncomputable def j7 (s:Stmt):List Stmt:=match s with
 | .FunctionDef _ _ b _ _ _ _ _ _ _=>b
 | _=>[]
noncomputable def g7 (s:Stmt):Scope:=match s with
 | .FunctionDef _ _ _ _ _ _ sc _ _ _=>sc
 | _=>{ kind:=.function,names:=[],isGenerator:=false,isCoroutine:=false }
abbrev CX0:CXT:=fun _ _ _ _ _ _=>False
structure Fun (K:Frag) (x qual:Str) (st:Stmt) (f:Addr) (fd:FuncData):Prop where
 ex:∃(oc:Value) (od:Option Addr) (kV doc pm:Value) (an:Option Addr) (cdv ct:Value) (osl:Array (Option Value)),
  fd=PySem.W.fnOf x qual (m7 st) (j7 st) (g7 st) .none kV doc pm an cdv ct/\K.lookup f=some ⟨oc,od,.func fd,osl⟩/\codeIn K cdv qual=true
 kp:keepIn K (.ref f)=true
section
variable {P:Program} {w:World} {K:Frag} {mg:Str->Option Value} {base:Heap}
theorem Fun.ok {x qual:Str} {st:Stmt} {f:Addr} {fd:FuncData} {N ps:List Str} {k:Nat} {sp:Sp} (F:Fun K x qual st f fd) (S:FnScope N ps (g7 st)) (len:∀vs H Q E,sp vs H Q E->vs.length=ps.length)
  (hbody:∀(cdv:Value) (A:Around) (outer:List Env) (s:Shared) (H:Hp) (vs:List V) (Q:VK) (E:XK),Room k (A.deeper (envOfC qual (g7 st) s.heap.objs.size f cdv))->sp vs H Q E ->
   ∃t,PSs (E3 CX0 P w K mg base N qual (g7 st) f cdv A outer s H E).nox (j7 st) t/\t { nx:=fun _ H'=>Q .non H',rt:=Q } (z8 N vs) H):FnOk P w K mg base CX0 (k+1) f fd ps sp:=by
 obtain ⟨oc,od,kV,doc,pm,an,cdv,ct,osl,rfl,lk,hcd⟩:=F.ex
 refine Jh lk hcd S len fun A outer s H vs Q E hr hsp=>?_
 obtain ⟨t,h,q⟩:=hbody cdv A outer s H vs Q E hr hsp
 exact ⟨t,h.nox,q⟩
theorem Fun.binds {x qual:Str} {st:Stmt} {f:Addr} {fd:FuncData} {ps:List Str} (F:Fun K x qual st f fd)
  (h:∀(kV doc pm:Value) (an:Option Addr) (cdv ct:Value) (us:List Value),us.length=ps.length->bindArgs (PySem.W.fnOf x qual (m7 st) (j7 st) (g7 st) .none kV doc pm an cdv ct) ⟨us,[]⟩=pure (ps.zip us)):Binds K fd ps []:=by
 obtain ⟨oc,od,kV,doc,pm,an,cdv,ct,osl,rfl,lk,hcd⟩:=F.ex
 exact .all (h kV doc pm an cdv ct)
theorem o6 {x qual:Str} {st:Stmt} {f:Addr} {oc:Value} {od an:Option Addr} {osl:Array (Option Value)} {kV doc pm cdv ct:Value} (l:K.lookup f=some ⟨oc,od,.func (PySem.W.fnOf x qual (m7 st) (j7 st) (g7 st) .none kV doc pm an cdv ct),osl⟩)
 (c:codeIn K cdv qual=true) (k:keepIn K (.ref f)=true):Fun K x qual st f (PySem.W.fnOf x qual (m7 st) (j7 st) (g7 st) .none kV doc pm an cdv ct):=⟨⟨oc,od,kV,doc,pm,an,cdv,ct,osl,rfl,l,c⟩,k⟩
end
section
variable {X:Cx}
theorem pv (i:Nat) (hN:X.N[i]?=some x:=by rfl) (hv:Vis X.env.scope x:=by first | exact .inl rfl | exact .inr (.inl rfl) | exact .inr (.inr rfl)) (hd:(x==("__debug__":Str))=false:=by decide)
 (hcd:(x==("__classdict__":Str))=false:=by decide):PE X (.Name x pos) (Hk i):=Dj hN hv hd hcd
theorem call_lenD:CallR X (.builtin "len") (fun xs H Q=>∃a kvs,xs=[V.ref a]/\H a=some (.dK kvs)/\Q (.int kvs.length) H):=by intro pins s U H xs us Q I r h;obtain ⟨a,kvs,rfl,ha,q⟩:=h;obtain ⟨u,rfl,ru⟩:=A9 r;cases ru;exact Zy I (.inl ha) fun t s' I'=>⟨.int kvs.length,H,I',⟨t,rfl⟩,q⟩
end
def Same (H H':Hp):Prop:=∀b o,H b=some o->H' b=some o
theorem Same.refl (H:Hp):Same H H:=fun _ _ h=>h
theorem Same.trans (a:Same H H1) (b:Same H1 H2):Same H H2:=fun c o h=>b c o (a c o h)
theorem Same.free (e:Same H H') (h:H' l=Option.none):H l=Option.none:=by
 cases q:H l with
 | none=>rfl
 | some o=>
  rw [e l o q] at h
  cases h
theorem Same.seq {K:Frag} {H H':Hp} {a:Addr} {xs:List V} (e:Same H H') (h:SqL K H a xs):SqL K H' a xs:=by
 rcases h with (h | ⟨o,h⟩) | h
 . exact .inl (.inl (e _ _ h))
 . exact .inl (.inr ⟨o,e _ _ h⟩)
 . exact .inr h
end L2
set_option maxHeartbeats 4000000
namespace L2
open PySem PySem.Spec PyProof.Rows
noncomputable def y9 (cells:List (Str×Addr)):List (Str×NameKind)->List (Str×Addr)->List (Str×Addr)
 | [],acc=>acc
 | (n,k)::r,acc=>y9 cells r (if k==.free then (n,(cells.lookup n).getD 0)::acc else acc)
theorem Ww:∀{names:List (Str×NameKind)} {acc:List (Str×Addr)},
  (∀y∈names,y.2=.free->∃c,cells.lookup y.1=some c)->(∀y c,acc.lookup y=some c->cells.lookup y=some c)->(y9 cells names acc).lookup x=some c->cells.lookup x=some c
 | [],acc,_,ha,h=>ha x c h
 | (n,k)::r,acc,hf,ha,h=>by
  refine Ww (names:=r) (fun y hy=>hf y (List.mem_cons_of_mem _ hy)) (fun y c'=>?_) h;by_cases hk:k=.free
  . subst hk;obtain ⟨c0,e0⟩:=hf (n,.free) List.mem_cons_self rfl;intro e;have e1:(if (NameKind.free==NameKind.free)=true then (n,(cells.lookup n).getD 0)::acc else acc)=(n,(cells.lookup n).getD 0)::acc:=ζ (show (NameKind.free==NameKind.free)=true from rfl);rw [e1,List.lookup_cons] at e;cases hyn:y==n with
    | true=>
     rw [hyn] at e
     have e2:y=n:=by simpa using hyn
     subst e2
     have e3:=Option.some.inj e
     have e0':cells.lookup y=some c0:=e0
     rw [e0'] at e3 ⊢
     exact congrArg some e3
    | false=>rw [hyn] at e;exact ha y c' e
  . have e1:(if (k==NameKind.free)=true then (n,(cells.lookup n).getD 0)::acc else acc)=acc:=ξ (by simpa using hk);rw [e1];exact ha y c'
theorem Mq:∀{names:List (Str×NameKind)} {acc:List (Str×Addr)},
  ((∃c,acc.lookup x=some c)\/∃y∈names,y.2=.free/\y.1=x)->∃c,(y9 cells names acc).lookup x=some c
 | [],acc,h=>by
  rcases h with h | ⟨y,hy,_⟩
  . exact h
  . cases hy
 | (n,k)::r,acc,h=>by
  refine Mq (names:=r) ?_;by_cases hk:k=.free
  . subst hk;have e1:(if (NameKind.free==NameKind.free)=true then (n,(cells.lookup n).getD 0)::acc else acc)=(n,(cells.lookup n).getD 0)::acc:=ζ (show (NameKind.free==NameKind.free)=true from rfl);rw [e1,List.lookup_cons];cases hxn:x==n with
    | true=>exact .inl ⟨_,rfl⟩
    | false=>
     rcases h with h | ⟨y,hy,hf,e⟩
     . exact .inl h
     . rcases List.mem_cons.mp hy with z | z
       . subst z;have e':n=x:=e;subst e';simp at hxn
       . exact .inr ⟨y,z,hf,e⟩
  . have e1:(if (k==NameKind.free)=true then (n,(cells.lookup n).getD 0)::acc else acc)=acc:=ξ (by simpa using hk);rw [e1];rcases h with h | ⟨y,hy,hf,e⟩
    . exact .inl h
    . rcases List.mem_cons.mp hy with z | z
      . subst z;exact absurd hf hk
      . exact .inr ⟨y,z,hf,e⟩
theorem Wv (hf:∀y∈scope.names,y.2=.free->∃c,env.cells.lookup y.1=some c):closureFor scope env=pure (y9 env.cells scope.names []):=by
 have go:∀(names:List (Str×NameKind)) (acc:List (Str×Addr)),(∀y∈names,y.2=.free->∃c,env.cells.lookup y.1=some c) ->
   (forIn names acc fun x cs=>if (x.2==NameKind.free)=true then do let a <-cellOf env x.1;pure (ForInStep.yield ((x.1,a)::cs)) else pure (ForInStep.yield cs):Sem (List (Str×Addr)))=pure (y9 env.cells names acc):=by
  intro names
  induction names with
  | nil=>intro acc _;rfl
  | cons p r ih=>
   intro acc h
   obtain ⟨n,k⟩:=p
   rw [List.forIn_cons]
   by_cases hk:k=.free
   . subst hk;obtain ⟨c,e⟩:=h (n,.free) List.mem_cons_self rfl;have e':env.cells.lookup n=some c:=e;have e1:cellOf env n=pure c:=by unfold cellOf;rw [e']
     have e2:y9 env.cells ((n,NameKind.free)::r) acc=y9 env.cells r ((n,c)::acc):=by show y9 env.cells r (if (NameKind.free==NameKind.free)=true then (n,(env.cells.lookup n).getD 0)::acc else acc)=_;rw [ζ (show (NameKind.free==NameKind.free)=true from rfl),e'];rfl
     rw [e2,<-ih _ fun y hy=>h y (List.mem_cons_of_mem _ hy)];show ((if (NameKind.free==NameKind.free)=true then do let a <-cellOf env n;pure (ForInStep.yield ((n,a)::acc)) else pure (ForInStep.yield acc)) >>= _:Sem _)=_;rw [ζ (show (NameKind.free==NameKind.free)=true from rfl),e1];rfl
   . have hk':(k==NameKind.free)=false:=by simpa using hk
     have e2:y9 env.cells ((n,k)::r) acc=y9 env.cells r acc:=by show y9 env.cells r (if (k==NameKind.free)=true then _ else acc)=_;rw [ξ (by rw [hk'];exact θ)]
     rw [e2,<-ih _ fun y hy=>h y (List.mem_cons_of_mem _ hy)];show ((if (k==NameKind.free)=true then do let a <-cellOf env n;pure (ForInStep.yield ((n,a)::acc)) else pure (ForInStep.yield acc)) >>= _:Sem _)=_;rw [ξ (by rw [hk'];exact θ)];rfl
 have:=go scope.names [] hf;unfold closureFor;simpa using this
theorem zw (I:Nat->Shared->Prop)
  (turn:∀n s,I n s->wpAny (model prog w) A (pyNext it) (fun r s₁=>match r with
   | none=>R (.ok .next) s₁
   | some v=>wpAny (model prog w) A (letOwnedTupleGo target it v) (fun _ s₁'=>wpAny (model prog w) A (assign target env v) (fun _ s₂=>
    wpAny (model prog w) A (forIn ifs true fun c r=>if r=true then do let ok <-isTrue c env (eval c env);pure (ForInStep.yield ok) else pure (ForInStep.yield r)) (fun ok s₃=>
     if ok=true then wpAny (model prog w) A (eval elt env) (fun x s₄=>
      wpAny (model prog w) A (call (.builtin "list.append") [acc,x]) (fun _ s₅=>∃m,m<n/\I m s₅) (fun _ _=>False) s₄) (fun _ _=>False) s₃
     else ∃m,m<n/\I m s₃) (fun _ _=>False) s₂) (fun _ _=>False) s₁') (fun _ _=>False) s₁) (fun _ _=>False) s)
  (n:Nat) (h:I n s) :
  codeAny (model prog w) A (.compLoop (.ListComp elt [⟨target,iter,ifs,0⟩] scope pos) 0 it acc env) R s:=by
 refine codeAny_loop rfl I (fun n s hI=>?_) n h
 show wpAny _ A ((compTurn (.ListComp elt [⟨target,iter,ifs,0⟩] scope pos) 0 it acc env).onRaise (fun x=>do noteFrame x env;theTreesLotGoes x)) _ _ s
 refine wpAny_noted ?_
 rw [compTurn_list]
 refine δ (wpAny_standAt (δ (wpAny_mono (turn n s hI) (fun r s₁ h₁=>?_) fun _ _ h'=>h'.elim)))
 cases r with
 | none=>exact ω h₁
 | some v=>
  refine δ (wpAny_mono h₁ (fun _ s₁' h₁'=>?_) fun _ _ h'=>h'.elim)
  refine δ (wpAny_mono h₁' (fun _ s₂ h₂=>δ (wpAny_mono h₂ (fun ok s₃ h₃=>?_) fun _ _ h'=>h'.elim)) fun _ _ h'=>h'.elim)
  cases ok with
  | false=>exact ω ⟨rfl,h₃⟩
  | true=>
   exact δ (δ (wpAny_mono h₃ (fun x s₄ h₄=>δ (wpAny_mono h₄ (fun _ s₅ h₅=>ω (ω ⟨rfl,h₅⟩)) fun _ _ h'=>h'.elim)) fun _ _ h'=>h'.elim))
theorem Mu {env:Env}:∀{names:List (Str×NameKind)} {x:Str},
  (names.map fun (n,k)=>if (k==NameKind.free&&env.scope.kind==.function&&env.kindOf n==some .cell) then (n,NameKind.cell) else (n,k)).lookup x =
   (names.lookup x).map fun k=>if (k==NameKind.free&&env.scope.kind==.function&&env.kindOf x==some .cell) then NameKind.cell else k
 | [],_=>rfl
 | (n,k)::r,x=>by
  have ih:=@Mu env r x;show List.lookup x ((if (k==NameKind.free&&env.scope.kind==.function&&env.kindOf n==some .cell)=true then (n,NameKind.cell) else (n,k))::_)=_;cases hx:x==n with
  | true=>
   have e:x=n:=by simpa using hx
   subst e
   by_cases hc:(k==NameKind.free&&env.scope.kind==.function&&env.kindOf x==some .cell)=true
   . rw [ζ hc];simp only [List.lookup_cons,hx,Option.map_some,hc,if_true]
   . rw [ξ hc];simp only [List.lookup_cons,hx,Option.map_some,hc,if_false];rfl
  | false=>
   by_cases hc:(k==NameKind.free&&env.scope.kind==.function&&env.kindOf n==some .cell)=true
   . rw [ζ hc];simp only [List.lookup_cons,hx];exact ih
   . rw [ξ hc];simp only [List.lookup_cons,hx];exact ih
def r6 (X:Cx) (sc:Scope) (N':List Str) (fp:List Addr) (s₃:Shared) (H₃:Hp):Cx:=
 { X with env:=compEnvC sc (y9 X.env.cells sc.names []) s₃.heap.objs.size X.env,N:=N',s₀:=s₃,H₀:=H₃,outer:=X.stack,ex:=fp,fn:=fun _=>false,pn:=[],xe:=fun _ _=>False }
noncomputable def J6 (ix:List Nat) (U:St):St:=ix.map fun j=>(U[j]?).getD none
structure CompOk (X:Cx) (sc:Scope) (caps:List Str) (ix:List Nat):Prop where
 calm:X.calm=true
 kind:sc.kind=.function
 ncell:∀y∈sc.names,y.2≠.cell
 free:∀y∈sc.names,y.2=.free->X.env.kindOf y.1=some .cell\/X.env.kindOf y.1=some .free
 names:∀y∈sc.names,y.2=.local->sc.names.lookup y.1=some .local
 cap:∀(j:Nat) x,caps[j]?=some x->sc.names.lookup x=some .free/\∃i,ix[j]?=some i/\X.N[i]?=some x
 len:ix.length=caps.length
noncomputable def Uy (fsc:Scope) (N:List Str) (sc:Scope) (caps:List Str) (ix:List Nat):Bool:=
 sc.kind==.function&&sc.names.all (fun y=>y.2 != .cell)&&sc.names.all (fun y=>y.2 != .free||(fsc.names.lookup y.1==some .cell||fsc.names.lookup y.1==some .free)) &&
  sc.names.all (fun y=>y.2 != .local||sc.names.lookup y.1==some .local)&&caps.all (fun x=>sc.names.lookup x==some .free)&&(ix.map fun i=>N[i]?)==caps.map some
theorem D3 (hc:X.calm=true) (h:Uy X.env.scope X.N sc caps ix=true):CompOk X sc caps ix:=by
 unfold Uy at h;simp only [Bool.and_eq_true] at h;obtain ⟨⟨⟨⟨⟨h1,h2⟩,h3⟩,h4⟩,h5⟩,h6⟩:=h;have e6:(ix.map fun i=>X.N[i]?)=caps.map some:=by simpa using h6
 have elen:ix.length=caps.length:=by simpa using congrArg List.length e6
 refine ⟨hc,by simpa using h1,fun y hy=>?_,fun y hy hf=>?_,fun y hy hl=>?_,fun j x hj=>⟨?_,?_⟩,elen⟩
 . have:=List.all_eq_true.mp h2 y hy;simpa using this
 . have:=List.all_eq_true.mp h3 y hy;rw [hf] at this;simp only [bne_self_eq_false,Bool.false_or,Bool.or_eq_true,beq_iff_eq] at this;exact this
 . have:=List.all_eq_true.mp h4 y hy;rw [hl] at this;simpa using this
 . have:=List.all_eq_true.mp h5 x (List.mem_of_getElem? hj);simpa using this
 . have hjl:j<ix.length:=by rw [elen];exact (List.getElem?_eq_some_iff.mp hj).1
   refine ⟨ix[j],List.getElem?_eq_getElem hjl,?_⟩;have q:=congrArg (fun l=>l[j]?) e6;simp only [List.getElem?_map,List.getElem?_eq_getElem hjl,hj,Option.map_some] at q;exact Option.some.inj q
section
variable {X:Cx} {sc:Scope} {tgs caps:List Str} {ix:List Nat} {pins:List (Addr×Obj)} {U:St} {H:Hp} {s:Shared} {fp:List Addr}
theorem CompOk.free_cell (C:CompOk X sc caps ix) (I:Inv X pins U H s):∀y∈sc.names,y.2=.free->∃c,X.env.cells.lookup y.1=some c:=fun y hy hf=>I.ok.has y.1 (C.free y hy hf)
theorem CompOk.sub (C:CompOk X sc caps ix) (I:Inv X pins U H s) (h:(y9 X.env.cells sc.names []).lookup x=some c):X.env.cells.lookup x=some c:=
 Ww (C.free_cell I) (fun _ _ e=>by cases e) h
theorem yE (C:CompOk X sc caps ix) (I:Inv X pins U H s) (hf:∀b∈fp,G1 X pins H b) (hl:∀b∈fp,b<s.heap.objs.size) (hn:h'.Ns s.heap.objs.size m)
  (hk:∀b o,s.heap.get? b=some o->h'.get? b=some o) :
  Inv (r6 X sc (tgs++caps) fp s H) [] (List.replicate tgs.length none++J6 ix U) H { s with heap:=h',toks:=t' }:=by
 have sub:∀{x c},(y9 X.env.cells sc.names []).lookup x=some c->X.env.cells.lookup x=some c:=fun h=>C.sub I h
 have clt:∀{x c},X.env.cells.lookup x=some c->c<s.heap.objs.size:=fun {x c} h=>by obtain ⟨v,q⟩:=I.cell x c h;exact q.lt
 refine ⟨⟨I.ok.mod,C.kind,I.ok.glob,I.ok.blt,η _,fun x y c h1 h2=>I.ok.inj x y c (sub h1) (sub h2),fun x hx=>?_,fun x c hfn _=>?_,I.ok.hd,I.ok.frames,.inl rfl,fun b hb=>⟨?_,fun x c h z=>?_⟩,fun b o e=>I.bs b o e,Nat.le_trans I.ok.bsz I.sz,fun b o e hb=>?_,fun b hb hfs=>?_,I.stack,I.stkFree⟩,
  rfl,I.bare,Un.kept hk,⟨m,hn,fun i x v e1 e2 e3=>?_⟩,fun x c h=>?_,I.hok.fresh (η _),fun x c h=>I.freeC x c (sub h),fun p hp=>absurd (show p∈([]:List (Addr×Obj)) from hp) (by simp),I.hok.kept hk,?_⟩
 . -- a cell or free name of the block has a cell
   have hx':(relabel sc X.env).names.lookup x=some .cell\/(relabel sc X.env).names.lookup x=some .free:=hx;have e:(relabel sc X.env).names.lookup x=(sc.names.lookup x).map fun k=>if (k==NameKind.free&&X.env.scope.kind==.function&&X.env.kindOf x==some .cell) then NameKind.cell else k:=Mu
   rw [e] at hx';cases q:sc.names.lookup x with
   | none=>rw [q] at hx';rcases hx' with z | z<;>cases z
   | some k=>
    have hm:(x,k)∈sc.names:=PySem.mem_of_lookup q
    have hkf:k=.free:=by
     rw [q] at hx';simp only [Option.map_some] at hx';by_cases hkk:k=.free
     . exact hkk
     . have:(k==NameKind.free)=false:=by simpa using hkk
       simp only [this,Bool.false_and,Bool.false_eq_true,if_false] at hx';rcases hx' with z | z
       . exact absurd (Option.some.inj z) (C.ncell _ hm)
       . exact Option.some.inj z
    subst hkf
    exact Mq (.inr ⟨_,hm,rfl,rfl⟩)
 . exact absurd (show false=true from hfn) θ
 . exact Nat.ne_of_lt (hl b hb)
 . exact (hf b hb).2.2.2.2.1 x c (sub h) z
 . obtain ⟨_,_,_,hx,_⟩:=hf b hb;rcases hx with z | z
   . exact I.ok.noex b o e z
   . exact absurd (Nat.lt_of_lt_of_le (π e) (Nat.le_trans I.ok.bsz z)) (Nat.lt_irrefl _)
 . obtain ⟨_,h1,h2,_⟩:=hf b hb;rcases List.mem_cons.mp (I.stkSub b hfs) with z | z
   . exact h1 z
   . exact h2 z
 . -- the captured names' values
   have hi:tgs.length<=i:=by
    by_cases hi:i<tgs.length
    . rw [List.getElem?_append_left (by simpa using hi),List.getElem?_replicate] at e2;split at e2<;>cases e2
    . lia
   have e1':caps[i - tgs.length]?=some x:=by have:(tgs++caps)[i]?=some x:=e1;rw [List.getElem?_append_right hi] at this;exact this
   rw [List.getElem?_append_right (by simpa using hi),List.length_replicate] at e2;obtain ⟨hfr,j,hj,hjN⟩:=C.cap _ x e1';have e2':U[j]?=some (some v):=by
    unfold J6 at e2;rw [List.getElem?_map,hj] at e2;simp only [Option.map_some] at e2;have e2:=Option.some.inj e2;cases q:U[j]? with
    | none=>rw [q] at e2;cases e2
    | some o=>rw [q] at e2;exact congrArg some e2
   have hmem:(x,NameKind.free)∈sc.names:=PySem.mem_of_lookup hfr;have hkind:=C.free _ hmem rfl;obtain ⟨m0,hn0,hl0⟩:=I.loc;have hvis:Vis X.env.scope x:=hkind.elim (fun z=>.inr (.inl z)) fun z=>.inr (.inr z)
   obtain ⟨u,r,look⟩:=hl0 j x v hjN e2' hvis;refine ⟨u,r,?_⟩;rcases look with ⟨k,_⟩ | ⟨_,c,hc,z⟩
   . rcases hkind with q | q
     . rw [show X.env.kindOf x=some .cell from q] at k;cases k
     . rw [show X.env.kindOf x=some .free from q] at k;cases k
   . obtain ⟨c',hc'⟩:=Mq (cells:=X.env.cells) (names:=sc.names) (acc:=[]) (x:=x) (.inr ⟨_,hmem,rfl,rfl⟩);have hcc:c'=c:=by have:=sub hc';rw [hc] at this;exact (Option.some.inj this).symm
     subst hcc;refine .inr ⟨?_,c',hc',?_⟩
     . have e:(relabel sc X.env).names.lookup x=(sc.names.lookup x).map fun k=>if (k==NameKind.free&&X.env.scope.kind==.function&&X.env.kindOf x==some .cell) then NameKind.cell else k:=Mu
       show (relabel sc X.env).names.lookup x=some .cell\/(relabel sc X.env).names.lookup x=some .free;rw [e,hfr];simp only [Option.map_some];split
       . exact .inl rfl
       . exact .inr rfl
     . obtain ⟨o,ho,hd⟩:=z;exact ⟨o,hk _ o ho,hd⟩
 . obtain ⟨v,o,ho,hd⟩:=I.cell x c (sub h);exact ⟨v,o,hk _ o ho,hd⟩
 . show _=(tgs++caps).length;unfold J6;rw [χ,List.length_replicate,List.length_map,χ,C.len]
inductive PTs (X:Cx):List Expr->TT->Prop where
 | nil:PTs X [] (fun _ H Q=>Q true H)
 | one {c:Expr} {t:TT} (h:PT X c t):PTs X [c] t
theorem PTs.run (h:PTs X ifs t) (I:Inv X pins U H s) (q:t U H Q) :
  wpAny (model X.prog X.w) X.A (forIn ifs true fun c r=>if r=true then do let ok <-isTrue c X.env (eval c X.env);pure (ForInStep.yield ok) else pure (ForInStep.yield r)) (TP X pins U Q) X.xe s:=by
 cases h with
 | nil=>exact wpAny_tests_nil ⟨H,I,q⟩
 | one h=>exact wpAny_tests_one (h pins s U H Q I q)
def Oi (J:It) (D:Addr) (B:V->Hp->(List V->Hp->Prop)->Prop) (cs:St) (tt:TT) (te:TE) (Q:VK) (H1:Hp):Prop:=
 ∃W:Nat->Nat->List V->Hp->Prop,(∃m,W 0 m [] (upd H1 D (.lst [])))/\∀i m ys H,W i m ys H ->
  H D=some (.lst ys)/\((J.stop i H/\Q (.ref D) H)\/(J.go i H/\∀x H',J.yld i H x H'->B x H' fun vals H2=>tt (vals.map some++cs) H2 fun b H3=>
   if b=true then te (vals.map some++cs) H3 fun y H4=>H4 D=some (.lst ys)/\ys.length<sizeLine/\∃m',m'<m/\W (i+1) m' (ys++[y]) (upd H4 D (.lst (ys++[y])))
   else ∃m',m'<m/\W (i+1) m' ys H3))
def O9 (wi:TI) (B:V->Hp->(List V->Hp->Prop)->Prop) (ix:List Nat) (tt:TT) (te:TE):TE:=fun U H Q=>wi U H fun J H1=>∀D,H1 D=none->Oi J D B (J6 ix U) tt te Q H1
variable {elt tg iter:Expr} {ifs:List Expr} {pos:Pos} {g:TG} {B:V->Hp->(List V->Hp->Prop)->Prop} {tt:TT} {te:TE}
theorem Wa (C:CompOk X sc caps ix) (hg:∀fp s H,PG (r6 X sc (tgs++caps) fp s H) tg g)
  (hB:∀(x:V) (σt cs:St) (H:Hp) (Q:St->Hp->Prop),σt.length=tgs.length->B x H (fun vals H2=>Q (vals.map some++cs) H2)->g x (σt++cs) H fun σ2 H2=>(∃vals:List V,vals.length=tgs.length/\σ2=vals.map some++cs)/\Q σ2 H2)
  (ht:∀fp s H,PTs (r6 X sc (tgs++caps) fp s H) ifs tt) (he:∀fp s H,PE (r6 X sc (tgs++caps) fp s H) elt te)
  {J:It} {it:Addr} {tn:Nat->Heap->Prop} {Q:VK} {E:Value->Shared->Prop} (I2:Inv X pins U H s) (T:Turn X.prog X.w X.K tg J fp it tn) (st:tn 0 s.heap) (hf:∀b∈fp,G1 X pins H b)
  (hw:∀D,H D=none->Oi J D B (J6 ix U) tt te Q H) {RR:Value->Addr->Result->Shared->Prop}
  (hRR:∀D Cc H' s' m,s'.heap.Ns Cc m->Inv X pins U H' s'->G1 X pins H' Cc->Q (.ref D) H'->RR (.ref D) Cc (.ok .next) s') :
  wpAny (model X.prog X.w) X.A (newList []) (fun acc s₃=>wpAny (model X.prog X.w) X.A (newFunctionEnv sc X.env.globals (y9 X.env.cells sc.names []) [] X.env.qual none .none (some X.env)) (fun cenv s₄=>
   codeAny (model X.prog X.w) X.A (.compStart (.ListComp elt [⟨tg,iter,ifs,0⟩] sc pos) 0 (.ref it) acc { cenv with scope:=relabel sc X.env }) (RR acc cenv.locals) s₄) E s₃) E s:=by
 refine wpAny_newObj_type (wpAny_newFunctionEnv C.ncell (by intro y hy;simp at hy) (fun h₁ hns₁ hsb₁=>?_) C.kind)
 have I3:Inv X pins U (upd H s.heap.objs.size (.lst [])) { s with heap:=s.heap.push { cls:=.type "list",dict:=none,data:=.seq ([]:List Value).toArray } }:=I2.lnew (t':=s.toks) (its:=[]) .nil (Nat.zero_le _)
 have hD0:H s.heap.objs.size=none:=I2.fresh
 have lt0:∀b∈fp,b<s.heap.objs.size:=fun b hb=>by obtain ⟨o,e,_⟩:=T.obj _ _ st b hb;exact π e
 have hfD:∀b∈fp,b≠s.heap.objs.size:=fun b hb=>Nat.ne_of_lt (lt0 b hb)
 have hf3:∀b∈fp,G1 X pins (upd H s.heap.objs.size (.lst [])) b:=fun b hb=>⟨by rw [m9 (hfD b hb)];exact (hf b hb).1,(hf b hb).2⟩
 generalize hs3:({ s with heap:=s.heap.push { cls:=.type "list",dict:=none,data:=.seq ([]:List Value).toArray } }:Shared)=s₃ at I3 hns₁ hsb₁ ⊢
 have hs3h:s₃.heap=s.heap.push { cls:=.type "list",dict:=none,data:=.seq ([]:List Value).toArray }:=by rw [<-hs3]
 have st3:tn 0 s₃.heap:=T.keep _ _ _ st fun b _ o e=>by rw [hs3h];exact τ _ e
 have hl3:∀b∈fp,b<s₃.heap.objs.size:=fun b hb=>by rw [hs3h,Heap.size_push];exact Nat.lt_succ_of_lt (lt0 b hb)
 generalize hDD:s.heap.objs.size=D at *
 have hk1:∀b o,s₃.heap.get? b=some o->h₁.get? b=some o:=fun b o e=>hsb₁.extBut b o (Nat.ne_of_lt (π e)) (τ _ e)
 have I4:=yE (tgs:=tgs) (t':=s₃.toks+([]:List (Str×Value)).length) C I3 hf3 hl3 hns₁ hk1
 have st4:tn 0 h₁:=T.keep _ _ _ st3 fun b _ o e=>hk1 b o e
 have fr4:∀b∈fp,(upd H D (.lst [])) b=none:=fun b hb=>(hf3 b hb).1
 generalize hXc:r6 X sc (tgs++caps) fp s₃ (upd H D (.lst []))=Xc at I4
 have hprog:Xc.prog=X.prog:=by rw [<-hXc];rfl
 have hww:Xc.w=X.w:=by rw [<-hXc];rfl
 have hKK:Xc.K=X.K:=by rw [<-hXc];rfl
 have hcalm:Xc.calm=true:=by rw [<-hXc];exact C.calm
 have hA:Xc.A=X.A:=by rw [<-hXc];rfl
 have henv:Xc.env=compEnvC sc (y9 X.env.cells sc.names []) s₃.heap.objs.size X.env:=by rw [<-hXc];rfl
 have hxe:Xc.xe=fun _ _=>False:=by rw [<-hXc];rfl
 have hg':=hg fp s₃ (upd H D (.lst []))
 have ht':=ht fp s₃ (upd H D (.lst []))
 have he':=he fp s₃ (upd H D (.lst []))
 rw [hXc] at hg' ht' he'
 obtain ⟨W,⟨m0,w0⟩,turn⟩:=hw D hD0
 have stat:∀{H':Hp},(∀b∈fp,H' b=none)->∀b∈fp,G1 Xc [] H' b:=fun {H'} hn b hb=>by
  refine ⟨hn b hb,?_,?_,.inl ?_,fun x c e z=>?_,fun p hp=>?_⟩
  . rw [henv];exact Nat.ne_of_lt (hl3 b hb)
  . rw [<-hXc];intro z;obtain ⟨_,h1,h2,_⟩:=hf b hb;rcases List.mem_cons.mp (I3.stkSub b z) with q | q
    . exact h1 q
    . exact h2 q
  . rw [<-hXc];exact hb
  . rw [henv] at e;exact (hf b hb).2.2.2.2.1 x c (C.sub I2 e) z
  . rw [<-hXc] at hp;exact absurd (show p∈([]:List (Addr×Obj)) from hp) (by simp)
 have loop:∀s₄:Shared,s₄={ s₃ with heap:=h₁,toks:=s₃.toks+([]:List (Str×Value)).length } ->
   codeAny (model X.prog X.w) X.A (.compLoop (.ListComp elt [⟨tg,iter,ifs,0⟩] sc pos) 0 (.ref it) (.ref D) (compEnvC sc (y9 X.env.cells sc.names []) s₃.heap.objs.size X.env)) (RR (.ref D) s₃.heap.objs.size) s₄:=by
  intro s₄ hs4
  rw [<-hprog,<-hww,<-hA,<-henv]
  refine zw (fun n s'=>∃(i:Nat) (ys:List V) (σt:St) (H':Hp),σt.length=tgs.length/\Inv Xc [] (σt++J6 ix U) H' s'/\tn i s'.heap/\(∀b∈fp,H' b=none)/\W i n ys H') ?_ m0
   ⟨0,[],List.replicate tgs.length none,upd H D (.lst []),by simp,by rw [hs4];exact I4,by rw [hs4];exact st4,fr4,w0⟩
  rintro n s5 ⟨i,ys,σt,H5,hσ,I5,st5,fr5,w5⟩
  obtain ⟨hD5,hturn⟩:=turn i n ys H5 w5
  rcases hturn with ⟨stop,q⟩ | ⟨go,step⟩
  . rw [hprog,hww];refine thn (T.done Xc hprog hww hKK hcalm i [] s5 _ H5 _ I5 (stat fr5) st5 stop) fun r s6 ⟨hr,I6⟩=>?_
    subst hr;obtain ⟨m6,hn6,_⟩:=I6.loc;rw [henv] at hn6;have hcb:∀b∈fp,(b∈X.ex\/X.s₀.heap.objs.size<=b)/\b≠X.env.locals/\(∀x c,X.env.cells.lookup x=some c->c≠b)/\∀p∈X.pn++pins,p.1≠b:=fun b hb=>⟨(hf b hb).2.2.2.1,(hf b hb).2.1,(hf b hb).2.2.2.2.1,(hf b hb).2.2.2.2.2⟩
    have hos:s6.os=s₃.os:=by have:=I6.os;rw [<-hXc] at this;exact this
    have un6:Un (frs X.stack) fp (upd H D (.lst [])) H5 s₃.heap s6.heap:=by have:=I6.base;rw [<-hXc] at this;exact this
    have hok6:HOk X.prog X.w H5 s6.heap:=by have:=I6.hok;rw [hprog,hww] at this;exact this
    have I7:Inv X pins U H5 s6:=I3.call' hos un6 hok6 I6.bare hcb;refine hRR D _ H5 s6 m6 hn6 I7 ?_ q;have hCn:H5 s₃.heap.objs.size=none:=by have:=I6.free;rw [henv] at this;exact this
    exact I3.fpOk (η _) hCn
  . rw [hprog,hww];refine thn (T.item Xc hprog hww hKK hcalm i [] s5 _ H5 _ I5 (stat fr5) st5 go) fun r s6 ⟨u,hr,h6⟩=>?_
    subst hr;refine thn h6 fun _ s7 ⟨x,H7,I7,r7,y7,st7,fr7⟩=>?_
    have I7':=I7.pinned (stat fr7) (T.obj _ _ st7);have hst:=hg' _ s7 _ H7 x u _ I7' r7 (hB x σt (J6 ix U) H7 (fun σ2 H2=>tt σ2 H2 fun b H3=>if b=true then te σ2 H3 fun y H4=>H4 D=some (.lst ys)/\ys.length<sizeLine/\∃m',m'<n/\W (i+1) m' (ys++[y]) (upd H4 D (.lst (ys++[y]))) else ∃m',m'<n/\W (i+1) m' ys H3) hσ (step x H7 y7));rw [hprog,hww,hxe] at hst;refine thn hst fun _ s8 ⟨σ8,H8,I8,⟨vals,hvl,hσ8⟩,q8⟩=>?_
    have again:∀{H9:Hp} {s9:Shared},Inv Xc ([]++Di fp s7.heap) σ8 H9 s9->tn (i+1) s9.heap/\∀b∈fp,H9 b=none:=fun {H9 s9} I9=>
     ⟨T.keep _ _ _ st7 fun b hb o e=>(I9.pin (b,o) (List.mem_append_right _ (List.mem_append_right _ (Go hb e)))).1,fun b hb=>by obtain ⟨o,e,d⟩:=T.obj _ _ st7 b hb;exact (I9.pin (b,o) (List.mem_append_right _ (List.mem_append_right _ (Go hb e)))).2.1⟩
    subst hσ8;have hts:=ht'.run I8 q8;rw [hprog,hww,hxe] at hts;refine thn hts fun ok s9 ⟨H9,I9,q9⟩=>?_
    cases ok with
    | false=>
     rw [ξ θ] at q9 ⊢
     obtain ⟨m',hm,w9⟩:=q9
     obtain ⟨a1,a2⟩:=again I9
     exact ⟨m',hm,i+1,ys,vals.map some,H9,by simpa using hvl,I9.unpinned,a1,a2,w9⟩
    | true=>
     rw [ζ rfl] at q9 ⊢
     have hev:=he' _ s9 _ H9 _ I9 q9
     rw [hprog,hww,hxe] at hev
     refine thn hev fun uy s10 ⟨y,H10,I10,r10,hD10,hz10,m',hm,w10⟩=>?_
     have hap:=V1 (X:=Xc) _ s10 _ H10 (.ref D) [y] (.ref D) [uy] (fun v H11=>v=.non/\H11=upd H10 D (.lst (ys++[y]))) I10 rfl (.cons r10 .nil) ⟨D,ys,y,rfl,rfl,hD10,hz10,rfl,rfl⟩
     rw [hprog,hww,hxe] at hap
     refine thn hap fun _ s11 ⟨v,H11,I11,_,_,e11⟩=>?_
     subst e11
     obtain ⟨a1,a2⟩:=again I11
     exact ⟨m',hm,i+1,ys++[y],vals.map some,_,by simpa using hvl,I11.unpinned,a1,a2,w10⟩
 refine codeAny_compStart_list (loop _ rfl) (T.self X.A 0 _ _ _ st4 (loop _ rfl))
theorem Th (C:CompOk X sc caps ix) (hi:PI X tg iter wi) (hg:∀fp s H,PG (r6 X sc (tgs++caps) fp s H) tg g)
  (hB:∀(x:V) (σt cs:St) (H:Hp) (Q:St->Hp->Prop),σt.length=tgs.length->B x H (fun vals H2=>Q (vals.map some++cs) H2)->g x (σt++cs) H fun σ2 H2=>(∃vals:List V,vals.length=tgs.length/\σ2=vals.map some++cs)/\Q σ2 H2)
  (ht:∀fp s H,PTs (r6 X sc (tgs++caps) fp s H) ifs tt) (he:∀fp s H,PE (r6 X sc (tgs++caps) fp s H) elt te)
  (hs:∀x,foldedSetIterable iter X.env x=pure x:=by intro _;rfl):PE X (.ListComp elt [⟨tg,iter,ifs,0⟩] sc pos) (O9 wi B ix tt te):=by
 intro pins s U H Q I h
 rw [eval_ListComp]
 refine wpAny_comprehension_free (use:=none) rfl hs (Wv (C.free_cell I)) C.kind C.names (thn (hi pins s U H _ I h) fun v s1 h1=>thn h1 fun itv s2 h2=>?_)
 obtain ⟨it,fp,tn,J,H2,e,I2,T,st2,f2,hw⟩:=h2
 subst e
 refine Wa (RR:=fun acc Cc=>compPost (model X.prog X.w) X.A X.xe none (EP X pins U Q) acc Cc) C hg hB ht he I2 T st2 f2 hw ?_
 intro D Cc H' s' m hn I' hfp q
 refine ⟨m,hn,fun h' sb=>⟨.ref D,H',?_,rfl,q⟩⟩
 exact I'.turned (t':=s'.toks) (fun b o hb e=>sb.extBut b o hb e) hfp.1 hfp.2.1 hfp.2.2.2.1 hfp.2.2.2.2.1 hfp.2.2.2.2.2
theorem Tf (hN:X.N.Nodup) (hk:X.N[k]?=some x) (hx:X.env.scope.names.lookup x=some .local) (C:CompOk X sc caps ix) (hi:PI X tg iter wi) (hg:∀fp s H,PG (r6 X sc (tgs++caps) fp s H) tg g)
  (hB:∀(x:V) (σt cs:St) (H:Hp) (Q:St->Hp->Prop),σt.length=tgs.length->B x H (fun vals H2=>Q (vals.map some++cs) H2)->g x (σt++cs) H fun σ2 H2=>(∃vals:List V,vals.length=tgs.length/\σ2=vals.map some++cs)/\Q σ2 H2)
  (ht:∀fp s H,PTs (r6 X sc (tgs++caps) fp s H) ifs tt) (he:∀fp s H,PE (r6 X sc (tgs++caps) fp s H) elt te)
  (hsw:swapsWith (.ListComp elt [⟨tg,iter,ifs,0⟩] sc pos) (some (.Name x px)) spos.line X.env=pure true:=by rfl)
  (hs:∀x,foldedSetIterable iter X.env x=pure x:=by intro _;rfl):PS X (.Assign [.Name x px] (.ListComp elt [⟨tg,iter,ifs,0⟩] sc pos) spos) (O2 (O9 wi B ix tt te) (B0 k)):=by
 intro pins s U H D0 I h
 rw [exec_Assign_Name_used _ _ _ _ hsw]
 refine δ (wpAny_standAt (δ ?_))
 show wpAny _ X.A (do let _ <-comprehension (.ListComp elt [⟨tg,iter,ifs,0⟩] sc pos) sc X.env _ (newList []) false (eval iter X.env) (some (assign (.Name x px) X.env))) _ _ s
 refine δ (wpAny_mono (wpAny_comprehension_free (use:=some (assign (.Name x px) X.env)) (Q:=fun _ s'=>SP X pins D0 .next s') rfl hs (Wv (C.free_cell I)) C.kind C.names
  (thn (hi pins s U H _ I h) fun v s1 h1=>thn h1 fun itv s2 h2=>?_)) (fun _ s' hq=>ω (ω hq)) fun _ _ e=>e)
 obtain ⟨it,fp,tn,J,H2,e,I2,T,st2,f2,hw⟩:=h2
 subst e
 refine Wa (RR:=fun acc Cc=>compPost (model X.prog X.w) X.A X.xe (some (assign (.Name x px) X.env)) (fun _ s'=>SP X pins D0 .next s') acc Cc) C hg hB ht he I2 T st2 f2 hw ?_
 intro D Cc H' s' m hn I' hfp q
 show wpAny _ X.A (assign (.Name x px) X.env (.ref D)) _ _ _
 refine wpAny_assign_Name (Vg I' hN hk (.inl hx) (v:=.ref D) rfl (fun s'' I'' hch=>?_) (.inr hx))
 obtain ⟨a,sb,ha⟩:=hch
 have hne:Cc≠a:=by
  rcases ha with z | z
  . rw [z];exact hfp.2.1
  . exact fun e=>hfp.2.2.2.2.1 x a z e.symm
 refine ⟨m,hn.sameBut sb hne,fun h' sb'=>⟨_,H',?_,q⟩⟩
 exact I''.turned (t':=s''.toks) (fun b o hb e=>sb'.extBut b o hb e) hfp.1 hfp.2.1 hfp.2.2.2.1 hfp.2.2.2.2.1 hfp.2.2.2.2.2
end
section
variable {X:Cx}
theorem PE.imp (h:PE X e t) (hi:∀U H Q,t' U H Q->t U H Q):PE X e t':=fun pins s U H Q I q=>h pins s U H Q I (hi U H Q q)
theorem PT.imp (h:PT X e t) (hi:∀U H Q,t' U H Q->t U H Q):PT X e t':=fun pins s U H Q I q=>h pins s U H Q I (hi U H Q q)
theorem OpR.imp (h:OpR X f r) (hi:∀x y H Q,r' x y H Q->r x y H Q):OpR X f r':=fun pins s U H x y v u Q I rx ry q=>h pins s U H x y v u Q I rx ry (hi x y H Q q)
theorem UnR.imp (h:UnR X f r) (hi:∀x H Q,r' x H Q->r x H Q):UnR X f r':=fun pins s U H x v Q I rx q=>h pins s U H x v Q I rx (hi x H Q q)
theorem CallR.imp (h:CallR X f r) (hi:∀xs H Q,r' xs H Q->r xs H Q):CallR X f r':=fun pins s U H xs us Q I rx q=>h pins s U H xs us Q I rx (hi xs H Q q)
end
noncomputable def w8 (i:Nat):TE:=fun U H Q=>match U[i]? with | some (some v)=>Q v H | _=>False
theorem pw (i:Nat) (hN:X.N[i]?=some x:=by rfl) (hv:Vis X.env.scope x:=by first | exact .inl rfl | exact .inr (.inl rfl) | exact .inr (.inr rfl)) (hd:(x==("__debug__":Str))=false:=by decide)
  (hcd:(x==("__classdict__":Str))=false:=by decide):PE X (.Name x pos) (w8 i):=
 (Dj hN hv hd hcd).imp fun U H Q q=>by
  unfold w8 at q;unfold Hk;split at q
  . rename_i v e;exact ⟨v,e,q⟩
  . exact q.elim
noncomputable def cI (g:Int->Int->V):R2:=fun x y H Q=>match x,y with | .int i,.int j=>Q (g i j) H | _,_=>False
noncomputable def cIC (C:Int->Int->Prop) (g:Int->Int->V):R2:=fun x y H Q=>match x,y with | .int i,.int j=>C i j/\Q (g i j) H | _,_=>False
theorem OpR.cI (h:OpR X f (rI0 g)):OpR X f (cI g):=h.imp fun x y H Q q=>by cases x<;>cases y<;>first | exact ⟨_,_,rfl,rfl,q⟩ | exact q.elim
theorem OpR.cIC (h:OpR X f (rI C g)):OpR X f (cIC C g):=h.imp fun x y H Q q=>by cases x<;>cases y<;>first | exact ⟨_,_,rfl,rfl,q.1,q.2⟩ | exact q.elim
section
variable {X:Cx}
theorem A8:OpR X (binaryOp .Add) (cI fun i j=>.int (i+j)):=op_add.cI
theorem y0:OpR X (binaryOp .Sub) (cI fun i j=>.int (i - j)):=op_sub.cI
theorem Jg:OpR X (binaryOp .Mult) (cIC CMul fun i j=>.int (i * j)):=op_mul.cIC
theorem K1:OpR X (binaryOp .FloorDiv) (cIC R9 fun i j=>.int (i / j)):=op_fdiv.cIC
theorem v7:OpR X (binaryOp .Mod) (cIC (fun _ j=>0<j) fun i j=>.int (i % j)):=op_mod.cIC
theorem Jf:OpR X (binaryOp .Pow) (cIC O1 fun i j=>.int (i ^ j.toNat)):=op_pow.cIC
theorem R8:OpR X (compareOp .Lt) (cI fun i j=>.bl (decide (i<j))):=op_lt.cI
theorem y24:OpR X (compareOp .LtE) (cI fun i j=>.bl (decide (i<=j))):=op_le.cI
theorem Ce:OpR X (compareOp .Gt) (cI fun i j=>.bl (decide (j<i))):=op_gt.cI
theorem y25:OpR X (compareOp .GtE) (cI fun i j=>.bl (decide (j<=i))):=op_ge.cI
def cU (g:Int->V):V->Hp->VK->Prop:=fun x H Q=>match x with | .int i=>Q (g i) H | _=>False
theorem O8:UnR X (unaryOp .USub) (cU fun i=>.int (-i)):=un_neg.imp fun x H Q q=>by cases x<;>first | exact ⟨_,rfl,q⟩ | exact q.elim
end
noncomputable def E5 (H:Hp) (p:Addr):Option (List V):=match H p with
 | some (.lst xs)=>some xs
 | some (.tup xs)=>some xs
 | some (.frz _ (.lst xs))=>some xs
 | some (.frz _ (.tup xs))=>some xs
 | _=>none
theorem Ug {K:Frag} {H:Hp} {p:Addr} {xs:List V} (h:E5 H p=some xs):SqL K H p xs\/SqT K H p xs:=by
 unfold E5 at h;split at h;all_goals first | (cases h;done) | skip
 . rename_i ys e;cases h;exact .inl (.inl (.inl e))
 . rename_i ys e;cases h;exact .inr (.inl (.inl e))
 . rename_i o ys e;cases h;exact .inl (.inl (.inr ⟨_,e⟩))
 . rename_i o ys e;cases h;exact .inr (.inl (.inr ⟨_,e⟩))
theorem Ux (h:H p=some (.lst xs)):E5 H p=some xs:=by unfold E5;rw [h]
theorem Uw (h:H p=some (.tup xs)):E5 H p=some xs:=by unfold E5;rw [h]
def O7 (x:V) (H:Hp) (Q:Bool->Hp->Prop):Prop:=match x with
 | .bl b=>Q b H
 | .int i=>Q (i != 0) H
 | .non=>Q false H
 | .str y=>y.length<=sizeLine/\Q ((y.length:Int) != 0) H
 | .ref p=>(match E5 H p with
  | some xs=>Q (!xs.isEmpty) H
  | none=>(match H p with | some (.dK kvs)=>Q (!kvs.isEmpty) H | _=>False))
 | _=>False
theorem Uf {K:Frag} {x:V} {H:Hp} {Q:Bool->Hp->Prop} (h:O7 x H Q):∃k,Yp K x H k/\Q k H:=by
 cases x with
 | bl b=>exact ⟨b,rfl,h⟩
 | int i=>exact ⟨_,rfl,h⟩
 | non=>exact ⟨_,rfl,h⟩
 | str y=>exact ⟨_,⟨h.1,rfl⟩,h.2⟩
 | ref p=>
  unfold O7 at h
  dsimp only at h
  split at h
  . rename_i xs e;rcases Ug (K:=K) e with z | z
    . exact ⟨_,.inl ⟨xs,z,rfl⟩,h⟩
    . exact ⟨_,.inr (.inl ⟨xs,z,rfl⟩),h⟩
  . split at h
    . rename_i kvs e;exact ⟨_,.inr (.inr ⟨kvs,e,rfl⟩),h⟩
    . exact h.elim
 | _=>exact h.elim
noncomputable def y26 (t:TE):TT:=fun U H Q=>t U H fun x H'=>O7 x H' Q
section
variable {X:Cx} {a b c:Expr} {ta tb:TE} {pos:Pos}
theorem kQ (ha:PE X a ta) (he:∀whole,isTrue a X.env whole=(do let v <-whole;standAt a.pos;holding [v] (truthy v)):=by intro _;rfl):PT X a (y26 ta):=by intro pins s U H Q I h;exact isTrue_plain (thn (ha pins s U H _ I h) fun v s1 ⟨x,H1,I1,r1,q1⟩=>Qr pins s1 U H1 x v Q I1 r1 (Uf q1)) (he _)
noncomputable def Je (t:TE):TT:=fun U H Q=>t U H fun x H'=>match x with | .bl k=>Q k H' | _=>False
theorem vQ (ho:OpR X (compareOp op) r) (ha:PE X a ta) (hb:PE X b tb) (hm:behindInMarks op b=false):PT X (.Compare a [op] [b] pos) (Je (tOp r ta tb)):=by
 intro pins s U H Q I h;refine wpAny_isTrue_Compare1 (thn (ha pins s U H _ I h) fun v s1 ⟨x,H1,I1,r1,q1⟩=>thn (hb pins s1 U H1 _ I1 q1) fun u s2 ⟨y,H2,I2,r2,q2⟩=>
  thn (ho pins s2 U H2 x y v u _ I2 r1 r2 q2) fun c s3 ⟨z,H3,I3,r3,q3⟩=>?_) hm
 cases z<;>first | exact q3.elim | skip
 cases r3;exact wpAny_truthy_bool ⟨H3,I3,q3⟩
end
section
variable {c:Expr} {ta tb:TE}
noncomputable def Oh (ta tb:TE):TE:=fun U H Q=>ta U H fun x H1=>match x with | .bl c=>(if c=true then tb U H1 Q else Q (.bl false) H1) | _=>False
noncomputable def Yg (ta tb:TE):TE:=fun U H Q=>ta U H fun x H1=>match x with | .bl c=>(if c=true then Q (.bl true) H1 else tb U H1 Q) | _=>False
end
section
variable {X:Cx} {a b c:Expr} {ta tb:TE} {pos:Pos} {rest:List Expr}
theorem vP (ha:PE X a ta) (hb:PE X (.BoolOp .And (b::rest) pos) tb):PE X (.BoolOp .And (a::b::rest) pos) (Oh ta tb):=by
 intro pins s U H Q I h;refine BoolOp_and (thn (ha pins s U H _ I h) fun v s1 ⟨x,H1,I1,r1,q1⟩=>?_);cases x<;>first | exact q1.elim | skip
 rename_i k;cases r1;refine wpAny_truthy_bool ?_;cases k with
 | true=>exact ite_tt (hb pins s1 U H1 Q I1 (by simpa using q1))
 | false=>exact ite_ff ⟨.bl false,H1,I1,rfl,by simpa using q1⟩
theorem kP (ha:PE X a ta) (hb:PE X (.BoolOp .Or (b::rest) pos) tb):PE X (.BoolOp .Or (a::b::rest) pos) (Yg ta tb):=by
 intro pins s U H Q I h;refine BoolOp_or (thn (ha pins s U H _ I h) fun v s1 ⟨x,H1,I1,r1,q1⟩=>?_);cases x<;>first | exact q1.elim | skip
 rename_i k;cases r1;refine wpAny_truthy_bool ?_;cases k with
 | true=>exact ite_tt ⟨.bl true,H1,I1,rfl,by simpa using q1⟩
 | false=>exact ite_ff (hb pins s1 U H1 Q I1 (by simpa using q1))
noncomputable def Zx (ta:TE):TE:=fun U H Q=>ta U H fun x H1=>O7 x H1 fun k H2=>Q (.bl (!k)) H2
theorem vO (ha:PE X a ta):PE X (.UnaryOp .Not a pos) (Zx ta):=by intro pins s U H Q I h;refine UnaryOp_ (thn (ha pins s U H _ I h) fun v s1 ⟨x,H1,I1,r1,q1⟩=>not_of ?_);exact thn (Qr pins s1 U H1 x v _ I1 r1 (Uf q1)) fun k s2 ⟨H2,I2,q2⟩=>⟨.bl (!k),H2,I2,rfl,q2⟩
noncomputable def M4 (H:Hp):V->Option String
 | .non=>some "NoneType"
 | .bl _=>some "bool"
 | .int _=>some "int"
 | .str _=>some "str"
 | .ref a=>(match H a with
  | some (.lst _)=>some "list"
  | some (.frz _ (.lst _))=>some "list"
  | some (.tup _)=>some "tuple"
  | some (.dK _)=>some "dict"
  | some (.dT _)=>some "dict"
  | _=>none)
 | _=>none
noncomputable def G0 (t c:String):Bool:=t==c||(t=="bool"&&c=="int")
noncomputable def G7 (c:String):Bool:=["int","bool","str","list","tuple","dict"].contains c
theorem N1 {K:Frag} {t c:String} (ht:["NoneType","bool","int","str","list","tuple","dict"].contains t=true) (hc:G7 c=true):kitOne K (.type t) (.type c)=some (G0 t c):=by
 have h1:t="NoneType"\/t="bool"\/t="int"\/t="str"\/t="list"\/t="tuple"\/t="dict":=by simpa using ht
 have h2:c="int"\/c="bool"\/c="str"\/c="list"\/c="tuple"\/c="dict":=by simpa [G7] using hc
 rcases h1 with rfl | rfl | rfl | rfl | rfl | rfl | rfl<;>rcases h2 with rfl | rfl | rfl | rfl | rfl | rfl<;>first | rfl | (with_unfolding_all rfl)
theorem xm:CallR X (.builtin "isinstance") (fun xs H Q=>match xs with
  | [x,.ty c]=>G7 c=true/\(match M4 H x with | some t=>Q (.bl (G0 t c)) H | none=>False)
  | _=>False):=by
 intro pins s U H xs us Q I r h
 split at h
 . rename_i x c;obtain ⟨hc,h⟩:=h;obtain ⟨u,w',rfl,ru,rw'⟩:=Cs r;cases rw';split at h
   . rename_i t et;have fin:∀(tk:Nat),EP X pins U Q (.bool (G0 t c)) { s with toks:=tk }:=fun tk=>⟨.bl _,H,I.tok _,rfl,h⟩
     cases x<;>simp only [M4] at et
     case non=>cases et;exact K4 I ru .non (N1 (by decide) hc) fin
     case bl b=>cases et;exact K4 I ru (.bl b) (N1 (by decide) hc) fin
     case int b=>cases et;exact K4 I ru (.int b) (N1 (by decide) hc) fin
     case str b=>cases et;exact K4 I ru (.str b) (N1 (by decide) hc) fin
     case ref a=>
      split at et<;>first | (cases et;done) | skip
      . rename_i ys e;cases et;exact K4 I ru (.lst e) (N1 (by decide) hc) fin
      . rename_i o ys e;cases et;exact K4 I ru (.frz e) (N1 (by decide) hc) fin
      . rename_i ys e;cases et;exact K4 I ru (.tup e) (N1 (by decide) hc) fin
      . rename_i ys e;cases et;exact K4 I ru (.dK e) (N1 (by decide) hc) fin
      . rename_i ys e;cases et;exact K4 I ru (.dT e) (N1 (by decide) hc) fin
     all_goals cases et
   . exact h.elim
 . exact h.elim
theorem yb (hc:X.calm=true):CallR X (.builtin "sum") (fun xs H Q=>match xs with
  | [.ref p]=>∃ns:List Int,E5 H p=some (ns.map V.int)/\Q (.int ns.sum) H
  | _=>False):=by
 intro pins s U H xs us Q I r h
 split at h
 . rename_i p;obtain ⟨ns,e,q⟩:=h;obtain ⟨u,rfl,ru⟩:=A9 r;cases ru;have key:∀{its:List Value},Vals (ns.map V.int) its->∃ys:Array (Int×Tok),its.toArray=intItems ys/\preSum (numAt ys) ys.size=ns.sum:=fun {its} rv=>by
    have hi:=Gn rv;obtain ⟨ys,hx⟩:=hi.allInts.items;refine ⟨ys,hx,?_⟩;have e1:ns=ys.toList.map (·.1):=by rw [<-nums_intItems,<-hx];exact (show numsOf its.toArray.toList=ns from hi.numsOf).symm
    rw [preSum_eq,List.take_of_length_le (by simp),e1]
   rcases Ug (K:=X.K) e with hq | hq
   . obtain ⟨its,rv,pl,_⟩:=I.list hq;obtain ⟨ys,hx,es⟩:=key rv;refine sum_intListG (I.ok.hd hc) (hx ▸ pl.isList) fun h' tk t' hk=>?_
     rw [es];exact ⟨.int ns.sum,H,I.kept hk,⟨_,rfl⟩,q⟩
   . obtain ⟨its,rv,pl,_⟩:=I.tuple hq;obtain ⟨ys,hx,es⟩:=key rv;refine PySem.W.ktm_sumG (I.ok.hd hc) (hx ▸ pl) fun h' tk t' hk=>?_
     rw [es];exact ⟨.int ns.sum,H,I.kept hk,⟨_,rfl⟩,q⟩
 . exact h.elim
abbrev Jd (s:Shared) (L:Addr):List (Addr×Obj):=Dt (Att.noObjs s.heap) s.heap L
section
variable {pins:List (Addr×Obj)} {U:St} {H:Hp} {s:Shared} {h':Heap} {m:Str->Option Value}
theorem Vz (N:News (Att.noObjs s.heap) L h' (Jd s L)):∀b o,b≠L->s.heap.get? b=some o->h'.get? b=some o:=fun b o hb e=>(N (b,o) (yX hb (Att.noObjs_get _ _) e)).1
theorem Inv.frn (I:Inv X pins U H s) (hn:s.heap.Ns X.env.locals m) (F:Fr (Att.noObjs s.heap) X.env.locals h' m) (N:News (Att.noObjs s.heap) X.env.locals h' (Jd s X.env.locals)):Inv X pins U H { s with heap:=h',toks:=tk }:=by
 have kept:=Vz N;refine I.step (g':=s.gens) (d':=s.drawn) (ch:=[]) (fun _ z=>nomatch z) (fun b o hL _ _ e _=>kept b o hL e) (fun b o hL _ _ e _=>⟨o.slots,kept b o hL e⟩) (fun _ _ _ _ n=>n) (fun b o _ e=>?_) (fun _ _ e=>e) (fun _ _ _ e=>e) (fun b ps e=>⟨#[],by rw [e];simp⟩) (fun m' hm=>?_) (fun b u e=>?_) I.bare
 . by_cases hb:b=X.env.locals
   . subst hb;obtain ⟨o',_,_,ho',_⟩:=F.ns;exact ⟨o',ho'⟩
   . exact ⟨o,kept b o hb e⟩
 . rw [hm.eq_nsMap,<-hn.eq_nsMap];exact F.ns
 . refine (I.hok b u e).stay (fun c v hc q=>kept c v ?_ q) (fun _ q=>q) fun _ _ q=>q
   intro z;rcases hc with hc | hc
   . rw [<-hc,z,I.free] at e;cases e
   . rw [z,I.free] at hc;cases hc
theorem Inv.frnew (I:Inv X pins U H s) (hn:s.heap.Ns X.env.locals m) (F:Fr (Att.noObjs s.heap) X.env.locals h' m) (N:News (Att.noObjs s.heap) X.env.locals h' ((D,ob)::Jd s X.env.locals))
  (hD:s.heap.get? D=none) (new:ObjOk X.prog X.w (upd H D o) h' D o):H D=none/\Inv X pins U (upd H D o) { s with heap:=h',toks:=tk }:=by
 have kept:=Vz (fun p hp=>N p (.tail _ hp))
 have hDL:D≠X.env.locals:=(N (D,ob) (.head _)).2.1
 have neD:∀b o,s.heap.get? b=some o->b≠D:=fun b o e z=>by rw [z,hD] at e;cases e
 have HD:H D=none:=by
  cases q:H D with
  | none=>rfl
  | some u=>
   have:=(I.hok D u q).lt
   obtain ⟨v,hv⟩:∃v,s.heap.get? D=some v:=by
    have z:=I.hok D u q;cases u with
    | lst xs=>obtain ⟨_,_,_,_,e⟩:=z;exact ⟨_,e⟩
    | tup xs=>obtain ⟨_,_,_,o,e,_⟩:=z;exact ⟨_,e⟩
    | dK kvs=>obtain ⟨_,_,_,_,o,_,_,e,_⟩:=z;exact ⟨_,e⟩
    | dT kvs=>obtain ⟨_,_,_,_,o,_,_,e,_⟩:=z;exact ⟨_,e⟩
    | set S n=>obtain ⟨_,_,_,_,e,_⟩:=z;exact ⟨_,e⟩
    | ins C dx fs=>obtain ⟨_,_,_,e,_⟩:=z;exact ⟨_,e⟩
    | own x=>exact z
    | xd fs=>obtain ⟨mA,n1,_⟩:=z;obtain ⟨o,_,_,e,_⟩:=n1;exact ⟨o,e⟩
    | met f x=>exact ⟨_,z⟩
    | rng lo hi=>obtain ⟨_,_,_,e⟩:=z;exact ⟨_,e⟩
    | frz o u=>exact ⟨_,z.1⟩
    | tbl ps=>exact ⟨_,z⟩
    | ctb q=>obtain ⟨_,e,_⟩:=z;exact ⟨_,e⟩
    | ext φ=>exact z.2.1
   rw [hD] at hv;cases hv
 refine ⟨HD,I.step (g':=s.gens) (d':=s.drawn) (ch:=[]) (fun _ z=>nomatch z) (fun b o hL _ _ e _=>kept b o hL e) (fun b o hL _ _ e _=>⟨o.slots,kept b o hL e⟩) (fun b ob _ e n=>by rw [m9 (neD b ob e)];exact n) (fun b o _ e=>?_)
  (fun b xs e=>by rw [m9 (E7 e HD)];exact e) (fun b u xs e=>by rw [m9 (E7 e HD)];exact e) (fun b ps e=>⟨#[],by rw [m9 (E7 e HD),e];simp⟩) (fun m' hm=>?_) (fun b u e=>?_) I.bare⟩
 . by_cases hb:b=X.env.locals
   . subst hb;obtain ⟨o',_,_,ho',_⟩:=F.ns;exact ⟨o',ho'⟩
   . exact ⟨o,kept b o hb e⟩
 . rw [hm.eq_nsMap,<-hn.eq_nsMap];exact F.ns
 . by_cases hb:b=D
   . subst hb;rw [u8] at e;cases e;exact new
   . rw [m9 hb] at e;refine (I.hok b u e).stay (fun c v hc q=>kept c v ?_ q) (fun c q=>?_) fun c xs q=>?_
     . intro z;rcases hc with hc | hc
       . rw [<-hc,z,I.free] at e;cases e
       . rw [z,I.free] at hc;cases hc
     . rw [m9 (E7 q HD)];exact q
     . rw [m9 (E7 q HD)];exact q
end
theorem yU:∀{us:List Value},Vals (bs.map V.bl) us->LSm.BoolsAre us bs:=by
 induction bs with
 | nil=>intro us r;cases r;exact .nil
 | cons b bs ih=>
  intro us r
  cases r with
  | cons r1 r2=>cases r1;exact .cons b (ih r2)
theorem ya (hc:X.calm=true):CallR X (.builtin "all") (fun xs H Q=>match xs with
  | [.ref p]=>∃bs:List Bool,Rd H p (.lst (bs.map V.bl))/\Q (.bl (bs.all id)) H
  | _=>False):=by
 intro pins s U H xs us Q I r h
 split at h
 . rename_i p;obtain ⟨bs,e,q⟩:=h;obtain ⟨u,rfl,ru⟩:=A9 r;cases ru;obtain ⟨its,rv,pl,_⟩:=I.list (.inl e);obtain ⟨m,hn,_⟩:=id I.loc;exact LSm.all_bools (Att.fr_all hn) (Dx (g:=Att.noObjs s.heap) (L:=X.env.locals)) (I.ok.hd hc) pl.isList (yU rv) fun h' tk F N=>⟨.bl _,H,I.frn hn F N,rfl,q⟩
 . exact h.elim
theorem xZ:CallR X (.type "int") (fun xs H Q=>match xs with | [.int i]=>Q (.int i) H | [.bl k]=>Q (.int (if k then 1 else 0)) H | _=>False):=call_int1.imp fun xs H Q q=>by
 split at q
 . exact .inl ⟨_,rfl,q⟩
 . exact .inr ⟨_,rfl,q⟩
 . exact q.elim
theorem yD (hc:X.calm=true):CallR X (.builtin "max") (fun xs H Q=>match xs with | [.int i,.int j]=>Q (.int (if j > i then j else i)) H | _=>False):=(yl hc).imp fun xs H Q q=>by
 split at q
 . exact ⟨_,_,rfl,q⟩
 . exact q.elim
theorem yC (hc:X.calm=true):CallR X (.builtin "min") (fun xs H Q=>match xs with | [.int i,.int j]=>Q (.int (if j<i then j else i)) H | _=>False):=(yk hc).imp fun xs H Q q=>by
 split at q
 . exact ⟨_,_,rfl,q⟩
 . exact q.elim
end
noncomputable def ItS (S:Hp->Prop) (xs:List V):It:=⟨fun i H=>S H/\i<xs.length,fun i H x H'=>H'=H/\xs[i]?=some x,fun i H=>S H/\xs.length<=i⟩
theorem Turn.conv {P:Program} {w:World} {K:Frag} {tg:Expr} {J J':It} {fp:List Addr} {it:Addr} {tn:Nat->Heap->Prop} (T:Turn P w K tg J fp it tn) (h1:∀i H,J'.go i H->J.go i H) (h2:∀i H x H',J'.go i H->J.yld i H x H'->J'.yld i H x H')
  (h3:∀i H,J'.stop i H->J.stop i H):Turn P w K tg J' fp it tn where
 mem:=T.mem
 obj:=T.obj
 keep:=T.keep
 item:=fun X a b c d i pins s U H E I hf st hg=>thn (T.item X a b c d i pins s U H E I hf st (h1 i H hg)) fun r s1 ⟨u,e,h⟩=>⟨u,e,thn h fun _ s2 ⟨x,H',I',r',y',st',fr'⟩=>⟨x,H',I',r',h2 i H x H' hg y',st',fr'⟩⟩
 done:=fun X a b c d i pins s U H E I hf st hg=>T.done X a b c d i pins s U H E I hf st (h3 i H hg)
 self:=T.self
section
variable {X:Cx} {tg:Expr}
def W4 (x:V) (H1:Hp) (R:It->Hp->Prop):Prop:=match x with
 | .ref a=>(match H1 a with
  | some (.lst xs)=>R (ItS (fun H'=>Rd H' a (.lst xs)) xs) H1
  | some (.frz _ (.lst xs))=>R (ItS (fun H'=>Rd H' a (.lst xs)) xs) H1
  | some (.tup xs)=>R (ItS (fun H'=>H' a=some (.tup xs)) xs) H1
  | _=>False)
 | _=>False
theorem xl (h:Rd H a (.lst xs)) (r:R (ItS (fun H'=>Rd H' a (.lst xs)) xs) H):W4 (.ref a) H R:=by
 unfold W4;rcases h with h | ⟨o,h⟩
 . dsimp only;rw [h];exact r
 . dsimp only;rw [h];exact r
theorem xk (h:H a=some (.tup xs)) (r:R (ItS (fun H'=>H' a=some (.tup xs)) xs) H):W4 (.ref a) H R:=by unfold W4;dsimp only;rw [h];exact r
noncomputable def y27 (K:Frag) (tl:TE):TI:=fun U H R=>tl U H fun x H1=>W4 x H1 R
theorem kN (hl:PE X l tl):PI X tg l (y27 X.K tl):=by
 intro pins s U H R I h;refine thn (hl pins s U H _ I h) fun v s1 ⟨x,H1,I1,r1,q1⟩=>?_
 cases x<;>first | exact q1.elim | skip
 rename_i a;cases r1;unfold W4 at q1;dsimp only at q1;have asList:∀xs,Rd H1 a (.lst xs)->R (ItS (fun H'=>Rd H' a (.lst xs)) xs) H1->wpAny (model X.prog X.w) X.A (pyIter (.ref a)) (PIE X pins U tg R) X.xe s1:=fun xs hq q=>by
  obtain ⟨its,rv,p,hz⟩:=I1.list (.inl hq);refine wpAny_pyIter_list p.isList ?_;refine ⟨s1.heap.objs.size,[s1.heap.objs.size],_,_,H1,rfl,I1.kept (t':=s1.toks) fun b o e=>τ _ e,(yn a _).conv ?_ ?_ ?_,⟨_,Ψ _ rfl,rfl,rfl⟩,fun b hb=>?_,q⟩
  . exact fun i H' ⟨h1,h2⟩=>⟨xs,xs[i],.inl h1,by simp [h2]⟩
  . exact fun i H' x H'' ⟨h1,h2⟩ ⟨e,y⟩=>⟨e,y xs (.inl h1)⟩
  . exact fun i H' ⟨h1,h2⟩=>⟨xs,.inl h1,h2⟩
  . have e:b=s1.heap.objs.size:=by simpa using hb
    subst e;exact I1.fpOk (η _) (I1.hok.fresh (η _))
 split at q1
 . rename_i xs e;exact asList xs (.inl e) q1
 . rename_i o xs e;exact asList xs (.inr ⟨o,e⟩) q1
 . rename_i xs e;obtain ⟨its,rv,p,hz⟩:=I1.tuple (.of e);refine wpAny_pyIter_tuple (show s1.heap.IsTuple a its.toArray from p) ?_;refine ⟨s1.heap.objs.size,[s1.heap.objs.size],_,_,H1,rfl,I1.kept (t':=s1.toks) fun b o e=>τ _ e,(yM a _).conv ?_ ?_ ?_,⟨_,Ψ _ rfl,rfl,rfl⟩,fun b hb=>?_,q1⟩
   . exact fun i H' ⟨h1,h2⟩=>⟨xs,xs[i],.of h1,by simp [h2]⟩
   . exact fun i H' x H'' ⟨h1,h2⟩ ⟨e,y⟩=>⟨e,y xs (.of h1)⟩
   . exact fun i H' ⟨h1,h2⟩=>⟨xs,.of h1,h2⟩
   . have e:b=s1.heap.objs.size:=by simpa using hb
     subst e;exact I1.fpOk (η _) (I1.hok.fresh (η _))
 . exact q1.elim
noncomputable def J5 (lo:Int) (n:Nat):List V:=(List.range n).map fun (i:Nat)=>V.int (lo+i)
theorem Lw (lo:Int) (n:Nat):(J5 lo n).length=n:=by simp [J5]
theorem vN (lo:Int) (n i:Nat) (h:i<n):(J5 lo n)[i]?=some (.int (lo+i)):=by simp [J5,h]
def iR1 (ta:TA):TI:=fun U H R=>ta U H fun vs H1=>match vs with | [.int j]=>(-(2 ^ 62)<=j/\j<2 ^ 62)/\R (ItS (fun _=>True) (J5 0 j.toNat)) H1 | _=>False
theorem Mn (lo:Int) (n:Nat):(∀i (H:Hp),(ItS (fun _=>True) (J5 lo n)).go i H->(Itr lo n).go i H)/\(∀i H x H',(ItS (fun _=>True) (J5 lo n)).go i H->(Itr lo n).yld i H x H'->(ItS (fun _=>True) (J5 lo n)).yld i H x H') /\
  (∀i (H:Hp),(ItS (fun _=>True) (J5 lo n)).stop i H->(Itr lo n).stop i H):=by
 refine ⟨fun i H ⟨_,h⟩=>?_,fun i H x H' ⟨_,h⟩ ⟨e,y⟩=>⟨e,?_⟩,fun i H ⟨_,h⟩=>?_⟩
 . rw [Lw] at h;exact h
 . rw [Lw] at h;rw [y];exact vN lo n i h
 . rw [Lw] at h;exact h
end
def Ye (J:It) (g:TG) (tb:TS) (D:Ends) (U:St) (H1:Hp):Prop:=∃W:Nat->Nat->St->Hp->Prop,(∃m,W 0 m U H1)/\∀i m U H,W i m U H ->
 (J.stop i H/\D.nx U H)\/(J.go i H/\∃N:St->Hp->Prop,(∀σ' H',N σ' H'->∃m',m'<m/\W (i+1) m' σ' H')/\∀x H',J.yld i H x H'->g x U H' fun σ2 H2=>tb { D with nx:=N,ct:=N,bk:=D.nx } σ2 H2)
noncomputable def Og (wi:TI) (g:TG) (tb:TS):TS:=fun D U H=>wi U H fun J H1=>Ye J g tb D U H1
theorem vM (hp:PassesOwn (model X.prog X.w) X.A X.env X.xe) (hc:X.calm=true) (hi:PI X tg iter wi) (hg:PG X tg g) (hb:PSs X body tb)
 (hs:∀x,foldedSetIterable iter X.env x=pure x:=by intro _;rfl):PS X (.For tg iter body [] pos) (Og wi g tb):=kZ hp hc hi hg hb hs
def Stp (n i:Nat) (P:Prop):Prop:=∃m',m'<n - i/\m'=n - (i+1)/\i+1<=n/\P
theorem Same.upd_new (h:H a=none):Same H (upd H a o):=fun b u e=>by rw [m9 (E7 e h)];exact e
theorem Same.upd_at (s:Same H H1) (h:H a=none):Same H (upd H1 a o):=fun b u e=>by rw [m9 (E7 e h)];exact s b u e
section
variable {X:Cx} {tg:Expr} {a:Expr} {ta:TA} {p pos:Pos}
theorem Zw (hg:Gl X "range") (hm:X.mg "range"=none) (ha:PA X [a] ta) (hs:starEach [a] X.env=[(false,eval a X.env)]:=by rfl):PI X tg (.Call (.Name "range" p) [a] [] pos) (iR1 ta):=by
 intro pins s U H R I h;refine Call_ (T6 I hg hm boot_range (PyProof.Rows.callWith_type1 (thn (ha pos pins s U H _ I h) fun us s1 ⟨vs,H1,I1,r1,q1⟩=>?_) hs rfl));dsimp only at q1;split at q1
 . rename_i j;obtain ⟨⟨h1,h2⟩,q⟩:=q1;obtain ⟨u,rfl,t,rfl⟩:=A9 r1;refine call_range_1 (thn (xx (tg:=tg) (R:=fun J H1=>∃J',(∀i H,J'.go i H->J.go i H)/\(∀i H x H',J'.go i H->J.yld i H x H'->J'.yld i H x H')/\(∀i H,J'.stop i H->J.stop i H)/\R J' H1) I1 (by lia) (by lia) h1 h2 ?_) fun itv s2 h2=>?_)
   . refine ⟨_,(Mn 0 (j - 0).toNat).1,(Mn 0 (j - 0).toNat).2.1,(Mn 0 (j - 0).toNat).2.2,?_⟩;simpa using q
   . obtain ⟨it,fp,tn,J,H2,e,I2,T,st,hf,J',c1,c2,c3,r⟩:=h2;exact ⟨it,fp,tn,J',H2,e,I2,T.conv c1 c2 c3,st,hf,r⟩
 . exact q1.elim
end
def cB1:V->Hp->(List V->Hp->Prop)->Prop:=fun x H R=>R [x] H
def cBT (n:Nat):V->Hp->(List V->Hp->Prop)->Prop:=fun x H R=>match x with
 | .ref a=>(match H a with | some (.tup xs)=>xs.length=n/\R xs H | _=>False)
 | _=>False
section
variable {X:Cx} {sc:Scope} {caps:List Str} {ix:List Nat} {elt iter:Expr} {ifs:List Expr} {pos px py tpos:Pos} {tt:TT} {te:TE} {wi:TI} {x y:Str} {kt:Nat}
theorem Yd (x:V) (σt cs:St) (H:Hp) (Q:St->Hp->Prop) (hl:σt.length=1) (h:cB1 x H (fun vals H2=>Q (vals.map some++cs) H2)):B0 0 x (σt++cs) H fun σ2 H2=>(∃vals:List V,vals.length=1/\σ2=vals.map some++cs)/\Q σ2 H2:=by
 match σt,hl with
 | [t],_=>exact ⟨⟨[x],rfl,rfl⟩,h⟩
theorem Yc {K:Frag} (x:V) (σt cs:St) (H:Hp) (Q:St->Hp->Prop) (hl:σt.length=2) (h:cBT 2 x H (fun vals H2=>Q (vals.map some++cs) H2)) :
  Hg K 2 (Ct (B0 0) (Ct (B0 1) Hh)) x (σt++cs) H fun σ2 H2=>(∃vals:List V,vals.length=2/\σ2=vals.map some++cs)/\Q σ2 H2:=by
 cases x<;>first | exact h.elim | skip
 rename_i a
 unfold cBT at h
 dsimp only at h
 split at h
 . rename_i xs e;obtain ⟨hn,h⟩:=h
   match σt,hl,xs,hn with
   | [t,t'],_,[v,v'],_=>exact ⟨a,[v,v'],rfl,.of e,rfl,v,[v'],rfl,v',[],rfl,rfl,⟨[v,v'],rfl,rfl⟩,h⟩
 . exact h.elim
theorem Es (hN:(tgs++caps).Nodup) (hi:(tgs++caps)[i]?=some x) (hx:sc.names.lookup x=some .local) (fp:List Addr) (s:Shared) (H:Hp):PG (r6 X sc (tgs++caps) fp s H) (.Name x px) (B0 i):=
 Le (X:=r6 X sc (tgs++caps) fp s H) hN hi (.inl (lookup_relabel_local hx)) (.inr (lookup_relabel_local hx))
theorem xj (C:CompOk X sc caps ix) (hN:([x]++caps).Nodup) (hx:sc.names.lookup x=some .local) (hi:PI X (.Name x px) iter wi) (ht:∀fp s H,PTs (r6 X sc ([x]++caps) fp s H) ifs tt) (he:∀fp s H,PE (r6 X sc ([x]++caps) fp s H) elt te)
  (hs:∀x,foldedSetIterable iter X.env x=pure x:=by intro _;rfl):PE X (.ListComp elt [⟨.Name x px,iter,ifs,0⟩] sc pos) (O9 wi cB1 ix tt te):=
 Th (tgs:=[x]) C hi (fun fp s H=>Es hN rfl hx fp s H) Yd ht he hs
theorem xi {v:Str} {k:Nat} {spos pv:Pos} (hNX:X.N.Nodup) (hk:X.N[k]?=some v) (hv:X.env.scope.names.lookup v=some .local) (C:CompOk X sc caps ix) (hN:([x]++caps).Nodup) (hx:sc.names.lookup x=some .local) (hi:PI X (.Name x px) iter wi)
  (ht:∀fp s H,PTs (r6 X sc ([x]++caps) fp s H) ifs tt) (he:∀fp s H,PE (r6 X sc ([x]++caps) fp s H) elt te)
  (hsw:swapsWith (.ListComp elt [⟨.Name x px,iter,ifs,0⟩] sc pos) (some (.Name v pv)) spos.line X.env=pure true:=by rfl) (hs:∀x,foldedSetIterable iter X.env x=pure x:=by intro _;rfl) :
  PS X (.Assign [.Name v pv] (.ListComp elt [⟨.Name x px,iter,ifs,0⟩] sc pos) spos) (O2 (O9 wi cB1 ix tt te) (B0 k)):=
 Tf (tgs:=[x]) hNX hk hv C hi (fun fp s H=>Es hN rfl hx fp s H) Yd ht he hsw hs
theorem Of (hc:X.calm=true) (hN:([x,y]++caps).Nodup) (hx:sc.names.lookup x=some .local) (hy:sc.names.lookup y=some .local) (fp:List Addr) (s:Shared) (H:Hp) :
  PG (r6 X sc ([x,y]++caps) fp s H) (.Tuple [.Name x px,.Name y py] kt tpos) (Hg X.K 2 (Ct (B0 0) (Ct (B0 1) Hh))):=
 Qv (X:=r6 X sc ([x,y]++caps) fp s H) hc (Ly (Es hN rfl hx fp s H) (Ly (Es hN rfl hy fp s H) pgs_nil))
theorem xh (C:CompOk X sc caps ix) (hN:([x,y]++caps).Nodup) (hx:sc.names.lookup x=some .local) (hy:sc.names.lookup y=some .local) (hi:PI X (.Tuple [.Name x px,.Name y py] kt tpos) iter wi) (ht:∀fp s H,PTs (r6 X sc ([x,y]++caps) fp s H) ifs tt)
  (he:∀fp s H,PE (r6 X sc ([x,y]++caps) fp s H) elt te) (hs:∀x,foldedSetIterable iter X.env x=pure x:=by intro _;rfl):PE X (.ListComp elt [⟨.Tuple [.Name x px,.Name y py] kt tpos,iter,ifs,0⟩] sc pos) (O9 wi (cBT 2) ix tt te):=
 Th (tgs:=[x,y]) C hi (fun fp s H=>Of C.calm hN hx hy fp s H) Yc ht he hs
theorem xb {v:Str} {k:Nat} {spos pv:Pos} (hNX:X.N.Nodup) (hk:X.N[k]?=some v) (hv:X.env.scope.names.lookup v=some .local) (C:CompOk X sc caps ix) (hN:([x,y]++caps).Nodup) (hx:sc.names.lookup x=some .local) (hy:sc.names.lookup y=some .local)
  (hi:PI X (.Tuple [.Name x px,.Name y py] kt tpos) iter wi) (ht:∀fp s H,PTs (r6 X sc ([x,y]++caps) fp s H) ifs tt) (he:∀fp s H,PE (r6 X sc ([x,y]++caps) fp s H) elt te)
  (hsw:swapsWith (.ListComp elt [⟨.Tuple [.Name x px,.Name y py] kt tpos,iter,ifs,0⟩] sc pos) (some (.Name v pv)) spos.line X.env=pure true:=by rfl) (hs:∀x,foldedSetIterable iter X.env x=pure x:=by intro _;rfl) :
  PS X (.Assign [.Name v pv] (.ListComp elt [⟨.Tuple [.Name x px,.Name y py] kt tpos,iter,ifs,0⟩] sc pos) spos) (O2 (O9 wi (cBT 2) ix tt te) (B0 k)):=
 Tf (tgs:=[x,y]) hNX hk hv C hi (fun fp s H=>Of C.calm hN hx hy fp s H) Yc ht he hsw hs
noncomputable def Jc (n:Nat) (t:TGs):TG:=fun v U H Q=>match v with
 | .ref a=>(match H a with | some (.tup xs)=>xs.length=n/\t xs U H Q | _=>False)
 | _=>False
noncomputable def Qp (t:TG) (u:TGs):TGs:=fun vs U H Q=>match vs with | v::r=>t v U H fun σ' H'=>u r σ' H' Q | []=>False
noncomputable def Oe:TGs:=fun vs U H Q=>match vs with | []=>Q U H | _=>False
theorem PGs.imp (h:PGs X es t) (hi:∀vs U H Q,t' vs U H Q->t vs U H Q):PGs X es t':=fun pins s U H vs us Q I r q=>h pins s U H vs us Q I r (hi vs U H Q q)
theorem PG.imp (h:PG X e t) (hi:∀v U H Q,t' v U H Q->t v U H Q):PG X e t':=fun pins s U H v u Q I r q=>h pins s U H v u Q I r (hi v U H Q q)
theorem wZ:PGs X [] Oe:=pgs_nil.imp fun vs U H Q q=>by
 cases vs with
 | nil=>exact ⟨rfl,q⟩
 | cons _ _=>exact q.elim
theorem xY (h1:PG X e t) (h2:PGs X es u) (hs:(assignEach (e::es) X.env).map (·.2)=assign e X.env::(assignEach es X.env).map (·.2):=by rfl):PGs X (e::es) (Qp t u):=(Ly h1 h2 hs).imp fun vs U H Q q=>by
 cases vs with
 | nil=>exact q.elim
 | cons v r=>exact ⟨v,r,rfl,q⟩
theorem vL (hc:X.calm=true) (h:PGs X es t)
  (hn:(assignEach es X.env).length=n:=by rfl) (hst:(assignEach es X.env).findIdx? (·.1)=none:=by rfl):PG X (.Tuple es k pos) (Jc n t):=(Qv hc h hn hst).imp fun v U H Q q=>by
 cases v<;>first | exact q.elim | skip
 rename_i a
 unfold Jc at q
 dsimp only at q
 split at q
 . rename_i xs e;exact ⟨a,xs,rfl,.of e,q.1,q.2⟩
 . exact q.elim
end
theorem Yb (a:α) (r:List α):atI (a::r) 0=some a:=Dq (j:=0) rfl
theorem Xz (a b:α) (r:List α):atI (a::b::r) 1=some b:=Dq (j:=1) rfl
section
variable {prog:Program} {w:World} {A:Around} {E:Value->Shared->Prop} {s:Shared}
theorem Ue (hne:t≠it):∀(n i:Nat) (s:Shared) (Q:List Value->Shared->Prop),s.heap.IsListIter it t i->s.heap.IsList t items->i+n<=items.size ->
  (∀h',h'.IsListIter it t (i+n)->Heap.SameBut it s.heap h'->Q ((items.toList.drop i).take n) { s with heap:=h' })->wpAny (model prog w) A (draw (.ref it) n) Q E s
 | 0,i,s,Q,hit,_,_,k=>by show wpAny _ _ (pure []) Q E s;exact ω (by simpa using k s.heap hit (Heap.SameBut.refl ..))
 | n+1,i,s,Q,hit,ht,hle,k=>by
  have hlt:i<items.size:=by lia
  show wpAny _ _ (pyNext (.ref it) >>= _) Q E s;refine δ (wpAny_pyNext_list_item hit ht (x:=items[i]) (by simp [hlt]) fun g1 it1 sb1=>?_);refine δ (wpAny_holding (Ue hne n (i+1) _ _ it1 (ht.extBut sb1.extBut hne) (by lia) fun g2 it2 sb2=>ω ?_));have hd:items.toList.drop i=items[i]::items.toList.drop (i+1):=by simp [List.drop_eq_getElem_cons,hlt]
  have z:=k g2 (by rw [show i+(n+1)=i+1+n by lia];exact it2) (sb1.trans sb2);rw [hd,List.take_succ_cons] at z;exact z
theorem xX (hh:A.handled=none) (ht:s.heap.IsList t items)
  (k:∀h',(∀b o,s.heap.get? b=some o->h'.get? b=some o)->Q items.toList { s with heap:=h' }):wpAny (model prog w) A (unpackItems (.ref t) items.size none) Q E s:=by
 have hlt:t≠s.heap.objs.size:=by obtain ⟨o,ho,_⟩:=ht;exact Nat.ne_of_lt (π ho)
 have old:∀{b:Addr} {o:Obj},s.heap.get? b=some o->b≠s.heap.objs.size:=fun e=>Nat.ne_of_lt (π e)
 unfold unpackItems
 refine δ ?_
 . unfold notIterableAtAll;refine δ (wpAny_specialOf ht.typeIs slot_list_iter.lookup ?_);refine ω ?_;simp only [Bool.false_eq_true,if_false];refine δ (wpAny_holding (wpAny_pyIter_list ht ?_));refine δ (wpAny_holding (Ue hlt items.size 0 _ _ ⟨_,Ψ _ rfl,rfl,rfl⟩ (ht.push _) (by lia) fun g1 it1 sb1=>?_));have hall:List.take items.size (List.drop 0 items.toList)=items.toList:=by rw [List.drop_zero];exact List.take_of_length_le (by simp)
   rw [hall];rw [ξ (by simp)];have ht1:g1.IsList t items:=(ht.push _).extBut sb1.extBut hlt;refine δ (wpAny_holding (wpAny_pyNext_list_end hh it1 ht1 (by simp) fun g2 eb2=>?_));simp only [Option.isSome_none,Bool.false_eq_true,if_false];exact ω (k g2 fun b o e=>eb2 b o (old e) (sb1.extBut b o (old e) (τ _ e)))
theorem yB (hh:A.handled=none) (ht:s.heap.IsList t items)
  (hn:(assignEach elts env).length=items.size) (hstar:(assignEach elts env).findIdx? (·.1)=none)
  (h:∀h',(∀b o,s.heap.get? b=some o->h'.get? b=some o)->wpAny (model prog w) A (assignInOrder ((assignEach elts env).map (·.2)) items.toList) Q E { s with heap:=h' }) :
  wpAny (model prog w) A (assign (.Tuple elts x1 pos) env (.ref t)) Q E s:=by
 rw [assign_Tuple]
 refine δ (wpAny_standAt ?_)
 unfold unpack
 rw [hn,hstar]
 exact δ (wpAny_holding (xX hh ht h))
end
section
variable {X:Cx} {pos:Pos}
noncomputable def Cq (n:Nat) (t:TGs):TG:=fun v U H Q=>match v with
 | .ref a=>(match H a with
  | some (.tup xs)=>xs.length=n/\t xs U H Q
  | some (.lst xs)=>xs.length=n/\t xs U H Q
  | _=>False)
 | _=>False
theorem vK (hc:X.calm=true) (h:PGs X es t)
  (hn:(assignEach es X.env).length=n:=by rfl) (hst:(assignEach es X.env).findIdx? (·.1)=none:=by rfl):PG X (.Tuple es k pos) (Cq n t):=by
 intro pins s U H v u Q I r hw
 cases v<;>first | exact hw.elim | skip
 rename_i a
 unfold Cq at hw
 dsimp only at hw
 split at hw
 . rename_i xs e;exact vL hc h hn hst pins s U H (.ref a) u Q I r (by unfold Jc;dsimp only;rw [e];exact hw)
 . rename_i xs e;obtain ⟨hl,hw⟩:=hw;cases r;obtain ⟨its,rv,ht,hz⟩:=I.list (.of e);refine yB (I.ok.hd hc) ht.isList (by simp [hn,<-hl,rv.length]) hst fun h' hx=>?_
   exact h pins _ U H xs _ Q (I.kept (t':=s.toks) hx) (by simpa using rv) hw
 . exact hw.elim
def Er:List V->Hp->VK->Prop:=fun xs H Q=>match xs with
 | [x,.ty c]=>G7 c=true/\(match M4 H x with | some t=>Q (.bl (G0 t c)) H | none=>False)
 | _=>False
def Jb:List V->Hp->VK->Prop:=fun xs H Q=>match xs with
 | [.ref p]=>∃ns:List Int,E5 H p=some (ns.map V.int)/\Q (.int ns.sum) H
 | _=>False
def Ja:List V->Hp->VK->Prop:=fun xs H Q=>match xs with
 | [.ref p]=>∃bs:List Bool,Rd H p (.lst (bs.map V.bl))/\Q (.bl (bs.all id)) H
 | _=>False
def Od:List V->Hp->VK->Prop:=fun xs H Q=>match xs with | [.int i]=>Q (.int i) H | [.bl k]=>Q (.int (if k then 1 else 0)) H | _=>False
def Hz:List V->Hp->VK->Prop:=fun xs H Q=>match xs with | [.int i,.int j]=>Q (.int (if j > i then j else i)) H | _=>False
def Hy:List V->Hp->VK->Prop:=fun xs H Q=>match xs with | [.int i,.int j]=>Q (.int (if j<i then j else i)) H | _=>False
section
variable {H:Hp} {Q:VK} {p:Addr} {i j:Int} {x:V} {cs:String}
theorem kM:Er [x,.ty cs] H Q=(G7 cs=true/\(match M4 H x with | some t=>Q (.bl (G0 t cs)) H | none=>False)):=rfl
theorem Te:Jb [.ref p] H Q=∃ns:List Int,E5 H p=some (ns.map V.int)/\Q (.int ns.sum) H:=rfl
theorem vJ:Ja [.ref p] H Q=∃bs:List Bool,Rd H p (.lst (bs.map V.bl))/\Q (.bl (bs.all id)) H:=rfl
theorem vI:Hz [.int i,.int j] H Q=Q (.int (if j > i then j else i)) H:=rfl
theorem vH:Hy [.int i,.int j] H Q=Q (.int (if j<i then j else i)) H:=rfl
end
theorem Zv:CallR X (.builtin "isinstance") Er:=xm
theorem Oc (hc:X.calm=true):CallR X (.builtin "sum") Jb:=yb hc
theorem Zu (hc:X.calm=true):CallR X (.builtin "all") Ja:=ya hc
theorem Ob:CallR X (.type "int") Od:=xZ
theorem kL (hc:X.calm=true):CallR X (.builtin "max") Hz:=yD hc
theorem kK (hc:X.calm=true):CallR X (.builtin "min") Hy:=yC hc
end
inductive NK where
 | i (n:Int)
 | t (ks:List NK)
noncomputable instance:DecidableEq NK:=fun a b=>Classical.propDecidable (a=b)
mutual
noncomputable def NK.dep:NK->Nat
 | .i _=>0
 | .t ks=>K0 ks+1
noncomputable def K0:List NK->Nat
 | []=>0
 | k::ks=>max k.dep (K0 ks)
end
mutual
noncomputable def NK.hs:NK->Int
 | .i n=>hashInt n
 | .t ks=>reduceHash (Builtin.Tuple.tupleHashOf (Cd ks))
noncomputable def Cd:List NK->List Int
 | []=>[]
 | k::ks=>k.hs::Cd ks
end
mutual
noncomputable def NK.dr:NK->Nat
 | .i _=>1
 | .t ks=>Ep ks+1
noncomputable def Ep:List NK->Nat
 | []=>0
 | k::ks=>k.dr+Ep ks
end
mutual
def NKv (h:Heap):NK->Value->Prop
 | .i n,v=>∃t,v=.int n t
 | .t ks,v=>∃a its,v=.ref a/\h.IsTuple a its/\NKvs h ks its.toList
def NKvs (h:Heap):List NK->List Value->Prop
 | [],vs=>vs=[]
 | k::ks,vs=>∃v r,vs=v::r/\NKv h k v/\NKvs h ks r
end
theorem NKvs.len:∀{ks:List NK} {vs:List Value},NKvs h ks vs->ks.length=vs.length
 | [],_,q=>by simp only [NKvs] at q;rw [q];rfl
 | k::ks,_,q=>by simp only [NKvs] at q;obtain ⟨v,r,rfl,_,q⟩:=q;simp only [List.length_cons,NKvs.len q]
theorem Mi {h:Heap} {a:Addr} {x y:Array Value} (p:h.IsTuple a x) (q:h.IsTuple a y):x=y:=by obtain ⟨o,e,c,n,d⟩:=p;obtain ⟨o',e',c',n',d'⟩:=q;rw [e] at e';cases e';rw [d] at d';cases d';rfl
mutual
theorem NKv.inj:∀{k j:NK} {v:Value},NKv h k v->NKv h j v->k=j
 | .i n,.i m,v,p,q=>by simp only [NKv] at p q;obtain ⟨t,rfl⟩:=p;obtain ⟨t',e⟩:=q;cases e;rfl
 | .i n,.t ks,v,p,q=>by simp only [NKv] at p q;obtain ⟨t,rfl⟩:=p;obtain ⟨_,_,e,_⟩:=q;cases e
 | .t ks,.i m,v,p,q=>by simp only [NKv] at p q;obtain ⟨t,rfl⟩:=q;obtain ⟨_,_,e,_⟩:=p;cases e
 | .t ks,.t js,v,p,q=>by simp only [NKv] at p q;obtain ⟨a,its,rfl,p1,p2⟩:=p;obtain ⟨b,its',e,q1,q2⟩:=q;cases e;cases Mi p1 q1;rw [NKvs.inj p2 q2]
theorem NKvs.inj:∀{ks js:List NK} {vs:List Value},NKvs h ks vs->NKvs h js vs->ks=js
 | [],[],_,_,_=>rfl
 | [],j::js,_,p,q=>by simp only [NKvs] at p q;subst p;obtain ⟨_,_,e,_⟩:=q;cases e
 | k::ks,[],_,p,q=>by simp only [NKvs] at p q;subst q;obtain ⟨_,_,e,_⟩:=p;cases e
 | k::ks,j::js,_,p,q=>by simp only [NKvs] at p q;obtain ⟨v,r,rfl,p1,p2⟩:=p;obtain ⟨_,_,e,q1,q2⟩:=q;cases e;rw [NKv.inj p1 q1,NKvs.inj p2 q2]
end
mutual
theorem NKv.stay (st:∀a its,h.IsTuple a its->h'.IsTuple a its):∀{k:NK} {v:Value},NKv h k v->NKv h' k v
 | .i n,v,p=>by simp only [NKv] at p ⊢;exact p
 | .t ks,v,p=>by simp only [NKv] at p ⊢;obtain ⟨a,its,e,p1,p2⟩:=p;exact ⟨a,its,e,st _ _ p1,NKvs.stay st p2⟩
theorem NKvs.stay (st:∀a its,h.IsTuple a its->h'.IsTuple a its):∀{ks:List NK} {vs:List Value},NKvs h ks vs->NKvs h' ks vs
 | [],_,p=>by simp only [NKvs] at p ⊢;exact p
 | k::ks,_,p=>by simp only [NKvs] at p ⊢;obtain ⟨v,r,e,p1,p2⟩:=p;exact ⟨v,r,e,NKv.stay st p1,NKvs.stay st p2⟩
end
section
variable {prog:Program} {w:World}
theorem Td:∀(m:Nat) {k:NK} {v:Value} {A:Around} {E:Value->Shared->Prop} {s:Shared} {Q:Int->Shared->Prop},k.dep<=m->A.units+m<cLine->NKv s.heap k v->Q k.hs { s with toks:=s.toks+k.dr }->wpAny (model prog w) A (pyHash v) Q E s
 | m,.i n,v,A,E,s,Q,hd,hu,p,q=>by simp only [NKv] at p;obtain ⟨t,rfl⟩:=p;exact wpAny_pyHash_int q
 | 0,.t ks,v,A,E,s,Q,hd,hu,p,q=>by simp only [NK.dep] at hd;lia
 | m+1,.t ks,v,A,E,s,Q,hd,hu,p,q=>by
  simp only [NKv] at p;obtain ⟨a,its,rfl,⟨o,e,c,n,d⟩,p2⟩:=p;simp only [NK.dep] at hd;show wpAny (model prog w) A (pyHashByItsType (.ref a)) Q E s;refine W.pyHash_slot (T:="tuple") ⟨o,e,c⟩ F.slot_tuple_hash F.entry_tuple_hash (F.args_tuple_hash_1 _) rfl (.inr (by lia)) ?_;refine δ (wpAny_of_eq (show slotArgs "__hash__" 0 ⟨[.ref a],[]⟩=pure (.ref a,[]) from rfl) ?_);show wpAny (model prog w) A.in1 (Builtin.Tuple.tupleItemsOf (.ref a) >>= _) _ _ s;refine δ (wpAny_tupleItemsOf e d ?_);refine δ ?_;have go:∀(ks:List NK) (vs:List Value) (b:Array Int) (s':Shared) (Q':Array Int->Shared->Prop),K0 ks<=m->NKvs s'.heap ks vs->(∀b':Array Int,b'.toList=b.toList++Cd ks->Q' b' { s' with toks:=s'.toks+Ep ks }) ->
    wpAny (model prog w) A.in1 (forIn vs b fun x r=>do
     let h <-pyHash x
     pure (ForInStep.yield (r.push h))) Q' E s':=by
   intro ks
   induction ks with
   | nil=>
    intro vs b s' Q' _ p hq
    simp only [NKvs] at p;subst p
    exact ω (hq b (by simp [Cd]))
   | cons k ks ih=>
    intro vs b s' Q' hd p hq
    simp only [NKvs] at p
    obtain ⟨v,r,rfl,p1,p2⟩:=p
    simp only [K0] at hd
    rw [List.forIn_cons]
    refine δ (δ (Td m (by lia) (by show A.units+1+m<cLine;lia) p1 ?_))
    refine ω ?_
    refine ih r (b.push k.hs) _ Q' (by lia) p2 fun b' hb'=>?_
    have:=hq b' (by rw [hb'];simp [Cd])
    simpa only [Ep,Nat.add_assoc] using this
  rw [<-Array.forIn_toList];refine go ks its.toList #[] s _ (by lia) p2 fun b' hb'=>?_
  show wpAny (model prog w) A.in1 (retInt (Builtin.Tuple.tupleHashOf b'.toList)) _ _ _;refine wpAny_mono (wpAny_ret_mkInt (Q:=fun v s'=>∃n t,v=Value.int n t/\Q (reduceHash n) s') ⟨_,_,rfl,?_⟩) (fun fin s' h=>?_) fun _ _ h=>h
  . rw [hb'];simpa only [NK.hs,NK.dr,Nat.add_assoc,List.nil_append] using q
  . obtain ⟨v,rfl,n,t,rfl,hq⟩:=h;exact ⟨n,t,rfl,hq⟩
theorem Oa:∀(m:Nat) {k j:NK} {u v:Value} {A:Around},k.dep<=m->A.units+m<cLine->NKv s.heap k u->NKv s.heap j v->SeqAt.EqAt A s u v (decide (k=j))
 | m,.i n,.i n',u,v,A,hd,hu,p,q=>by
  simp only [NKv] at p q;obtain ⟨t,rfl⟩:=p;obtain ⟨t',rfl⟩:=q;have:decide (NK.i n=NK.i n')=(n==n'):=by
   by_cases h:n=n'
   . rw [h];simp
   . rw [decide_eq_false (fun e=>h (NK.i.inj e))];simp [h]
  rw [this];exact .int_int _ _ _ _
 | m,.i n,.t js,u,v,A,hd,hu,p,q=>by simp only [NKv] at p q;obtain ⟨t,rfl⟩:=p;obtain ⟨a,its,rfl,q1,_⟩:=q;rw [decide_eq_false (fun e=>by cases e)];exact .int_tuple _ _ q1 (by lia)
 | m,.t ks,.i n',u,v,A,hd,hu,p,q=>by simp only [NKv] at p q;obtain ⟨t,rfl⟩:=q;obtain ⟨a,its,rfl,q1,_⟩:=p;rw [decide_eq_false (fun e=>by cases e)];exact .tuple_int _ _ q1 (by lia)
 | 0,.t ks,.t js,u,v,A,hd,hu,p,q=>by simp only [NK.dep] at hd;lia
 | m+1,.t ks,.t js,u,v,A,hd,hu,p,q=>by
  have p0:=p;have q0:=q;simp only [NKv] at p q;obtain ⟨a,its,rfl,p1,p2⟩:=p;obtain ⟨b,its2,rfl,q1,q2⟩:=q;simp only [NK.dep] at hd;by_cases hab:a=b
  . subst hab;rw [decide_eq_true (NKv.inj p0 q0)];exact .same _
  . have l1:=p2.len;have l2:=q2.len;simp only [Array.length_toList] at l1 l2;have at':∀(ks:List NK) (vs:List Value),NKvs s.heap ks vs->∀j v,vs[j]?=some v->NKv s.heap (ks.getD j (.i 0)) v/\(ks.getD j (.i 0)).dep<=K0 ks:=by
     intro ks;induction ks with
     | nil=>intro vs p j v e;simp only [NKvs] at p;subst p;simp at e
     | cons k ks ih=>
      intro vs p j v e
      simp only [NKvs] at p
      obtain ⟨v0,r,rfl,r1,r2⟩:=p
      cases j with
      | zero=>simp at e;subst e;exact ⟨r1,by simp only [List.getD_cons_zero,K0];lia⟩
      | succ j=>
       simp only [List.getElem?_cons_succ] at e
       obtain ⟨x1,x2⟩:=ih r r2 j v e
       exact ⟨x1,by simp only [List.getD_cons_succ,K0];lia⟩
    have q:=SeqAt.RcAt.tuples (A:=A) p1 q1 (by lia) (e:=fun j=>decide (ks.getD j (.i 0)=js.getD j (.i 0))) fun j h1 h2=>by obtain ⟨x1,x2⟩:=at' ks _ p2 j its[j] (by simp [h1]);obtain ⟨y1,y2⟩:=at' js _ q2 j its2[j] (by simp [h2]);exact Oa m (by lia) (by show A.units+1+m<cLine;lia) x1 y1
    have eb:((List.range (min its.size its2.size)).all (fun j=>decide (ks.getD j (.i 0)=js.getD j (.i 0)))&&its.size==its2.size)=decide (NK.t ks=NK.t js):=by
     rw [Bool.eq_iff_iff,Bool.and_eq_true,List.all_eq_true,decide_eq_true_eq,beq_iff_eq];constructor
     . rintro ⟨h1,h2⟩;congr 1;refine List.ext_getElem (by lia) fun j hj hj'=>?_
       have:=h1 j (List.mem_range.mpr (by lia));rw [decide_eq_true_eq,List.getD_eq_getElem?_getD,List.getD_eq_getElem?_getD,List.getElem?_eq_getElem hj,List.getElem?_eq_getElem hj'] at this;exact this
     . intro e;cases e;exact ⟨fun j _=>decide_eq_true rfl,by lia⟩
    rw [eb] at q;exact .of_refs hab q
end
section
variable {prog:Program} {w:World}
theorem Ud:∀(m:Nat) {k:NK} {v:Value} {Q:Bool->Shared->Prop},k.dep<=m->NKv s.heap k v->Q true s->wpAny (model prog w) A (eqIsQuiet m v) Q E s
 | m,.i n,v,Q,hd,p,q=>by simp only [NKv] at p;obtain ⟨t,rfl⟩:=p;rw [eqIsQuiet.eq_3 _ _ (fun a e=>by cases e)];exact ω q
 | 0,.t ks,v,Q,hd,p,q=>by simp only [NK.dep] at hd;lia
 | m+1,.t ks,v,Q,hd,p,q=>by
  simp only [NKv] at p;obtain ⟨a,its,rfl,⟨o,e,c,n,d⟩,p2⟩:=p;simp only [NK.dep] at hd;rw [eqIsQuiet.eq_2];refine δ (wpAny_specialOf (T:="tuple") ⟨o,e,c⟩ F.slot_tuple_eq.lookup ?_);show wpAny (model prog w) A (isInstance (.ref a) (.type "tuple") >>= _) _ _ s;refine δ (wpAny_isInstance (T:="tuple") (b:=true) ⟨o,e,c⟩ (by rfl) ?_);show wpAny (model prog w) A (seqItems? (.ref a) >>= _) _ _ s;refine δ (wpAny_seqItems e d ?_);refine δ ?_;have go:∀(ks:List NK) (vs:List Value) (Q':Option Bool×Unit->Shared->Prop),K0 ks<=m->NKvs s.heap ks vs->Q' (none,()) s ->
    wpAny (model prog w) A (forIn vs ((none,()):Option Bool×Unit) fun y __s=>do
     let __do_lift <-eqIsQuiet m y
     if (!__do_lift)=true then pure (ForInStep.done (some false,()))
      else pure (ForInStep.yield (none,()))) Q' E s:=by
   intro ks
   induction ks with
   | nil=>
    intro vs Q' _ p hq
    simp only [NKvs] at p;subst p
    exact ω hq
   | cons k ks ih=>
    intro vs Q' hd p hq
    simp only [NKvs] at p
    obtain ⟨v,r,rfl,p1,p2⟩:=p
    simp only [K0] at hd
    rw [List.forIn_cons]
    refine δ (δ (Ud m (by lia) p1 ?_))
    refine ω ?_
    exact ih r Q' (by lia) p2 hq
  show wpAny (model prog w) A (forIn its ((none,()):Option Bool×Unit) _) _ _ s;rw [<-Array.forIn_toList];refine go ks its.toList _ (by lia) p2 ?_;exact ω q
end
def dnE (x:NK×Addr×Value):DictEntry:={ hash:=x.1.hs,key:=.ref x.2.1,val:=x.2.2 }
def dnP (a:Addr) (ks:List (NK×Addr)) (xs:List V) (o:Obj) (h:Heap):Prop:=
 h.get? a=some o/\∃(vs:List Value) (es:Array DictEntry) (ep:Nat),Vals xs vs/\ks.length=vs.length/\o.ExactDict/\o.data=.dict es ep/\es.toList=((ks.zip vs).map fun q=>(q.1.1,q.1.2,q.2)).map dnE
def tkH (hf:Str->Int) (k:Str×NK):Int:=reduceHash (Builtin.Tuple.tupleHashOf [hf k.1,k.2.hs])
def dpE (hf:Str->Int) (x:(Str×NK)×Addr×Value):DictEntry:={ hash:=tkH hf x.1,key:=.ref x.2.1,val:=x.2.2 }
def dpP (hf:Str->Int) (a:Addr) (ks:List ((Str×NK)×Addr)) (xs:List V) (o:Obj) (h:Heap):Prop:=
 h.get? a=some o/\∃(vs:List Value) (es:Array DictEntry) (ep:Nat),Vals xs vs/\ks.length=vs.length/\o.ExactDict/\o.data=.dict es ep/\es.toList=((ks.zip vs).map fun q=>(q.1.1,q.1.2,q.2)).map (dpE hf)
theorem dpP.stay:∀h1 h2:Heap,dpP hf a ks xs o h1->(∀o,h1.get? a=some o->h2.get? a=some o)->dpP hf a ks xs o h2:=fun _ _ p k=>⟨k _ p.1,p.2⟩
mutual
def NKr (H:Hp):NK->V->Prop
 | .i n,v=>v=.int n
 | .t ks,v=>∃a ys,v=.ref a/\H a=some (.tup ys)/\NKrs H ks ys
def NKrs (H:Hp):List NK->List V->Prop
 | [],vs=>vs=[]
 | k::ks,vs=>∃v r,vs=v::r/\NKr H k v/\NKrs H ks r
end
mutual
theorem NKr.mono (st:∀a ys,H a=some (.tup ys)->H' a=some (.tup ys)):∀{k:NK} {v:V},NKr H k v->NKr H' k v
 | .i n,v,p=>by simp only [NKr] at p ⊢;exact p
 | .t ks,v,p=>by simp only [NKr] at p ⊢;obtain ⟨a,ys,e,p1,p2⟩:=p;exact ⟨a,ys,e,st _ _ p1,NKrs.mono st p2⟩
theorem NKrs.mono (st:∀a ys,H a=some (.tup ys)->H' a=some (.tup ys)):∀{ks:List NK} {vs:List V},NKrs H ks vs->NKrs H' ks vs
 | [],_,p=>by simp only [NKrs] at p ⊢;exact p
 | k::ks,_,p=>by simp only [NKrs] at p ⊢;obtain ⟨v,r,e,p1,p2⟩:=p;exact ⟨v,r,e,NKr.mono st p1,NKrs.mono st p2⟩
end
section
variable {X:Cx} {pins:List (Addr×Obj)} {U:St} {H:Hp} {s:Shared}
mutual
theorem Nz (I:Inv X pins U H s):∀{k:NK} {x:V} {u:Value},NKr H k x->RelV x u->NKv s.heap k u
 | .i n,x,u,p,r=>by simp only [NKr] at p;subst p;obtain ⟨t,rfl⟩:=r;simp only [NKv];exact ⟨t,rfl⟩
 | .t ks,x,u,p,r=>by simp only [NKr] at p;obtain ⟨a,ys,rfl,p1,p2⟩:=p;cases r;obtain ⟨its,r1,t1,_⟩:=I.tuple (.of p1);simp only [NKv];exact ⟨a,its.toArray,rfl,t1,Qo I p2 r1⟩
theorem Qo (I:Inv X pins U H s):∀{ks:List NK} {xs:List V} {us:List Value},NKrs H ks xs->Vals xs us->NKvs s.heap ks us
 | [],_,_,p,r=>by simp only [NKrs] at p;subst p;cases r;simp only [NKvs]
 | k::ks,_,_,p,r=>by
  simp only [NKrs] at p;obtain ⟨v,q,rfl,p1,p2⟩:=p;cases r with
  | cons a1 a2=>
   simp only [NKvs]
   exact ⟨_,_,rfl,Nz I p1 a1,Qo I p2 a2⟩
end
end
def KL (K:Frag) (a:Addr) (xs:List V):Prop:=∃(o:Obj) (its:Array Value) (n:Nat),K.lookup a=some o/\o.cls=.type "list"/\o.dict=none/\o.data=.seq its n/\its.size<=sizeLine/\Vals xs its.toList
def XO (K:Frag) (c:String) (a:Addr) (od:Option Addr) (o:HO):Prop:=∃C:Addr,nsIn K mainGlobals (c:Str)=some (some (.ref C))/\o=.ext fun h=>∃ob,h.get? a=some ob/\ob.cls=.ref C/\(∃vs,ob.data=.fields vs)/\ob.dict=od
noncomputable def v6 (c:String):List Str:=if c="Fallen" then ["corner"] else if c="Crossed" then ["one","other"] else if c="NotFull" then ["line"] else if c="TurnLine" then ["line"] else if c="Spin" then ["by"] else []
inductive D where
 | non | bl (b:Bool) | int (i:Int) | str (x:Str) | tup (ds:List D) | lst (ds:List D)
 | dk (ks:List Key) (ds:List D) | dt (ks:List (List Key)) (ds:List D) | dn (ks:List NK) (ds:List D) | scr (ns:List Int) | exc (c:String) (fs:List D)
 | obj (c:String) (fs:List D) | dp (hf:Str->Int) (n:Nat)
def DN (H:Hp) (a:Addr) (qs:List (NK×Addr)):Prop:=(qs.map (·.1)).Nodup/\(∀q∈qs,NKr H q.1 (.ref q.2)/\q.1.dep<=8)/\(a==sysModules)=false/\qs.length<=sizeLine
theorem DN.tk (h:DN H a qs) (st:∀a ys,H a=some (.tup ys)->H' a=some (.tup ys)):DN H' a qs:=
 ⟨h.1,fun q hq=>⟨NKr.mono st (h.2.1 q hq).1,(h.2.1 q hq).2⟩,h.2.2⟩
def TKr (H:Hp) (k:Str×NK) (v:V):Prop:=∃a y,v=.ref a/\H a=some (.tup [.str k.1,y])/\NKr H k.2 y
noncomputable def pdO (k:Str×NK):Option (String×List NK):=if k.1="turn" then some ("TurnLine",[k.2]) else if k.1="spin" then some ("Spin",[k.2]) else if k.1="mirror" then some ("Mirror",[]) else none
def PoR (K:Frag) (H:Hp) (k:Str×NK) (x:V):Prop:=∃c ns b C dx ys,pdO k=some (c,ns)/\x=.ref b/\nsIn K mainGlobals (c:Str)=some (some (.ref C))/\H b=some (.ins C dx ((v6 c).zip ys))/\ys.length=(v6 c).length/\NKrs H ns ys
def DP (K:Frag) (H:Hp) (a:Addr) (qs:List ((Str×NK)×Addr)) (xs:List V):Prop:=(qs.map (·.1)).Nodup/\(∀q∈qs,TKr H q.1 (.ref q.2)/\q.1.2.dep<=7)/\(a==sysModules)=false/\qs.length=xs.length/\∀p∈qs.zip xs,PoR K H p.1.1 p.2
mutual
noncomputable def D.noL:D->Bool
 | .lst _=>false
 | .dk _ _=>false
 | .dt _ _=>false
 | .dn _ _=>false
 | .dp _ _=>false
 | .tup ds=>i9 ds
 | _=>true
noncomputable def i9:List D->Bool
 | []=>true
 | d::ds=>d.noL&&i9 ds
end
mutual
noncomputable def D.pl:D->Bool
 | .dk _ _=>false
 | .dt _ _=>false
 | .dn _ _=>false
 | .dp _ _=>false
 | .scr _=>false
 | .exc _ _=>false
 | .obj _ _=>false
 | .tup ds=>pls ds
 | .lst ds=>pls ds
 | _=>true
noncomputable def pls:List D->Bool
 | []=>true
 | d::ds=>d.pl&&pls ds
end
mutual
def RD (K:Frag) (H:Hp):D->V->Prop
 | .non,v=>v=.non
 | .bl b,v=>v=.bl b
 | .int i,v=>v=.int i
 | .str x,v=>v=.str x
 | .tup ds,v=>∃a xs,v=.ref a/\H a=some (.tup xs)/\RDs K H ds xs
 | .lst ds,v=>∃a xs,v=.ref a/\H a=some (.lst xs)/\RDs K H ds xs
 | .dk ks ds,v=>∃a xs,v=.ref a/\H a=some (.dK (ks.zip xs))/\ks.length=xs.length/\RDs K H ds xs
 | .dt ks ds,v=>∃a xs,v=.ref a/\H a=some (.dT (ks.zip xs))/\ks.length=xs.length/\RDs K H ds xs
 | .dn ks ds,v=>∃a qs xs o,v=.ref a/\H a=some (.ext (dnP a qs xs o))/\qs.map (·.1)=ks/\DN H a qs/\RDs K H ds xs
 | .scr ns,v=>∃a,v=.ref a/\((∃o,H a=some (.frz o (.lst (ns.map V.int))))\/KL K a (ns.map V.int))
 | .exc c fs,v=>∃a od o,v=.ref a/\XO K c a od o/\H a=some o/\(fs=[]\/∃(dx:Addr) (vs:List V) (ob:Obj),od=some dx/\H dx=some (.frz ob (.xd ((v6 c).zip vs)))/\(i9 fs=true/\pls fs=true)/\RDs K H fs vs)
 | .obj c fs,v=>∃a C dx vs,v=.ref a/\nsIn K mainGlobals (c:Str)=some (some (.ref C))/\H a=some (.ins C dx ((v6 c).zip vs))/\vs.length=(v6 c).length/\(i9 fs=true/\pls fs=true)/\RDs K H fs vs
 | .dp hf n,v=>∃a qs xs o,v=.ref a/\H a=some (.ext (dpP hf a qs xs o))/\DP K H a qs xs/\qs.length<=n
def RDs (K:Frag) (H:Hp):List D->List V->Prop
 | [],xs=>xs=[]
 | d::ds,xs=>∃x r,xs=x::r/\RD K H d x/\RDs K H ds r
end
def D.shal:D->Bool
 | .lst ds=>i9 ds
 | .dk _ ds=>i9 ds
 | .dt _ ds=>i9 ds
 | .dn _ ds=>i9 ds
 | .dp _ _=>true
 | d=>d.noL
def Imm:HO->Prop
 | .tup _=>True
 | .frz _ _=>True
 | .ins _ _ _=>True
 | .ext φ=>(∀a qs xs o,φ≠dnP a qs xs o)/\∀hf a qs xs o,φ≠dpP hf a qs xs o
 | _=>False
theorem XO.imm {K:Frag} {c:String} {a:Addr} {od:Option Addr} {o:HO} (h:XO K c a od o):Imm o:=by
 obtain ⟨C,_,rfl⟩:=h
 suffices hz:∀(b:Addr) (o0:Obj) (P:Heap->Prop),((fun h:Heap=>∃ob,h.get? a=some ob/\ob.cls=.ref C/\(∃vs,ob.data=.fields vs)/\ob.dict=od)=P)->(∀h,P h->h.get? b=some o0/\∃es ep,o0.data=.dict es ep)->False from
  ⟨fun b qs xs o0 e=>hz b o0 _ e fun h p=>by obtain ⟨g,vs,es,ep,_,_,_,d,_⟩:=p;exact ⟨g,es,ep,d⟩,fun hf b qs xs o0 e=>hz b o0 _ e fun h p=>by obtain ⟨g,vs,es,ep,_,_,_,d,_⟩:=p;exact ⟨g,es,ep,d⟩⟩
 intro b o0 P e hP;obtain ⟨ob,hob⟩:∃ob:Obj,ob={ cls:=.ref C,dict:=od,data:=.fields #[] }:=⟨_,rfl⟩;have hg:∀(i:Nat) (o:Obj),({ objs:=Array.replicate (a+1) ob }:Heap).get? i=some o->o=ob:=fun i o q=>by
  by_cases hi:i<a+1
  . have z:({ objs:=Array.replicate (a+1) ob }:Heap).get? i=some ob:=by
     unfold Heap.get?
     rw [Array.getElem?_replicate,ζ hi,hob]
    rw [z] at q;cases q;rfl
  . unfold Heap.get? at q;rw [Array.getElem?_replicate,ξ hi] at q;cases q
 have h1:(fun h:Heap=>∃ob,h.get? a=some ob/\ob.cls=.ref C/\(∃vs,ob.data=.fields vs)/\ob.dict=od) { objs:=Array.replicate (a+1) ob }:=by refine ⟨ob,?_,by rw [hob],⟨#[],by rw [hob]⟩,by rw [hob]⟩;unfold Heap.get?;rw [Array.getElem?_replicate,ζ (Nat.lt_succ_self a),hob]
 rw [e] at h1;obtain ⟨g,es,ep,d⟩:=hP _ h1;rw [hg _ _ g,hob] at d;cases d
def TK (H H':Hp):Prop:=∀a o,Imm o->H a=some o->H' a=some o
theorem Same.tk (h:Same H H'):TK H H':=fun a o _ e=>h a o e
theorem TKr.tk (st:∀a ys,H a=some (.tup ys)->H' a=some (.tup ys)) (h:TKr H k v):TKr H' k v:=by obtain ⟨a,y,e,h1,h2⟩:=h;exact ⟨a,y,e,st _ _ h1,NKr.mono st h2⟩
theorem PoR.tk {K:Frag} {H H':Hp} (st:TK H H') {k:Str×NK} {x:V} (h:PoR K H k x):PoR K H' k x:=by obtain ⟨c,ns,b,C,dx,ys,h1,h2,h3,h4,h5,h6⟩:=h;exact ⟨c,ns,b,C,dx,ys,h1,h2,h3,st _ _ trivial h4,h5,NKrs.mono (fun a ys q=>st _ _ trivial q) h6⟩
theorem DP.tk {K:Frag} {H H':Hp} {a:Addr} {qs:List ((Str×NK)×Addr)} {xs:List V} (st:TK H H') (h:DP K H a qs xs):DP K H' a qs xs:=
 ⟨h.1,fun q hq=>⟨(h.2.1 q hq).1.tk fun a ys q=>st _ _ trivial q,(h.2.1 q hq).2⟩,h.2.2.1,h.2.2.2.1,fun p hp=>(h.2.2.2.2 p hp).tk st⟩
section
variable {K:Frag} {H H':Hp}
mutual
theorem RD.tk (hs:TK H H'):∀{d:D} {v:V},d.noL=true->RD K H d v->RD K H' d v
 | .non,_,_,h=>by simp only [RD] at h ⊢;exact h
 | .bl _,_,_,h=>by simp only [RD] at h ⊢;exact h
 | .int _,_,_,h=>by simp only [RD] at h ⊢;exact h
 | .str _,_,_,h=>by simp only [RD] at h ⊢;exact h
 | .tup ds,_,n,h=>by simp only [RD] at h ⊢;obtain ⟨a,xs,e,h1,h2⟩:=h;exact ⟨a,xs,e,hs _ _ trivial h1,RDs.tk hs (by simpa only [D.noL] using n) h2⟩
 | .lst ds,_,n,h=>by simp [D.noL] at n
 | .dk _ ds,_,n,h=>by simp [D.noL] at n
 | .dt _ ds,_,n,h=>by simp [D.noL] at n
 | .dn _ ds,_,n,h=>by simp [D.noL] at n
 | .dp _ _,_,n,h=>by simp [D.noL] at n
 | .obj c fs,_,n,h=>by simp only [RD] at h ⊢;obtain ⟨a,C,dx,vs,e,h1,h2,h3,h4,h5⟩:=h;exact ⟨a,C,dx,vs,e,h1,hs _ _ trivial h2,h3,h4,RDs.tk hs h4.1 h5⟩
 | .exc c fs,_,n,h=>by
  simp only [RD] at h ⊢;obtain ⟨a,od,o,e,h1,h2,h3⟩:=h;refine ⟨a,od,o,e,h1,hs _ _ h1.imm h2,?_⟩;rcases h3 with h3 | ⟨dx,xs,ob,q1,q2,q3,q4⟩
  . exact .inl h3
  . exact .inr ⟨dx,xs,ob,q1,hs _ _ trivial q2,q3,RDs.tk hs q3.1 q4⟩
 | .scr ns,_,n,h=>by
  simp only [RD] at h ⊢;obtain ⟨a,e,h1⟩:=h;refine ⟨a,e,?_⟩;rcases h1 with ⟨o,h1⟩ | h1
  . exact .inl ⟨o,hs _ _ trivial h1⟩
  . exact .inr h1
theorem RDs.tk (hs:TK H H'):∀{ds:List D} {xs:List V},i9 ds=true->RDs K H ds xs->RDs K H' ds xs
 | [],_,_,h=>by simp only [RDs] at h ⊢;exact h
 | d::ds,_,n,h=>by simp only [RDs] at h ⊢;simp only [i9,Bool.and_eq_true] at n;obtain ⟨x,r,e,h1,h2⟩:=h;exact ⟨x,r,e,RD.tk hs n.1 h1,RDs.tk hs n.2 h2⟩
end
mutual
theorem RD.mono (hs:Same H H'):∀{d:D} {v:V},RD K H d v->RD K H' d v
 | .non,_,h=>by simp only [RD] at h ⊢;exact h
 | .bl _,_,h=>by simp only [RD] at h ⊢;exact h
 | .int _,_,h=>by simp only [RD] at h ⊢;exact h
 | .str _,_,h=>by simp only [RD] at h ⊢;exact h
 | .tup ds,_,h=>by simp only [RD] at h ⊢;obtain ⟨a,xs,e,h1,h2⟩:=h;exact ⟨a,xs,e,hs _ _ h1,RDs.mono hs h2⟩
 | .lst ds,_,h=>by simp only [RD] at h ⊢;obtain ⟨a,xs,e,h1,h2⟩:=h;exact ⟨a,xs,e,hs _ _ h1,RDs.mono hs h2⟩
 | .dk _ ds,_,h=>by simp only [RD] at h ⊢;obtain ⟨a,xs,e,h1,hl,h2⟩:=h;exact ⟨a,xs,e,hs _ _ h1,hl,RDs.mono hs h2⟩
 | .dn _ ds,_,h=>by simp only [RD] at h ⊢;obtain ⟨a,qs,xs,o,e,h1,hk,hd,h2⟩:=h;exact ⟨a,qs,xs,o,e,hs _ _ h1,hk,hd.tk fun b ys q=>hs _ _ q,RDs.mono hs h2⟩
 | .dt _ ds,_,h=>by simp only [RD] at h ⊢;obtain ⟨a,xs,e,h1,hl,h2⟩:=h;exact ⟨a,xs,e,hs _ _ h1,hl,RDs.mono hs h2⟩
 | .dp _ _,_,h=>by simp only [RD] at h ⊢;obtain ⟨a,qs,xs,o,e,h1,h2,h3⟩:=h;exact ⟨a,qs,xs,o,e,hs _ _ h1,h2.tk hs.tk,h3⟩
 | .obj c fs,_,h=>by simp only [RD] at h ⊢;obtain ⟨a,C,dx,vs,e,h1,h2,h3,h4,h5⟩:=h;exact ⟨a,C,dx,vs,e,h1,hs _ _ h2,h3,h4,RDs.mono hs h5⟩
 | .exc c fs,_,h=>by
  simp only [RD] at h ⊢;obtain ⟨a,od,o,e,h1,h2,h3⟩:=h;refine ⟨a,od,o,e,h1,hs _ _ h2,?_⟩;rcases h3 with h3 | ⟨dx,xs,ob,q1,q2,q3,q4⟩
  . exact .inl h3
  . exact .inr ⟨dx,xs,ob,q1,hs _ _ q2,q3,RDs.mono hs q4⟩
 | .scr ns,_,h=>by
  simp only [RD] at h ⊢;obtain ⟨a,e,h1⟩:=h;refine ⟨a,e,?_⟩;rcases h1 with ⟨o,h1⟩ | h1
  . exact .inl ⟨o,hs _ _ h1⟩
  . exact .inr h1
theorem RDs.mono (hs:Same H H'):∀{ds:List D} {xs:List V},RDs K H ds xs->RDs K H' ds xs
 | [],_,h=>by simp only [RDs] at h ⊢;exact h
 | d::ds,_,h=>by simp only [RDs] at h ⊢;obtain ⟨x,r,e,h1,h2⟩:=h;exact ⟨x,r,e,RD.mono hs h1,RDs.mono hs h2⟩
end
theorem RDs.length:∀{ds:List D} {xs:List V},RDs K H ds xs->ds.length=xs.length
 | [],_,h=>by simp only [RDs] at h;subst h;rfl
 | d::ds,_,h=>by simp only [RDs] at h;obtain ⟨x,r,rfl,_,h2⟩:=h;simp [RDs.length h2]
theorem RDs.get:∀{ds:List D} {xs:List V} {i:Nat} {x:V},RDs K H ds xs->xs[i]?=some x->∃d,ds[i]?=some d/\RD K H d x
 | [],_,i,x,h,e=>by simp only [RDs] at h;subst h;simp at e
 | d::ds,_,i,x,h,e=>by
  simp only [RDs] at h;obtain ⟨y,r,rfl,h1,h2⟩:=h;cases i with
  | zero=>simp at e;subst e;exact ⟨d,rfl,h1⟩
  | succ i=>simp at e;obtain ⟨d',e1,e2⟩:=RDs.get h2 e;exact ⟨d',by simpa using e1,e2⟩
theorem RDs.get':∀{ds:List D} {xs:List V} {i:Nat} {d:D},RDs K H ds xs->ds[i]?=some d->∃x,xs[i]?=some x/\RD K H d x
 | [],_,i,d,h,e=>by simp at e
 | d'::ds,_,i,d,h,e=>by
  simp only [RDs] at h;obtain ⟨y,r,rfl,h1,h2⟩:=h;cases i with
  | zero=>simp at e;subst e;exact ⟨y,rfl,h1⟩
  | succ i=>simp at e;obtain ⟨x',e1,e2⟩:=RDs.get' h2 e;exact ⟨x',by simpa using e1,e2⟩
theorem RDs.append:∀{ds es:List D} {xs ys:List V},RDs K H ds xs->RDs K H es ys->RDs K H (ds++es) (xs++ys)
 | [],_,_,_,h,h'=>by simp only [RDs] at h;subst h;exact h'
 | d::ds,es,_,ys,h,h'=>by simp only [RDs] at h;obtain ⟨x,r,rfl,h1,h2⟩:=h;simp only [List.cons_append,RDs];exact ⟨x,r++ys,rfl,h1,RDs.append h2 h'⟩
theorem RDs.nil:RDs K H [] []:=by simp only [RDs]
theorem RDs.cons (h:RD K H d x) (h':RDs K H ds xs):RDs K H (d::ds) (x::xs):=by simp only [RDs];exact ⟨x,xs,rfl,h,h'⟩
theorem RDs.one (h:RD K H d x):RDs K H [d] [x]:=.cons h .nil
theorem RDs.take:∀{ds:List D} {xs:List V} (n:Nat),RDs K H ds xs->RDs K H (ds.take n) (xs.take n)
 | _,_,0,_=>by simp [RDs]
 | [],_,n+1,h=>by simp only [RDs] at h;subst h;simp [RDs]
 | d::ds,_,n+1,h=>by simp only [RDs] at h;obtain ⟨x,r,rfl,h1,h2⟩:=h;simp only [List.take_succ_cons];exact .cons h1 (RDs.take n h2)
theorem RDs.drop:∀{ds:List D} {xs:List V} (n:Nat),RDs K H ds xs->RDs K H (ds.drop n) (xs.drop n)
 | _,_,0,h=>h
 | [],_,n+1,h=>by simp only [RDs] at h;subst h;simp [RDs]
 | d::ds,_,n+1,h=>by simp only [RDs] at h;obtain ⟨x,r,rfl,h1,h2⟩:=h;exact RDs.drop n h2
theorem RDs.set:∀{ds:List D} {xs:List V} (n:Nat) {d:D} {x:V},RDs K H ds xs->RD K H d x->RDs K H (ds.set n d) (xs.set n x)
 | [],_,n,_,_,h,_=>by simp only [RDs] at h;subst h;simp [RDs]
 | d::ds,_,0,_,_,h,h'=>by simp only [RDs] at h;obtain ⟨x,r,rfl,h1,h2⟩:=h;exact .cons h' h2
 | d::ds,_,n+1,_,_,h,h'=>by simp only [RDs] at h;obtain ⟨x,r,rfl,h1,h2⟩:=h;exact .cons h1 (RDs.set n h2 h')
theorem RDs.ofInts:∀(ns:List Int),RDs K H (ns.map D.int) (ns.map V.int)
 | []=>by simp only [List.map,RDs]
 | n::ns=>by simp only [List.map];exact RDs.cons (by simp only [RD]) (RDs.ofInts ns)
end
mutual
noncomputable def eqD:D->D->Bool
 | .non,.non=>true
 | .bl a,.bl b=>a==b
 | .bl a,.int j=>(if a then 1 else 0)==j
 | .int i,.bl b=>i==(if b then 1 else 0)
 | .int i,.int j=>i==j
 | .str a,.str b=>a==b
 | .tup ds,.tup es=>r9 ds es
 | .lst ds,.lst es=>r9 ds es
 | _,_=>false
noncomputable def r9:List D->List D->Bool
 | [],[]=>true
 | d::ds,e::es=>eqD d e&&r9 ds es
 | _,_=>false
end
mutual
noncomputable def D.dep:D->Nat
 | .tup ds=>o4 ds+1
 | .lst ds=>o4 ds+1
 | _=>0
noncomputable def o4:List D->Nat
 | []=>0
 | d::ds=>max d.dep (o4 ds)
end
mutual
theorem Lv:∀d:D,d.pl=true->eqD d d=true
 | .non,_=>rfl
 | .bl b,_=>by simp [eqD]
 | .int b,_=>by simp [eqD]
 | .str b,_=>by simp [eqD]
 | .tup ds,h=>by simp only [eqD];exact Mh ds (by simpa only [D.pl] using h)
 | .lst ds,h=>by simp only [eqD];exact Mh ds (by simpa only [D.pl] using h)
 | .dk _ _,h=>by simp [D.pl] at h
 | .dt _ _,h=>by simp [D.pl] at h
 | .dn _ _,h=>by simp [D.pl] at h
 | .scr _,h=>by simp [D.pl] at h
 | .exc _ _,h=>by simp [D.pl] at h
 | .obj _ _,h=>by simp [D.pl] at h
 | .dp _ _,h=>by simp [D.pl] at h
theorem Mh:∀ds:List D,pls ds=true->r9 ds ds=true
 | [],_=>rfl
 | d::ds,h=>by simp only [pls,Bool.and_eq_true] at h;simp only [r9,Lv d h.1,Mh ds h.2,Bool.and_self]
end
mutual
theorem RD.inj {K:Frag} {H:Hp}:∀{d e:D} {v:V},d.pl=true->e.pl=true->RD K H d v->RD K H e v->d=e
 | .non,e,v,_,p,h,h'=>by simp only [RD] at h;subst h;cases e<;>simp only [RD] at h'<;>first | (exfalso;simp [D.pl] at p;done) | rfl | (cases h';done) | (obtain ⟨a,xs,z,_⟩:=h';cases z)
 | .bl b,e,v,_,p,h,h'=>by simp only [RD] at h;subst h;cases e<;>simp only [RD] at h'<;>first | (exfalso;simp [D.pl] at p;done) | (cases h';rfl) | (cases h';done) | (obtain ⟨a,xs,z,_⟩:=h';cases z)
 | .int b,e,v,_,p,h,h'=>by simp only [RD] at h;subst h;cases e<;>simp only [RD] at h'<;>first | (exfalso;simp [D.pl] at p;done) | (cases h';rfl) | (cases h';done) | (obtain ⟨a,xs,z,_⟩:=h';cases z)
 | .str b,e,v,_,p,h,h'=>by simp only [RD] at h;subst h;cases e<;>simp only [RD] at h'<;>first | (exfalso;simp [D.pl] at p;done) | (cases h';rfl) | (cases h';done) | (obtain ⟨a,xs,z,_⟩:=h';cases z)
 | .dk _ _,e,v,p,_,h,h'=>by simp [D.pl] at p
 | .dt _ _,e,v,p,_,h,h'=>by simp [D.pl] at p
 | .dn _ _,e,v,p,_,h,h'=>by simp [D.pl] at p
 | .scr _,e,v,p,_,h,h'=>by simp [D.pl] at p
 | .exc _ _,e,v,p,_,h,h'=>by simp [D.pl] at p
 | .obj _ _,e,v,p,_,h,h'=>by simp [D.pl] at p
 | .dp _ _,e,v,p,_,h,h'=>by simp [D.pl] at p
 | .tup ds,e,v,p,p',h,h'=>by
  simp only [RD] at h;obtain ⟨a,xs,rfl,h1,h2⟩:=h;cases e<;>simp only [RD] at h'
  case tup es=>
   obtain ⟨b,ys,z,h3,h4⟩:=h'
   cases z
   rw [h1] at h3;cases h3
   rw [RDs.inj (by simpa only [D.pl] using p) (by simpa only [D.pl] using p') h2 h4]
  case lst es=>
   obtain ⟨b,ys,z,h3,h4⟩:=h'
   cases z
   rw [h1] at h3;cases h3
  all_goals first | (exfalso;simp [D.pl] at p';done) | cases h'
 | .lst ds,e,v,p,p',h,h'=>by
  simp only [RD] at h;obtain ⟨a,xs,rfl,h1,h2⟩:=h;cases e<;>simp only [RD] at h'
  case tup es=>
   obtain ⟨b,ys,z,h3,h4⟩:=h'
   cases z
   rw [h1] at h3;cases h3
  case lst es=>
   obtain ⟨b,ys,z,h3,h4⟩:=h'
   cases z
   rw [h1] at h3;cases h3
   rw [RDs.inj (by simpa only [D.pl] using p) (by simpa only [D.pl] using p') h2 h4]
  all_goals first | (exfalso;simp [D.pl] at p';done) | cases h'
theorem RDs.inj {K:Frag} {H:Hp}:∀{ds es:List D} {xs:List V},pls ds=true->pls es=true->RDs K H ds xs->RDs K H es xs->ds=es
 | [],es,xs,_,_,h,h'=>by
  simp only [RDs] at h;subst h;cases es<;>simp only [RDs] at h'
  . rfl
  . obtain ⟨x,r,z,_⟩:=h';cases z
 | d::ds,es,xs,p,p',h,h'=>by
  simp only [RDs] at h;obtain ⟨x,r,rfl,h1,h2⟩:=h;simp only [pls,Bool.and_eq_true] at p;cases es with
  | nil=>simp only [RDs] at h';cases h'
  | cons e es=>
   simp only [RDs] at h'
   obtain ⟨y,r',z,h3,h4⟩:=h'
   cases z
   simp only [pls,Bool.and_eq_true] at p'
   rw [RD.inj p.1 p'.1 h1 h3,RDs.inj p.2 p'.2 h2 h4]
end
theorem pls_mem:∀{ds:List D} {d:D},pls ds=true->d∈ds->d.pl=true
 | e::ds,d,h,m=>by
  simp only [pls,Bool.and_eq_true] at h;rcases List.mem_cons.mp m with rfl | m
  . exact h.1
  . exact pls_mem h.2 m
theorem Lu:∀{ds:List D} {d:D},d∈ds->d.dep<=o4 ds
 | d'::ds,d,h=>by
  simp only [o4];rcases List.mem_cons.mp h with rfl | h
  . lia
  . have:=Lu h;lia
theorem Ls:∀{ds es:List D},ds.length=es.length->r9 ds es=(List.range ds.length).all fun j=>eqD (ds.getD j .non) (es.getD j .non)
 | [],[],_=>rfl
 | [],_::_,h=>by simp at h
 | _::_,[],h=>by simp at h
 | d::ds,e::es,h=>by simp only [r9,List.length_cons];rw [Ls (by simpa using h),List.range_succ_eq_map,List.all_cons,List.all_map];rfl
theorem Lr:∀{ds es:List D},ds.length≠es.length->r9 ds es=false
 | [],[],h=>absurd rfl h
 | [],_::_,_=>rfl
 | _::_,[],_=>rfl
 | d::ds,e::es,h=>by simp only [r9];rw [Lr (by intro z;exact h (by simp [z])),Bool.and_false]
section
variable {X:Cx} {pins:List (Addr×Obj)} {U:St} {H:Hp} {s:Shared}
theorem Inv.tupA (I:Inv X pins U H s) (h:H a=some (.tup xs)):∃its:List Value,Vals xs its/\s.heap.IsTuple a its.toArray:=by obtain ⟨its,r,t,_⟩:=I.tuple (.of h);exact ⟨its,r,t⟩
theorem Inv.lstA (I:Inv X pins U H s) (h:H a=some (.lst xs)):∃its:List Value,Vals xs its/\s.heap.IsList a its.toArray:=by obtain ⟨its,r,t,_⟩:=I.list (.of h);exact ⟨its,r,t.isList⟩
inductive Shp (X:Cx) (H:Hp) (s:Shared):D->V->Value->Prop
 | non:Shp X H s .non .non .none
 | bl (b:Bool):Shp X H s (.bl b) (.bl b) (.bool b)
 | int (i:Int) (t:Tok):Shp X H s (.int i) (.int i) (.int i t)
 | str (c:Str) (t:Tok):Shp X H s (.str c) (.str c) (.str c t)
 | tup {ds:List D} {a:Addr} {xs:List V} {its:List Value} (p:pls ds=true) (h:H a=some (.tup xs)) (q:RDs X.K H ds xs) (r:Vals xs its) (t:s.heap.IsTuple a its.toArray):Shp X H s (.tup ds) (.ref a) (.ref a)
 | lst {ds:List D} {a:Addr} {xs:List V} {its:List Value} (p:pls ds=true) (h:H a=some (.lst xs)) (q:RDs X.K H ds xs) (r:Vals xs its) (t:s.heap.IsList a its.toArray):Shp X H s (.lst ds) (.ref a) (.ref a)
theorem shp (I:Inv X pins U H s) (p:d.pl=true) (h:RD X.K H d x) (r:RelV x u):Shp X H s d x u:=by
 cases d<;>simp only [RD] at h<;>first | (exfalso;simp [D.pl] at p;done) | skip
 . subst h;cases r;exact .non
 . subst h;cases r;exact .bl _
 . subst h;obtain ⟨t,rfl⟩:=r;exact .int _ _
 . subst h;obtain ⟨t,rfl⟩:=r;exact .str _ _
 . obtain ⟨a,xs,rfl,h1,h2⟩:=h;cases r;obtain ⟨its,v,t⟩:=I.tupA h1;exact .tup (by simpa only [D.pl] using p) h1 h2 v t
 . obtain ⟨a,xs,rfl,h1,h2⟩:=h;cases r;obtain ⟨its,v,t⟩:=I.lstA h1;exact .lst (by simpa only [D.pl] using p) h1 h2 v t
def Hd (X:Cx) (H:Hp) (s:Shared) (A:Around) (n:Nat):Prop:=∀{d e:D} {x y:V} {u v:Value},d.pl=true->e.pl=true->d.dep<=n->RD X.K H d x->RD X.K H e y->RelV x u->RelV y v->SeqAt.EqAt A s u v (eqD d e)
theorem Tc (ih:Hd X H s A n) (pd:pls ds=true) (pe:pls es=true) (hdn:o4 ds<=n) (hxs:RDs X.K H ds xs) (hys:RDs X.K H es ys) (r:Vals xs its) (r2:Vals ys its2) (j:Nat)
  (h1:j<its.toArray.size) (h2:j<its2.toArray.size):SeqAt.EqAt A s its.toArray[j] its2.toArray[j] (eqD (ds.getD j .non) (es.getD j .non)):=by
 have h1':j<its.length:=by simpa using h1
 have h2':j<its2.length:=by simpa using h2
 have l1:=r.length
 have l2:=r2.length
 obtain ⟨u1,e1,q1⟩:=r.get (i:=j) (x:=xs[j]'(by lia)) (by simp)
 obtain ⟨u2,e2,q2⟩:=r2.get (i:=j) (x:=ys[j]'(by lia)) (by simp)
 obtain ⟨d1,g1,w1⟩:=hxs.get (i:=j) (x:=xs[j]'(by lia)) (by simp)
 obtain ⟨d2,g2,w2⟩:=hys.get (i:=j) (x:=ys[j]'(by lia)) (by simp)
 have ea:its.toArray[j]=u1:=by rw [List.getElem?_eq_getElem h1'] at e1;simpa using e1
 have eb:its2.toArray[j]=u2:=by rw [List.getElem?_eq_getElem h2'] at e2;simpa using e2
 have ga:ds.getD j .non=d1:=by rw [List.getD_eq_getElem?_getD,g1];rfl
 have gb:es.getD j .non=d2:=by rw [List.getD_eq_getElem?_getD,g2];rfl
 rw [ea,eb,ga,gb]
 exact ih (pls_mem pd (List.mem_of_getElem? g1)) (pls_mem pe (List.mem_of_getElem? g2)) (Nat.le_trans (Lu (List.mem_of_getElem? g1)) hdn) w1 w2 q1 q2
theorem vG (hxs:RDs X.K H ds xs) (hys:RDs X.K H es ys) (r:Vals xs its) (r2:Vals ys its2) :
  ((List.range (min its.toArray.size its2.toArray.size)).all (fun j=>eqD (ds.getD j .non) (es.getD j .non))&&its.toArray.size==its2.toArray.size)=r9 ds es:=by
 have lx:=hxs.length;have ly:=hys.length;have l1:=r.length;have l2:=r2.length
 simp only [List.size_toArray]
 by_cases hl:ds.length=es.length
 . rw [Ls hl];have:its.length=its2.length:=by lia
   rw [this,Nat.min_self,show its2.length=ds.length by lia];simp
 . rw [Lr hl];have:(its.length==its2.length)=false:=by simp;lia
   rw [this,Bool.and_false]
theorem vF (hxs:RDs X.K H ds xs) (hys:RDs X.K H es ys) (r:Vals xs its) (r2:Vals ys its2) (hl:ds.length=es.length) :
  ((List.range its.toArray.size).all fun j=>eqD (ds.getD j .non) (es.getD j .non))=r9 ds es:=by
 have lx:=hxs.length;have ly:=hys.length;have l1:=r.length;have l2:=r2.length
 rw [Ls hl,List.size_toArray,show its.length=ds.length by lia]
theorem Xy (hu:A.units<cLine) (ih:Hd X H s A.in1 n) (hn:d.dep<=n+1) (sx:Shp X H s d x u) (sy:Shp X H s e y v):SeqAt.RcAt A s u v (eqD d e)/\SeqAt.RcNeAt A s u v (!eqD d e):=by
 cases sx with
 | non=>cases sy with
  | non=>exact ⟨.none_none,.none_none⟩
  | bl _=>exact ⟨.none_bool _,.none_bool _⟩
  | int _ _=>exact ⟨.none_int _ _,.none_int _ _⟩
  | str _ _=>exact ⟨.none_str _ _,.none_str _ _⟩
  | tup p2 h2 q2 r2 t2=>exact ⟨.none_tuple t2 hu,.none_tuple t2 hu⟩
  | lst p2 h2 q2 r2 t2=>exact ⟨.none_list t2 hu,.none_list t2 hu⟩
 | bl _=>cases sy with
  | non=>exact ⟨.bool_none _,.bool_none _⟩
  | bl _=>exact ⟨.bool_bool _ _,.bool_bool _ _⟩
  | int _ _=>exact ⟨.bool_int _ _ _,.bool_int _ _ _⟩
  | str _ _=>exact ⟨.bool_str _ _ _,.bool_str _ _ _⟩
  | tup p2 h2 q2 r2 t2=>exact ⟨.bool_tuple _ t2 hu,.bool_tuple _ t2 hu⟩
  | lst p2 h2 q2 r2 t2=>exact ⟨.bool_list _ t2 hu,.bool_list _ t2 hu⟩
 | int _ _=>cases sy with
  | non=>exact ⟨.int_none _ _,.int_none _ _⟩
  | bl _=>exact ⟨.int_bool _ _ _,.int_bool _ _ _⟩
  | int _ _=>exact ⟨.int_int _ _ _ _,.int_int _ _ _ _⟩
  | str _ _=>exact ⟨.int_str _ _ _ _,.int_str _ _ _ _⟩
  | tup p2 h2 q2 r2 t2=>exact ⟨.int_tuple _ _ t2 hu,.int_tuple _ _ t2 hu⟩
  | lst p2 h2 q2 r2 t2=>exact ⟨.int_list _ _ t2 hu,.int_list _ _ t2 hu⟩
 | str _ _=>cases sy with
  | non=>exact ⟨.str_none _ _,.str_none _ _⟩
  | bl _=>exact ⟨.str_bool _ _ _,.str_bool _ _ _⟩
  | int _ _=>exact ⟨.str_int _ _ _ _,.str_int _ _ _ _⟩
  | str _ _=>exact ⟨.str_str _ _ _ _,.str_str _ _ _ _⟩
  | tup p2 h2 q2 r2 t2=>exact ⟨.str_tuple _ _ t2 hu,.str_tuple _ _ t2 hu⟩
  | lst p2 h2 q2 r2 t2=>exact ⟨.str_list _ _ t2 hu,.str_list _ _ t2 hu⟩
 | tup p h q r t=>cases sy with
  | non=>exact ⟨.tuple_none t hu,.tuple_none t hu⟩
  | bl _=>exact ⟨.tuple_bool _ t hu,.tuple_bool _ t hu⟩
  | int _ _=>exact ⟨.tuple_int _ _ t hu,.tuple_int _ _ t hu⟩
  | str _ _=>exact ⟨.tuple_str _ _ t hu,.tuple_str _ _ t hu⟩
  | tup p2 h2 q2 r2 t2 => 
   simp only [D.dep] at hn
   have z:=Tc ih p p2 (Nat.le_of_succ_le_succ hn) q q2 r r2
   simp only [eqD]
   rw [<-vG q q2 r r2]
   exact ⟨.tuples t t2 hu z,.tuples t t2 hu z⟩
  | lst p2 h2 q2 r2 t2=>exact ⟨.tuple_list t t2 hu,.tuple_list t t2 hu⟩
 | lst p h q r t=>cases sy with
  | non=>exact ⟨.list_none t hu,.list_none t hu⟩
  | bl _=>exact ⟨.list_bool _ t hu,.list_bool _ t hu⟩
  | int _ _=>exact ⟨.list_int _ _ t hu,.list_int _ _ t hu⟩
  | str _ _=>exact ⟨.list_str _ _ t hu,.list_str _ _ t hu⟩
  | tup p2 h2 q2 r2 t2=>exact ⟨.list_tuple t t2 hu,.list_tuple t t2 hu⟩
  | lst p2 h2 q2 r2 t2 => 
   rename_i ds _ xs its es _ ys its2
   simp only [D.dep] at hn
   have z:=Tc ih p p2 (Nat.le_of_succ_le_succ hn) q q2 r r2
   have lx:=q.length;have ly:=q2.length;have l1:=r.length;have l2:=r2.length
   simp only [eqD]
   by_cases hl:ds.length=es.length
   . have hsz:its.toArray.size=its2.toArray.size:=by simp;lia
     rw [<-vF q q2 r r2 hl];exact ⟨.lists t t2 hsz hu z,.lists t t2 hsz hu z⟩
   . have hsz:(its.toArray.size != its2.toArray.size)=true:=by simp;lia
     rw [Lr hl];exact ⟨.lists_lengths t t2 hsz hu,.lists_lengths t t2 hsz hu⟩
theorem Ft (I:Inv X pins U H s):∀(n:Nat) {A:Around} {d e:D} {x y:V} {u v:Value},d.pl=true->e.pl=true->d.dep<=n->A.units+n<cLine->RD X.K H d x->RD X.K H e y->RelV x u->RelV y v->SeqAt.EqAt A s u v (eqD d e):=by
 have key:∀(n:Nat) {A:Around} {d e:D} {x y:V} {u v:Value},A.units<cLine->(∀m,m+1=n->Hd X H s A.in1 m)->d.pl=true->e.pl=true->d.dep<=n->RD X.K H d x->RD X.K H e y->RelV x u->RelV y v->SeqAt.EqAt A s u v (eqD d e):=by
  intro n A d e x y u v hu ih hpd hpe hn hx hy ru rv;have sx:=shp I hpd hx ru;have sy:=shp I hpe hy rv;have back:∀{a b:Addr},u=.ref a->v=.ref b->x=.ref a->y=.ref b->1<=d.dep->SeqAt.EqAt A s u v (eqD d e):=fun {a b} eu ev ex ey h1=>by
   subst eu ev ex ey;by_cases hab:a=b
   . subst hab;rw [RD.inj hpd hpe hx hy,Lv _ hpe];exact .same _
   . exact .of_refs hab (Xy (n:=n - 1) hu (ih (n - 1) (by lia)) (by lia) sx sy).1
  cases sx with
  | non=>cases sy with
   | non=>exact .same _
   | bl _=>exact .none_bool _
   | int _ _=>exact .none_int _ _
   | str _ _=>exact .none_str _ _
   | tup p2 h2 q2 r2 t2=>exact .none_tuple t2 hu
   | lst p2 h2 q2 r2 t2=>exact .none_list t2 hu
  | bl _=>cases sy with
   | non=>exact .bool_none _
   | bl _=>exact .bool_bool _ _
   | int _ _=>exact .bool_int _ _ _
   | str _ _=>exact .bool_str _ _ _
   | tup p2 h2 q2 r2 t2=>exact .bool_tuple _ t2 hu
   | lst p2 h2 q2 r2 t2=>exact .bool_list _ t2 hu
  | int _ _=>cases sy with
   | non=>exact .int_none _ _
   | bl _=>exact .int_bool _ _ _
   | int _ _=>exact .int_int _ _ _ _
   | str _ _=>exact .int_str _ _ _ _
   | tup p2 h2 q2 r2 t2=>exact .int_tuple _ _ t2 hu
   | lst p2 h2 q2 r2 t2=>exact .int_list _ _ t2 hu
  | str _ _=>cases sy with
   | non=>exact .str_none _ _
   | bl _=>exact .str_bool _ _ _
   | int _ _=>exact .str_int _ _ _ _
   | str _ _=>exact .str_str _ _ _ _
   | tup p2 h2 q2 r2 t2=>exact .str_tuple _ _ t2 hu
   | lst p2 h2 q2 r2 t2=>exact .str_list _ _ t2 hu
  | tup p h q r t=>cases sy with
   | non=>exact .tuple_none t hu
   | bl _=>exact .tuple_bool _ t hu
   | int _ _=>exact .tuple_int _ _ t hu
   | str _ _=>exact .tuple_str _ _ t hu
   | tup p2 h2 q2 r2 t2=>exact back rfl rfl rfl rfl (by simp only [D.dep];exact Nat.succ_pos _)
   | lst p2 h2 q2 r2 t2=>exact .tuple_list t t2 hu
  | lst p h q r t=>cases sy with
   | non=>exact .list_none t hu
   | bl _=>exact .list_bool _ t hu
   | int _ _=>exact .list_int _ _ t hu
   | str _ _=>exact .list_str _ _ t hu
   | tup p2 h2 q2 r2 t2=>exact .list_tuple t t2 hu
   | lst p2 h2 q2 r2 t2=>exact back rfl rfl rfl rfl (by simp only [D.dep];exact Nat.succ_pos _)
 intro n;induction n with
 | zero=>exact fun p q hn hu=>key 0 (by lia) (fun m z=>nomatch z) p q hn
 | succ n ih=>exact fun {A d e x y u v} p q hn hu=>key (n+1) (by lia) (fun m z=>by cases z;exact fun p q hn=>ih p q hn (by show A.units+1+n<cLine;lia)) p q hn
theorem Qn (I:Inv X pins U H s) (hpd:d.pl=true) (hpe:e.pl=true) (hn:d.dep<=n) (hu:A.units+1+n<cLine) (hx:RD X.K H d x) (hy:RD X.K H e y) (ru:RelV x u) (rv:RelV y v):SeqAt.RcAt A s u v (eqD d e)/\SeqAt.RcNeAt A s u v (!eqD d e):=
 Xy (n:=n) (by lia) (fun p q h=>Ft I n p q h (by show A.units+1+n<cLine;lia)) (by lia) (shp I hpd hx ru) (shp I hpe hy rv)
end
section
variable {X:Cx}
open Classical in
def hitD (K:Frag) (H:Hp) (d:D) (u:Value):Bool:=match Ys u with
 | some v=>decide (∃e,e.pl=true/\RD K H e v/\eqD e d=true)
 | none=>false
open Classical in
theorem Ta {K:Frag} {H:Hp} {d e:D} {y:V} {u:Value} (pe:e.pl=true) (r:RelV y u) (h:RD K H e y):hitD K H d u=eqD e d:=by unfold hitD;rw [r.abs];dsimp only;rw [Bool.eq_iff_iff];rw [decide_eq_true_iff];exact ⟨fun ⟨e',p',h',q⟩=>by rw [RD.inj pe p' h h'];exact q,fun q=>⟨e,pe,h,q⟩⟩
theorem Dw {K:Frag} {H:Hp} {d:D}:∀{es:List D} {xs:List V} {us:List Value},pls es=true->RDs K H es xs->Vals xs us->us.any (hitD K H d)=es.any fun e=>eqD e d
 | [],_,_,_,h,r=>by simp only [RDs] at h;subst h;cases r;rfl
 | e::es,_,_,p,h,r=>by
  simp only [RDs] at h;simp only [pls,Bool.and_eq_true] at p;obtain ⟨x,xs,rfl,h1,h2⟩:=h;cases r with
  | cons r1 r2=>rw [List.any_cons,List.any_cons,Ta p.1 r1 h1,Dw p.2 h2 r2]
theorem Dp {A:Around} {pins:List (Addr×Obj)} {U:St} {H:Hp} {s:Shared} (I:Inv X pins U H s) (hu:A.units+1+20<cLine) {d:D} {x:V} {v:Value} (pd:d.pl=true) (hx:RD X.K H d x) (rx:RelV x v):∀{es:List D} {xs:List V} {us:List Value},
  pls es=true->RDs X.K H es xs->Vals xs us->o4 es<=20->∀u∈us,SeqAt.EqAt A.in1 s u v (hitD X.K H d u)
 | [],_,_,_,h,r,_=>by simp only [RDs] at h;subst h;cases r;intro u hu;cases hu
 | e::es,_,_,p,h,r,hd=>by
  simp only [RDs] at h;simp only [pls,Bool.and_eq_true] at p;obtain ⟨y,xs,rfl,h1,h2⟩:=h;simp only [o4] at hd;cases r with
  | cons r1 r2=>
   intro u hm
   rcases List.mem_cons.mp hm with z | hm
   . subst z;rw [Ta p.1 r1 h1];exact Ft I 20 p.1 pd (by lia) (by show A.units+1+20<cLine;lia) h1 hx r1 rx
   . exact Dp I hu pd hx rx p.2 h2 r2 (by lia) u hm
end
structure Ex where
 cls:String
 fs:List D
inductive R (α:Type) where
 | ok (a:α) | er (x:Ex) | st
noncomputable def R.bind {α β:Type} (r:R α) (f:α->R β):R β:=match r with
 | .ok a=>f a
 | .er x=>.er x
 | .st=>.st
def Rk {α:Type} (EX:Ex->Prop) (r:R α) (k:α->Prop):Prop:=match r with
 | .ok a=>k a
 | .er x=>EX x
 | .st=>False
section
variable {α β:Type} {EX:Ex->Prop}
noncomputable def R.of (o:Option α):R α:=match o with
 | some a=>.ok a
 | none=>.st
theorem R.of_some (a:α):R.of (some a)=R.ok a:=rfl
theorem Rk.of (h:Rk EX (R.of o) k):∃a,o=some a/\k a:=by
 cases o with
 | none=>exact h.elim
 | some a=>exact ⟨a,rfl,h⟩
theorem R.bind_ok (a:α) (f:α->R β):(R.ok a).bind f=f a:=rfl
theorem Rk.bind:Rk EX (r.bind f) k=Rk EX r fun a=>Rk EX (f a) k:=by cases r<;>rfl
theorem Rk.mono (h:Rk EX r k) (hk:∀a,k a->k' a):Rk EX r k':=by
 cases r with
 | ok a=>exact hk a h
 | er x=>exact h
 | st=>exact h
end
def NoT (o:Option HO):Prop:=o=none\/∃xs,o=some (.tup xs)
def Ext (H0 H H0' H':Hp):Prop:=Same H0 H0'/\Same H0' H'/\∀a,H a≠none->H0 a=none->NoT (H0' a)
theorem Ext.refl (h:Same H0 H):Ext H0 H H0 H:=⟨Same.refl _,h,fun _ _ e=>.inl e⟩
theorem Ext.nt (e:Ext H0 H H0' H') (h:H a≠none) (n:NoT (H0 a)):NoT (H0' a):=by
 rcases n with n | ⟨xs,n⟩
 . exact e.2.2 a h n
 . exact .inr ⟨xs,e.1 _ _ n⟩
theorem Ext.no (e:Ext H0 H H0' H') (s:Same H H') (h:H a=some o) (ni:¬Imm o) (h0:H0 a=none):H0' a=none:=by
 rcases e.2.2 a (by rw [h];exact fun z=>nomatch z) h0 with z | ⟨xs,z⟩
 . exact z
 . have:=e.2.1 _ _ z;rw [s _ _ h] at this;cases this;exact absurd trivial ni
theorem vE (h:o=some x):o≠none:=by rw [h];exact fun z=>nomatch z
theorem Same.ne (h:Same H H') (n:H a≠none):H' a≠none:=by
 cases e:H a with
 | none=>exact absurd e n
 | some o=>exact vE (h a o e)
theorem Ext.trans (s:Same H H') (a:Ext H0 H H0' H') (b:Ext H0' H' H0'' H''):Ext H0 H H0'' H'':=
 ⟨a.1.trans b.1,b.2.1,fun c h1 h2=>b.nt (s.ne h1) (a.2.2 c h1 h2)⟩
theorem Ext.grow (a:Ext H0 H H0' H') (s:Same H' H''):Ext H0 H H0' H'':=⟨a.1,a.2.1.trans s,a.2.2⟩
theorem Ext.new (h:Same H0 H) (hp:H p=none):Ext H0 H (upd H0 p o) (upd H p o):=by
 have h0:H0 p=none:=by
  cases e:H0 p with
  | none=>rfl
  | some u=>rw [h p u e] at hp;cases hp
 refine ⟨Same.upd_new h0,fun b u e=>?_,fun a h1 h2=>?_⟩
 . by_cases hb:b=p
   . subst hb;rw [u8] at e ⊢;exact e
   . rw [m9 hb] at e ⊢;exact h b u e
 . have ha:a≠p:=fun z=>h1 (by rw [z];exact hp)
   rw [m9 ha];exact .inl h2
def OB (K:Frag) (H0 H:Hp) (a:Addr):D->Prop
 | .lst ds=>∃xs,H a=some (.lst xs)/\RDs K H0 ds xs
 | .dk ks ds=>∃xs,H a=some (.dK (ks.zip xs))/\ks.length=xs.length/\RDs K H0 ds xs
 | .dt ks ds=>∃xs,H a=some (.dT (ks.zip xs))/\ks.length=xs.length/\RDs K H0 ds xs
 | .dn ks ds=>∃qs xs o,H a=some (.ext (dnP a qs xs o))/\qs.map (·.1)=ks/\DN H0 a qs/\RDs K H0 ds xs
 | .dp hf n=>∃qs xs o,H a=some (.ext (dpP hf a qs xs o))/\DP K H0 a qs xs/\qs.length<=n
 | _=>False
section
variable {K:Frag} {H0 H H0' H':Hp} {a:Addr} {d:D}
theorem OB.some (h:OB K H0 H a d):∃o,H a=some o/\¬Imm o:=by
 cases d<;>simp only [OB] at h
 . obtain ⟨xs,h,_⟩:=h;exact ⟨_,h,fun z=>z⟩
 . obtain ⟨xs,h,_⟩:=h;exact ⟨_,h,fun z=>z⟩
 . obtain ⟨xs,h,_⟩:=h;exact ⟨_,h,fun z=>z⟩
 . obtain ⟨qs,xs,o,h,_⟩:=h;exact ⟨_,h,fun z=>z.1 _ _ _ _ rfl⟩
 . obtain ⟨qs,xs,o,h,_⟩:=h;exact ⟨_,h,fun z=>z.2 _ _ _ _ _ rfl⟩
theorem OB.mono (h:OB K H0 H a d) (s0:Same H0 H0') (s:Same H H'):OB K H0' H' a d:=by
 cases d<;>simp only [OB] at h ⊢
 . obtain ⟨xs,h,r⟩:=h;exact ⟨_,s _ _ h,r.mono s0⟩
 . obtain ⟨xs,h,l,r⟩:=h;exact ⟨_,s _ _ h,l,r.mono s0⟩
 . obtain ⟨xs,h,l,r⟩:=h;exact ⟨_,s _ _ h,l,r.mono s0⟩
 . obtain ⟨qs,xs,o,h,k,n,r⟩:=h;exact ⟨qs,xs,o,s _ _ h,k,n.tk fun b ys q=>s0 _ _ q,r.mono s0⟩
 . obtain ⟨qs,xs,o,h,k,r⟩:=h;exact ⟨qs,xs,o,s _ _ h,k.tk s0.tk,r⟩
theorem OB.at (h:OB K H0 H a d) (e:H' a=H a):OB K H0 H' a d:=by
 cases d<;>simp only [OB] at h ⊢
 . obtain ⟨xs,h,r⟩:=h;exact ⟨_,e.trans h,r⟩
 . obtain ⟨xs,h,l,r⟩:=h;exact ⟨_,e.trans h,l,r⟩
 . obtain ⟨xs,h,l,r⟩:=h;exact ⟨_,e.trans h,l,r⟩
 . obtain ⟨qs,xs,o,h,k,n,r⟩:=h;exact ⟨qs,xs,o,e.trans h,k,n,r⟩
 . obtain ⟨qs,xs,o,h,k,r⟩:=h;exact ⟨qs,xs,o,e.trans h,k,r⟩
theorem OB.tk (h:OB K H0 H a d) (n:d.shal=true) (t:TK H0 H0'):OB K H0' H a d:=by
 cases d<;>simp only [OB,D.shal] at h n ⊢
 . obtain ⟨xs,h,r⟩:=h;exact ⟨_,h,r.tk t n⟩
 . obtain ⟨xs,h,l,r⟩:=h;exact ⟨_,h,l,r.tk t n⟩
 . obtain ⟨xs,h,l,r⟩:=h;exact ⟨_,h,l,r.tk t n⟩
 . obtain ⟨qs,xs,o,h,k,m,r⟩:=h;exact ⟨qs,xs,o,h,k,m.tk fun b ys q=>t _ _ trivial q,r.tk t n⟩
 . obtain ⟨qs,xs,o,h,k,r⟩:=h;exact ⟨qs,xs,o,h,k.tk t,r⟩
theorem OB.rd (h:OB K H0 H a d) (s0:Same H0 H0') (e:H0' a=H a):RD K H0' d (.ref a):=by
 cases d<;>simp only [OB,RD] at h ⊢
 . obtain ⟨xs,h,r⟩:=h;exact ⟨_,_,rfl,e.trans h,r.mono s0⟩
 . obtain ⟨xs,h,l,r⟩:=h;exact ⟨_,_,rfl,e.trans h,l,r.mono s0⟩
 . obtain ⟨xs,h,l,r⟩:=h;exact ⟨_,_,rfl,e.trans h,l,r.mono s0⟩
 . obtain ⟨qs,xs,o,h,k,n,r⟩:=h;exact ⟨_,qs,xs,o,rfl,e.trans h,k,n.tk fun b ys q=>s0 _ _ q,r.mono s0⟩
 . obtain ⟨qs,xs,o,h,k,r⟩:=h;exact ⟨_,qs,xs,o,rfl,e.trans h,k.tk s0.tk,r⟩
end
def Out (K:Frag) (fr:Bool) (H0 H:Hp) (d:D) (v:V) (H':Hp):Prop:=
 Same H H'/\∃H0',Ext H0 H H0' H'/\(if fr=true then ∃p,v=.ref p/\H p=none/\H0' p=none/\OB K H0' H' p d else RD K H0' d v)
section
variable {K:Frag} {fr:Bool} {H0 H H0' H':Hp} {d:D} {v:V}
theorem Out.val (s:Same H H') (e:Ext H0 H H0' H') (r:RD K H0' d v):Out K false H0 H d v H':=⟨s,H0',e,by rw [ξ θ];exact r⟩
theorem Out.pure (s:Same H0 H) (r:RD K H0 d v):Out K false H0 H d v H:=.val (Same.refl _) (.refl s) r
theorem Out.fresh (s:Same H H') (e:Ext H0 H H0' H') (hp:H p=none) (hp0:H0' p=none) (o:OB K H0' H' p d):Out K true H0 H d (.ref p) H':=⟨s,H0',e,by rw [ζ rfl];exact ⟨p,rfl,hp,hp0,o⟩⟩
theorem Out.rd (o:Out K false H0 H d v H'):Same H H'/\∃H0',Ext H0 H H0' H'/\RD K H0' d v:=by obtain ⟨s,H0',e,r⟩:=o;rw [ξ θ] at r;exact ⟨s,H0',e,r⟩
theorem Out.weak (o:Out K fr H0 H d v H'):Out K false H0 H d v H':=by
 cases fr with
 | false=>exact o
 | true=>
  obtain ⟨s,H0',e,r⟩:=o
  rw [ζ rfl] at r
  obtain ⟨p,rfl,hp,hp0,ob⟩:=r
  obtain ⟨u,hu,_⟩:=ob.some
  have e2:Ext H0 H (upd H0' p u) H':=by
   refine ⟨e.1.trans (Same.upd_new hp0),fun b w q=>?_,fun a h1 h2=>?_⟩
   . by_cases hb:b=p
     . subst hb;rw [u8] at q;cases q;exact hu
     . rw [m9 hb] at q;exact e.2.1 b w q
   . rw [m9 (fun z=>h1 (by rw [z];exact hp))];exact e.2.2 a h1 h2
  exact .val s e2 (ob.rd (Same.upd_new hp0) (by rw [u8,hu]))
theorem Out.after (s:Same H H1) (e:Ext H0 H H1' H1) (o:Out K fr H1' H1 d v H'):Out K fr H0 H d v H':=by
 obtain ⟨s',H0',e',r⟩:=o;refine ⟨s.trans s',H0',e.trans s e',?_⟩;cases fr with
 | false=>exact r
 | true=>
  rw [ζ rfl] at r ⊢
  obtain ⟨p,rfl,hp,r⟩:=r
  refine ⟨p,rfl,?_,r⟩
  cases q:H p with
  | none=>rfl
  | some u=>rw [s p u q] at hp;cases hp
end
abbrev DE:=List (Option D)
def RE (K:Frag) (H:Hp) (ρ:DE) (U:St):Prop:=ρ.length=U.length/\∀(i:Nat) d,ρ[i]?=some (some d)->∃v,U[i]?=some (some v)/\RD K H d v
theorem RE.mono {K:Frag} {H H':Hp} {ρ:DE} {U:St} (h:RE K H ρ U) (s:Same H H'):RE K H' ρ U:=⟨h.1,fun i d e=>by obtain ⟨v,h1,h2⟩:=h.2 i d e;exact ⟨v,h1,h2.mono s⟩⟩
structure XW where
 hb:Hp
 p:Ex->Hp->Prop
abbrev F0:XW:=⟨fun _=>none,fun _ _=>False⟩
theorem F0.same (H:Hp):Same F0.hb H:=fun _ _ z=>nomatch z
def XW.at (W:XW) (x:Ex):Prop:=∀H',Same W.hb H'->W.p x H'
noncomputable def TEd (K:Frag) (EX:XW) (fr:Bool) (f:DE->R D):TE:=fun U H Q=>Same EX.hb H/\∃ρ H0,Same H0 H/\RE K H0 ρ U/\Rk EX.at (f ρ) fun d=>∀v H',Out K fr H0 H d v H'->Q v H'
noncomputable def TAd (K:Frag) (EX:XW) (f:DE->R (List D)):TA:=fun U H Q=>Same EX.hb H/\∃ρ H0,Same H0 H/\RE K H0 ρ U/\Rk EX.at (f ρ) fun ds=>∀vs H' H0',Same H H'->Ext H0 H H0' H'->RDs K H0' ds vs->Q vs H'
noncomputable def TTd (K:Frag) (EX:XW) (f:DE->R Bool):TT:=fun U H Q=>Same EX.hb H/\∃ρ H0,Same H0 H/\RE K H0 ρ U/\Rk EX.at (f ρ) fun b=>∀H',Same H H'->Q b H'
noncomputable def d6 (i:Nat):DE->R D:=fun ρ=>match ρ[i]? with | some (some d)=>.ok d | _=>.st
noncomputable def eC (d:D):DE->R D:=fun _=>.ok d
def eOp (o:D->D->Option D) (fa fb:DE->R D):DE->R D:=fun ρ=>(fa ρ).bind fun x=>(fb ρ).bind fun y=>R.of (o x y)
def eUn (o:D->Option D) (fa:DE->R D):DE->R D:=fun ρ=>(fa ρ).bind fun x=>R.of (o x)
noncomputable def d9:DE->R (List D):=fun _=>.ok []
def d7 (f:DE->R D) (fs:DE->R (List D)):DE->R (List D):=fun ρ=>(f ρ).bind fun d=>(fs ρ).bind fun ds=>.ok (d::ds)
def i7 (m:List D->R D) (fs:DE->R (List D)):DE->R D:=fun ρ=>(fs ρ).bind m
def eCB (m:List D->Option D) (fs:DE->R (List D)):DE->R D:=fun ρ=>(fs ρ).bind fun ds=>R.of (m ds)
def p7 (fs:DE->R (List D)):DE->R D:=fun ρ=>(fs ρ).bind fun ds=>if ds.length<=1000 then .ok (.tup ds) else .st
def t8 (fs:DE->R (List D)):DE->R D:=fun ρ=>(fs ρ).bind fun ds=>if ds.length<=1000 then .ok (.lst ds) else .st
def eIf (t:DE->R Bool) (fa fb:DE->R D):DE->R D:=fun ρ=>(t ρ).bind fun b=>if b=true then fa ρ else fb ρ
def G3 (t u:DE->R Bool):DE->R Bool:=fun ρ=>(t ρ).bind fun b=>if b=true then u ρ else .ok false
def bOr (t u:DE->R Bool):DE->R Bool:=fun ρ=>(t ρ).bind fun b=>if b=true then .ok true else u ρ
def C4 (t:DE->R Bool):DE->R Bool:=fun ρ=>(t ρ).bind fun b=>.ok (!b)
noncomputable def asB:D->Option Bool
 | .bl b=>some b
 | _=>none
def i6 (tr:D->Option Bool) (f:DE->R D):DE->R Bool:=fun ρ=>(f ρ).bind fun d=>R.of (tr d)
def D6 (fa fb:DE->R D):DE->R D:=fun ρ=>(fa ρ).bind fun x=>(R.of (asB x)).bind fun b=>if b=true then fb ρ else .ok (.bl false)
def eOr (fa fb:DE->R D):DE->R D:=fun ρ=>(fa ρ).bind fun x=>(R.of (asB x)).bind fun b=>if b=true then .ok (.bl true) else fb ρ
def OpD (K:Frag) (fr:Bool) (o:D->D->Option D) (r:R2):Prop:=∀(H0 H:Hp) (x y:V) (d e z:D) (Q:VK),Same H0 H->RD K H0 d x->RD K H0 e y->o d e=some z->(∀v H',Out K fr H0 H z v H'->Q v H')->r x y H Q
def UnD (K:Frag) (fr:Bool) (o:D->Option D) (r:V->Hp->VK->Prop):Prop:=∀(H0 H:Hp) (x:V) (d z:D) (Q:VK),Same H0 H->RD K H0 d x->o d=some z->(∀v H',Out K fr H0 H z v H'->Q v H')->r x H Q
def A7 (K:Frag) (fr:Bool) (m:List D->Option D) (r:List V->Hp->VK->Prop):Prop:=∀(H0 H:Hp) (xs:List V) (ds:List D) (z:D) (Q:VK),Same H0 H->RDs K H0 ds xs->m ds=some z->(∀v H',Out K fr H0 H z v H'->Q v H')->r xs H Q
def Ha (K:Frag) (tr:D->Option Bool) (r:V->Hp->(Bool->Hp->Prop)->Prop):Prop:=∀(H0 H:Hp) (x:V) (d:D) (b:Bool) (Q:Bool->Hp->Prop),Same H0 H->RD K H0 d x->tr d=some b->Q b H->r x H Q
section
variable {K:Frag} {EX:XW} {fr:Bool} {U:St} {H:Hp} {Q:VK}
theorem TEd.go (sx:Same EX.hb H) (s:Same H0 H) (e:RE K H0 ρ U) (h:Rk EX.at (f ρ) k) (hk:∀d,k d->∀v H' H0',Same H H'->Ext H0 H H0' H'->RD K H0' d v->Q v H'):TEd K EX false f U H Q:=
 ⟨sx,ρ,H0,s,e,h.mono fun d z v H' o=>by obtain ⟨s',H0',e',r⟩:=o.rd;exact hk d z v H' H0' s' e' r⟩
theorem TAd.go {f:DE->R (List D)} {ρ:DE} {H0:Hp} {k:List D->Prop} {Q:List V->Hp->Prop} (sx:Same EX.hb H) (s:Same H0 H) (e:RE K H0 ρ U) (h:Rk EX.at (f ρ) k) (hk:∀d,k d->∀v H' H0',Same H H'->Ext H0 H H0' H'->RDs K H0' d v->Q v H'):TAd K EX f U H Q:=
 ⟨sx,ρ,H0,s,e,h.mono fun d z v H' H0' s' e' r=>hk d z v H' H0' s' e' r⟩
theorem TTd.go {f:DE->R Bool} {ρ:DE} {H0:Hp} {k:Bool->Prop} {Q:Bool->Hp->Prop} (sx:Same EX.hb H) (s:Same H0 H) (e:RE K H0 ρ U) (h:Rk EX.at (f ρ) k) (hk:∀b,k b->∀H',Same H H'->Q b H'):TTd K EX f U H Q:=
 ⟨sx,ρ,H0,s,e,h.mono fun b z H' s'=>hk b z H' s'⟩
theorem TEd.weak (h:TEd K EX false f U H Q):TEd K EX fr f U H Q:=by obtain ⟨sx,ρ,H0,s,e,h⟩:=h;exact ⟨sx,ρ,H0,s,e,h.mono fun d z v H' o=>z v H' o.weak⟩
theorem Zt (h:TEd K EX false (d6 i) U H Q):∃v,U[i]?=some (some v)/\Q v H:=by
 obtain ⟨sx,ρ,H0,s,e,h⟩:=h;unfold d6 at h;split at h
 . rename_i d q;obtain ⟨v,h1,h2⟩:=e.2 i d q;exact ⟨v,h1,h v H (.pure s h2)⟩
 . exact h.elim
theorem Gd (hd:∀H0,RD K H0 d v) (h:TEd K EX false (eC d) U H Q):tC v U H Q:=by obtain ⟨sx,ρ,H0,s,e,h⟩:=h;exact h v H (.pure s (hd _))
theorem Eo (ho:OpD K fr o r) (h:TEd K EX fr (eOp o fa fb) U H Q):tOp r (TEd K EX false fa) (TEd K EX false fb) U H Q:=by
 obtain ⟨sx,ρ,H0,s,e,h⟩:=h;unfold eOp at h;rw [Rk.bind] at h;refine TEd.go sx s e h fun d h v H1 H1' s1 e1 r1=>?_
 rw [Rk.bind] at h;refine TEd.go (sx.trans s1) e1.2.1 (e.mono e1.1) h fun d2 h v2 H2 H2' s2 e2 r2=>?_
 obtain ⟨z,hz,h⟩:=h.of;exact ho H2' H2 v v2 d d2 z Q e2.2.1 (r1.mono e2.1) r2 hz fun w H3 o=>h w H3 (o.after (s1.trans s2) (e1.trans s1 e2))
theorem y28 (ho:UnD K fr o r) (h:TEd K EX fr (eUn o fa) U H Q):tUn r (TEd K EX false fa) U H Q:=by
 obtain ⟨sx,ρ,H0,s,e,h⟩:=h;unfold eUn at h;rw [Rk.bind] at h;refine TEd.go sx s e h fun d h v H1 H1' s1 e1 r1=>?_
 obtain ⟨z,hz,h⟩:=h.of;exact ho H1' H1 v d z Q e1.2.1 r1 hz fun w H3 o=>h w H3 (o.after s1 e1)
theorem Hx {Q:List V->Hp->Prop} (h:TAd K EX d9 U H Q):O0 U H Q:=by obtain ⟨sx,ρ,H0,s,e,h⟩:=h;exact h [] H H0 (Same.refl _) (.refl s) .nil
theorem Dh {Q:List V->Hp->Prop} {f:DE->R D} {fs:DE->R (List D)} (h:TAd K EX (d7 f fs) U H Q):J8 (TEd K EX false f) (TAd K EX fs) U H Q:=by
 obtain ⟨sx,ρ,H0,s,e,h⟩:=h;unfold d7 at h;rw [Rk.bind] at h;refine TEd.go sx s e h fun d h v H1 H1' s1 e1 r1=>?_
 rw [Rk.bind] at h;refine TAd.go (sx.trans s1) e1.2.1 (e.mono e1.1) h fun ds h vs H2 H2' s2 e2 r2=>?_
 exact h (v::vs) H2 H2' (s1.trans s2) (e1.trans s1 e2) (.cons (r1.mono e2.1) r2)
theorem Gz (hm:A7 K fr m r) (h:TEd K EX fr (eCB m fs) U H Q):tCB r (TAd K EX fs) U H Q:=by
 obtain ⟨sx,ρ,H0,s,e,h⟩:=h;unfold eCB at h;rw [Rk.bind] at h;refine TAd.go sx s e h fun ds h vs H1 H1' s1 e1 r1=>?_
 obtain ⟨z,hz,h⟩:=h.of;exact hm H1' H1 vs ds z Q e1.2.1 r1 hz fun w H3 o=>h w H3 (o.after s1 e1)
theorem La (h:n<=1000):n<=sizeLine:=Nat.le_trans h (by decide)
theorem Zs (h:TEd K EX false (p7 fs) U H Q):Yn (TAd K EX fs) U H Q:=by
 obtain ⟨sx,ρ,H0,s,e,h⟩:=h;unfold p7 at h;rw [Rk.bind] at h;refine TAd.go sx s e h fun ds h vs H1 H1' s1 e1 r1=>?_
 split at h
 . rename_i hl;refine ⟨La (by rw [<-r1.length];exact hl),fun p hp=>h _ _ (.val (s1.trans (Same.upd_new hp)) (e1.trans s1 (.new e1.2.1 hp)) ?_)⟩;have h1p:H1' p=none:=by
    cases q:H1' p with
    | none=>rfl
    | some u=>rw [e1.2.1 p u q] at hp;cases hp
   simp only [RD];exact ⟨p,vs,rfl,u8,r1.mono (Same.upd_new h1p)⟩
 . exact h.elim
theorem Same.none (s:Same H H') (h:H' p=none):H p=none:=by
 cases q:H p with
 | none=>rfl
 | some u=>rw [s p u q] at h;cases h
theorem Out.new (s:Same H0 H) (hp:H p=none) (hob:∀H',H' p=some o->OB K H0 H' p d):Out K true H0 H d (.ref p) (upd H p o):=
 .fresh (Same.upd_new hp) ((Ext.refl s).grow (Same.upd_new hp)) hp (s.none hp) (hob _ u8)
theorem Zr (h:TEd K EX true (t8 fs) U H Q):Ym (TAd K EX fs) U H Q:=by
 obtain ⟨sx,ρ,H0,s,e,h⟩:=h;unfold t8 at h;rw [Rk.bind] at h;refine TAd.go sx s e h fun ds h vs H1 H1' s1 e1 r1=>?_
 split at h
 . rename_i hl;refine ⟨La (by rw [<-r1.length];exact hl),fun p hp=>h _ _ (Out.after s1 e1 (.new e1.2.1 hp fun H' hH=>?_))⟩;simp only [OB];exact ⟨vs,hH,r1⟩
 . exact h.elim
theorem y29 (h:TEd K EX fr (eIf t fa fb) U H Q):tIf (TTd K EX t) (TEd K EX fr fa) (TEd K EX fr fb) U H Q:=by
 obtain ⟨sx,ρ,H0,s,e,h⟩:=h;unfold eIf at h;rw [Rk.bind] at h;refine TTd.go sx s e h fun b h H1 s1=>?_
 have fin:∀{f:DE->R D},Rk EX.at (f ρ) (fun d=>∀v H',Out K fr H0 H d v H'->Q v H')->TEd K EX fr f U H1 Q:=fun {f} h=>
  ⟨sx.trans s1,ρ,H0,s.trans s1,e,h.mono fun d z v H' o=>z v H' (o.after s1 ((Ext.refl s).grow s1))⟩
 cases b with
 | true=>exact fin h
 | false=>exact fin h
theorem kJ {t u:DE->R Bool} {Q:Bool->Hp->Prop} (h:TTd K EX (G3 t u) U H Q):Yu (TTd K EX t) (TTd K EX u) U H Q:=by
 obtain ⟨sx,ρ,H0,s,e,h⟩:=h;unfold G3 at h;rw [Rk.bind] at h;refine TTd.go sx s e h fun b h H1 s1=>?_
 cases b with
 | true=>exact TTd.go (sx.trans s1) (s.trans s1) e h fun b h H' s'=>h H' (s1.trans s')
 | false=>exact h H1 s1
theorem Zq {t u:DE->R Bool} {Q:Bool->Hp->Prop} (h:TTd K EX (bOr t u) U H Q):tOr (TTd K EX t) (TTd K EX u) U H Q:=by
 obtain ⟨sx,ρ,H0,s,e,h⟩:=h;unfold bOr at h;rw [Rk.bind] at h;refine TTd.go sx s e h fun b h H1 s1=>?_
 cases b with
 | true=>exact h H1 s1
 | false=>exact TTd.go (sx.trans s1) (s.trans s1) e h fun b h H' s'=>h H' (s1.trans s')
theorem kI {t:DE->R Bool} {Q:Bool->Hp->Prop} (h:TTd K EX (C4 t) U H Q):Yt (TTd K EX t) U H Q:=by obtain ⟨sx,ρ,H0,s,e,h⟩:=h;unfold C4 at h;rw [Rk.bind] at h;exact TTd.go sx s e h fun b h H1 s1=>h H1 s1
end
noncomputable def y2a (r:V->Hp->(Bool->Hp->Prop)->Prop) (t:TE):TT:=fun U H Q=>t U H fun x H'=>r x H' Q
def zyq (o:D->D->Option D) (fb:DE->R D):D->DE->R D:=fun d ρ=>(fb ρ).bind fun y=>R.of (o d y)
def zyr (o:D->D->Option D) (fb:DE->R D) (g:D->DE->R D):D->DE->R D:=fun d ρ=>(fb ρ).bind fun y=>(R.of (o d y)).bind fun z=>(R.of (asB z)).bind fun b=>if b=true then g y ρ else .ok (.bl false)
def zto (o:D->D->Option D) (fb:DE->R D):D->DE->R Bool:=fun d ρ=>(fb ρ).bind fun y=>(R.of (o d y)).bind fun z=>R.of (asB z)
def ztp (o:D->D->Option D) (fb:DE->R D) (g:D->DE->R Bool):D->DE->R Bool:=fun d ρ=>(fb ρ).bind fun y=>(R.of (o d y)).bind fun z=>(R.of (asB z)).bind fun b=>if b=true then g y ρ else .ok false
def y2b (fa:DE->R D) (g:D->DE->R D):DE->R D:=fun ρ=>(fa ρ).bind fun x=>g x ρ
def y2c (fa:DE->R D) (g:D->DE->R Bool):DE->R Bool:=fun ρ=>(fa ρ).bind fun x=>g x ρ
theorem Lq (h:asB d=some b):d=.bl b:=by cases d<;>simp [asB] at h;subst h;rfl
theorem RD.bl {K:Frag} {H:Hp} {b:Bool} {v:V} (h:RD K H (.bl b) v):v=.bl b:=by simpa only [RD] using h
section
variable {K:Frag} {EX:XW} {U:St} {H:Hp} {Q:VK} {QB:Bool->Hp->Prop}
theorem Zp (h:TEd K EX false (D6 fa fb) U H Q):Oh (TEd K EX false fa) (TEd K EX false fb) U H Q:=by
 obtain ⟨sx,ρ,H0,s,e,h⟩:=h;unfold D6 at h;rw [Rk.bind] at h;refine TEd.go sx s e h fun d h v H1 H1' s1 e1 r1=>?_
 rw [Rk.bind] at h;obtain ⟨b,hb,h⟩:=h.of;cases Lq hb;cases r1.bl;cases b with
 | true=>exact TEd.go (sx.trans s1) e1.2.1 (e.mono e1.1) h fun d h v H2 H2' s2 e2 r2=>h v H2 (.val (s1.trans s2) (e1.trans s1 e2) r2)
 | false=>exact h _ H1 (.val s1 e1 (by simp only [RD]))
theorem y2d (h:TEd K EX false (eOr fa fb) U H Q):Yg (TEd K EX false fa) (TEd K EX false fb) U H Q:=by
 obtain ⟨sx,ρ,H0,s,e,h⟩:=h;unfold eOr at h;rw [Rk.bind] at h;refine TEd.go sx s e h fun d h v H1 H1' s1 e1 r1=>?_
 rw [Rk.bind] at h;obtain ⟨b,hb,h⟩:=h.of;cases Lq hb;cases r1.bl;cases b with
 | true=>exact h _ H1 (.val s1 e1 (by simp only [RD]))
 | false=>exact TEd.go (sx.trans s1) e1.2.1 (e.mono e1.1) h fun d h v H2 H2' s2 e2 r2=>h v H2 (.val (s1.trans s2) (e1.trans s1 e2) r2)
theorem Zo (ht:Ha K tr r) (h:TTd K EX (i6 tr fa) U H QB):y2a r (TEd K EX false fa) U H QB:=by
 obtain ⟨sx,ρ,H0,s,e,h⟩:=h;unfold i6 at h;rw [Rk.bind] at h;refine TEd.go sx s e h fun d h v H1 H1' s1 e1 r1=>?_
 obtain ⟨b,hb,h⟩:=h.of;exact ht H1' H1 v d b QB e1.2.1 r1 hb (h H1 s1)
theorem kH (ht:Ha K tr r) (h:TEd K EX false (eUn (fun d=>(tr d).map fun b=>.bl (!b)) fa) U H Q) :
  (fun U H Q=>(TEd K EX false fa) U H fun x H1=>r x H1 fun k H2=>Q (.bl (!k)) H2) U H Q:=by
 obtain ⟨sx,ρ,H0,s,e,h⟩:=h
 unfold eUn at h
 rw [Rk.bind] at h
 refine TEd.go sx s e h fun d h v H1 H1' s1 e1 r1=>?_
 obtain ⟨z,hz,h⟩:=h.of
 have hz:(tr d).map (fun b=>D.bl (!b))=some z:=hz
 cases hb:tr d with
 | none=>rw [hb] at hz;cases hz
 | some b=>
  rw [hb] at hz;cases hz
  exact ht H1' H1 v d b _ e1.2.1 r1 hb (h _ H1 (.val s1 e1 (by simp only [RD])))
theorem Zn (ho:OpD K false o r) (h:TTd K EX (i6 asB (eOp o fa fb)) U H QB):Je (tOp r (TEd K EX false fa) (TEd K EX false fb)) U H QB:=by obtain ⟨sx,ρ,H0,s,e,h⟩:=h;unfold i6 at h;rw [Rk.bind] at h;unfold Je;refine Eo (EX:=EX) ho ⟨sx,ρ,H0,s,e,h.mono fun d h v H' o=>?_⟩;obtain ⟨b,hb,h⟩:=h.of;obtain ⟨s',H0',e',r'⟩:=o.rd;cases Lq hb;cases r'.bl;exact h H' s'
end
inductive Sl where
 | em | im (d:D) | ow (d:D)
abbrev DS:=List Sl
noncomputable def Sl.see (b:Bool):Sl->Option D
 | .em=>none
 | .im d=>some d
 | .ow d=>if b=true then some d else none
noncomputable def Sl.frz (b:Bool):Sl->Sl
 | .ow d=>if b=true then .im d else .ow d
 | s=>s
def vis:List Bool->DS->DE
 | _,[]=>[]
 | [],s::r=>s.see false::vis [] r
 | b::m,s::r=>s.see b::vis m r
noncomputable def frz:List Bool->DS->DS
 | _,[]=>[]
 | [],s::r=>s::r
 | b::m,s::r=>s.frz b::frz m r
theorem Kz:∀(m:List Bool) (ρ:DS) (i:Nat),(vis m ρ)[i]?=(ρ[i]?).map (Sl.see (m.getD i false))
 | [],[],i=>by simp [vis]
 | _::_,[],i=>by simp [vis]
 | [],s::r,0=>by simp [vis]
 | b::m,s::r,0=>by simp [vis]
 | [],s::r,i+1=>by simpa [vis] using Kz [] r i
 | b::m,s::r,i+1=>by simpa [vis] using Kz m r i
theorem Mm:∀(m:List Bool) (ρ:DS),(vis m ρ).length=ρ.length
 | [],[]=>rfl
 | _::_,[]=>rfl
 | [],s::r=>by simp [vis,Mm [] r]
 | b::m,s::r=>by simp [vis,Mm m r]
theorem Sl.frz_false (s:Sl):s.frz false=s:=by cases s<;>simp [Sl.frz]
theorem Ky:∀(m:List Bool) (ρ:DS) (i:Nat),(L2.frz m ρ)[i]?=(ρ[i]?).map (Sl.frz (m.getD i false))
 | [],[],i=>by simp [frz]
 | _::_,[],i=>by simp [frz]
 | [],s::r,i=>by
  simp only [frz,List.getD_nil];cases h:(s::r)[i]? with
  | none=>rfl
  | some x=>simp [Sl.frz_false]
 | b::m,s::r,0=>by simp [frz]
 | b::m,s::r,i+1=>by simpa [frz] using Ky m r i
theorem Vy:∀(m:List Bool) (ρ:DS),(L2.frz m ρ).length=ρ.length
 | [],[]=>rfl
 | _::_,[]=>rfl
 | [],s::r=>rfl
 | b::m,s::r=>by simp [frz,Vy m r]
structure RS (K:Frag) (Hc Hb H0:Hp) (ρ:DS) (U:St) (H:Hp):Prop where
 sb:Same Hb H
 ext:Ext Hc Hb H0 H
 len:ρ.length=U.length
 im:∀(i:Nat) d,ρ[i]?=some (.im d)->∃v,U[i]?=some (some v)/\RD K H0 d v
 ow:∀(i:Nat) d,ρ[i]?=some (.ow d)->∃a,U[i]?=some (some (.ref a))/\H0 a=none/\Hb a=none/\OB K H0 H a d
 ap:∀(i j:Nat) d e a,ρ[i]?=some (.ow d)->ρ[j]?=some (.ow e)->U[i]?=some (some (.ref a))->U[j]?=some (some (.ref a))->i=j
theorem RS.grow {K:Frag} {Hc Hb H0 H H':Hp} {ρ:DS} {U:St} (R:RS K Hc Hb H0 ρ U H) (s:Same H H'):RS K Hc Hb H0 ρ U H':=
 ⟨R.sb.trans s,R.ext.grow s,R.len,R.im,fun i d e=>by obtain ⟨a,h1,h2,h3,h4⟩:=R.ow i d e;exact ⟨a,h1,h2,h3,h4.mono (Same.refl _) s⟩,R.ap⟩
def Msk (m:List Bool) (ρ:DS) (U:St) (a:Addr):Prop:=∃i d,m.getD i false=true/\ρ[i]?=some (.ow d)/\U[i]?=some (some (.ref a))
open Classical in
noncomputable def HeOf (m:List Bool) (ρ:DS) (U:St) (H0 H:Hp):Hp:=fun a=>if Msk m ρ U a then H a else H0 a
open Classical in
noncomputable def HdOf (m:List Bool) (ρ:DS) (U:St) (H0:Hp):Hp:=fun a=>if Msk m ρ U a then none else H0 a
section
variable {K:Frag} {Hc Hb H0 H H':Hp} {ρ:DS} {U:St} {m:List Bool}
theorem RS.msk (R:RS K Hc Hb H0 ρ U H) (h:Msk m ρ U a):H0 a=none/\Hb a=none/\∃o,H a=some o/\¬Imm o:=by obtain ⟨i,d,_,h1,h2⟩:=h;obtain ⟨a',q1,q2,q3,q4⟩:=R.ow i d h1;rw [h2] at q1;cases q1;exact ⟨q2,q3,q4.some⟩
theorem Gc (h:Msk m ρ U a):HeOf m ρ U H0 H a=H a:=by unfold HeOf;exact ζ h
theorem Ah (h:¬Msk m ρ U a):HeOf m ρ U H0 H a=H0 a:=by unfold HeOf;exact ξ h
theorem Gb (h:Msk m ρ U a):HdOf m ρ U H0 a=none:=by unfold HdOf;exact ζ h
theorem Ag (h:¬Msk m ρ U a):HdOf m ρ U H0 a=H0 a:=by unfold HdOf;exact ξ h
theorem RS.he0 (R:RS K Hc Hb H0 ρ U H) (m:List Bool):Same H0 (HeOf m ρ U H0 H):=fun b o e=>by
 by_cases h:Msk m ρ U b
 . rw [(R.msk h).1] at e;cases e
 . rw [Ah h];exact e
theorem RS.heH (R:RS K Hc Hb H0 ρ U H) (m:List Bool):Same (HeOf m ρ U H0 H) H:=fun b o e=>by
 by_cases h:Msk m ρ U b
 . rw [Gc h] at e;exact e
 . rw [Ah h] at e;exact R.ext.2.1 b o e
theorem RS.re (R:RS K Hc Hb H0 ρ U H) (m:List Bool):RE K (HeOf m ρ U H0 H) (vis m ρ) U:=by
 refine ⟨by rw [Mm];exact R.len,fun i d e=>?_⟩;rw [Kz] at e;cases q:ρ[i]? with
 | none=>rw [q] at e;cases e
 | some s=>
  rw [q] at e
  simp only [Option.map_some,Option.some.injEq] at e
  cases s with
  | em=>cases e
  | im d'=>
   cases e
   obtain ⟨v,h1,h2⟩:=R.im i d q
   exact ⟨v,h1,h2.mono (R.he0 m)⟩
  | ow d'=>
   simp only [Sl.see] at e
   split at e
   . rename_i hm;cases e;obtain ⟨a,h1,h2,h3,h4⟩:=R.ow i d q;exact ⟨_,h1,h4.rd (R.he0 m) (Gc ⟨i,d,hm,q,h1⟩)⟩
   . cases e
def o9 (keep:Bool) (m:List Bool) (ρ:DS):DS:=if keep=true then ρ else frz m ρ
def keeps (fr:Bool) (d:D):Bool:=if fr=true then d.shal else d.noL
def Apt (K:Frag) (fr:Bool) (Hb H0:Hp) (ρ:DS) (U:St) (H:Hp) (d:D) (v:V):Prop:=
 if fr=true then ∃p,v=.ref p/\H0 p=none/\Hb p=none/\OB K H0 H p d/\∀(i:Nat) e,ρ[i]?=some (.ow e)->U[i]?≠some (some (.ref p)) else RD K H0 d v
theorem Ga (h:(o9 keep m ρ)[i]?=some (.ow d)):ρ[i]?=some (.ow d)/\(keep=false->m.getD i false=false):=by
 unfold o9 at h;cases keep with
 | true=>exact ⟨h,fun z=>nomatch z⟩
 | false=>
  rw [ξ θ,Ky] at h
  cases q:ρ[i]? with
  | none=>rw [q] at h;cases h
  | some s=>
   rw [q] at h
   simp only [Option.map_some,Option.some.injEq] at h
   cases s with
   | em=>cases h
   | im d'=>cases h
   | ow d'=>
    simp only [Sl.frz] at h
    split at h
    . cases h
    . rename_i hm;cases h;exact ⟨rfl,fun _=>by simpa using hm⟩
theorem RS.frame (R:RS K Hc Hb H0 ρ U H) (s:Same H H') (e:Ext (HeOf m ρ U H0 H) H H0' H') (keep:Bool) :
  ∃H0n,RS K Hc Hb H0n (o9 keep m ρ) U H'/\TK H0' H0n/\(keep=false->H0n=H0')/\(∀p,H0' p=none->H0n p=none)/\Same H0 H0n:=by
 have hunm:∀(i:Nat) d' a,ρ[i]?=some (.ow d')->U[i]?=some (some (.ref a))->¬Msk m ρ U a->H0' a=none:=fun i d' a h1 h2 h3=>by obtain ⟨a',q1,q2,q3,q4⟩:=R.ow i d' h1;rw [h2] at q1;cases q1;obtain ⟨u,hu,ni⟩:=q4.some;exact e.no s hu ni (by rw [Ah h3];exact q2)
 have nmsk:∀{i:Nat} {d':D} {a:Addr},ρ[i]?=some (.ow d')->U[i]?=some (some (.ref a))->m.getD i false=false->¬Msk m ρ U a:=fun {i d' a} h1 h2 h3 ⟨j,e',q1,q2,q3⟩=>by have:=R.ap i j d' e' a h1 q2 h2 q3;subst this;rw [h3] at q1;cases q1
 cases keep with
 | true=>
  have hth:o9 true m ρ=ρ:=rfl
  have s0:Same H0 (HdOf m ρ U H0'):=fun b u q=>by
   have hb:¬Msk m ρ U b:=fun z=>by rw [(R.msk z).1] at q;cases q
   rw [Ag hb];exact e.1 b u (R.he0 m b u q)
  have tk:TK H0' (HdOf m ρ U H0'):=fun b u hi q=>by
   have hb:¬Msk m ρ U b:=fun z=>by obtain ⟨_,_,w,hw,hn⟩:=R.msk z;have:=e.1 b w (by rw [Gc z];exact hw);rw [q] at this;cases this;exact hn hi
   rw [Ag hb];exact q
  refine ⟨HdOf m ρ U H0',⟨R.sb.trans s,⟨R.ext.1.trans s0,fun b u q=>?_,fun a h1 h2=>?_⟩,R.len,fun i d' q=>?_,fun i d' q=>?_,R.ap⟩,tk,(fun z=>nomatch z),fun p hp=>?_,s0⟩
  . by_cases hb:Msk m ρ U b
    . rw [Gb hb] at q;cases q
    . rw [Ag hb] at q;exact e.2.1 b u q
  . by_cases hb:Msk m ρ U a
    . exact .inl (Gb hb)
    . rw [Ag hb];exact e.nt (R.sb.ne h1) (by rw [Ah hb];exact R.ext.2.2 a h1 h2)
  . obtain ⟨w,h1,h2⟩:=R.im i d' q;exact ⟨w,h1,h2.mono s0⟩
  . obtain ⟨a,h1,h2,h3,h4⟩:=R.ow i d' q;refine ⟨a,h1,?_,h3,h4.mono s0 s⟩;by_cases hb:Msk m ρ U a
    . exact Gb hb
    . rw [Ag hb];exact hunm i d' a q h1 hb
  . by_cases hb:Msk m ρ U p
    . exact Gb hb
    . rw [Ag hb];exact hp
 | false=>
  refine ⟨H0',⟨R.sb.trans s,?_,?_,fun i d' q=>?_,fun i d' q=>?_,fun i j d1 d2 a q1 q2=>?_⟩,fun _ _ _ z=>z,fun _=>rfl,fun _ z=>z,(R.he0 m).trans e.1⟩
  . refine ⟨R.ext.1.trans ((R.he0 m).trans e.1),e.2.1,fun a h1 h2=>e.nt (R.sb.ne h1) ?_⟩;have hb:¬Msk m ρ U a:=fun z=>h1 (R.msk z).2.1
    rw [Ah hb];exact R.ext.2.2 a h1 h2
  . show (L2.frz m ρ).length=_;rw [Vy];exact R.len
  . have q':(L2.frz m ρ)[i]?=some (.im d'):=q;rw [Ky] at q';cases hs:ρ[i]? with
    | none=>rw [hs] at q';cases q'
    | some sl=>
     rw [hs] at q'
     simp only [Option.map_some,Option.some.injEq] at q'
     cases sl with
     | em=>cases q'
     | im d2=>
      cases q'
      obtain ⟨w,h1,h2⟩:=R.im i d' hs
      exact ⟨w,h1,h2.mono ((R.he0 m).trans e.1)⟩
     | ow d2=>
      simp only [Sl.frz] at q'
      split at q'
      . rename_i hm;cases q';obtain ⟨a,h1,h2,h3,h4⟩:=R.ow i d' hs;obtain ⟨u,hu,_⟩:=h4.some;refine ⟨_,h1,h4.rd ((R.he0 m).trans e.1) ?_⟩;rw [hu];exact e.1 a u (by rw [Gc ⟨i,d',hm,hs,h1⟩];exact hu)
      . cases q'
  . obtain ⟨q1,q2⟩:=Ga q;obtain ⟨a,h1,h2,h3,h4⟩:=R.ow i d' q1;exact ⟨a,h1,hunm i d' a q1 h1 (nmsk q1 h1 (q2 rfl)),h3,h4.mono ((R.he0 m).trans e.1) s⟩
  . exact R.ap i j d1 d2 a (Ga q1).1 (Ga q2).1
theorem RS.out (R:RS K Hc Hb H0 ρ U H) (o:Out K fr (HeOf m ρ U H0 H) H d v H') :
  ∃H0n,RS K Hc Hb H0n (o9 (keeps fr d) m ρ) U H'/\Apt K fr Hb H0n (o9 (keeps fr d) m ρ) U H' d v:=by
 obtain ⟨s,H0',e,r⟩:=o
 obtain ⟨H0n,R',tk,eq,hn,_⟩:=R.frame s e (keeps fr d)
 refine ⟨H0n,R',?_⟩
 unfold Apt
 cases fr with
 | false=>
  rw [ξ θ] at r ⊢
  cases hk:keeps false d with
  | true=>exact r.tk tk (by simpa [keeps] using hk)
  | false=>rw [eq hk];exact r
 | true=>
  rw [ζ rfl] at r ⊢
  obtain ⟨p,rfl,hp,hp0,ob⟩:=r
  refine ⟨p,rfl,hn p hp0,R.sb.none hp,?_,fun i e' q z=>?_⟩
  . cases hk:keeps true d with
    | true=>exact ob.tk (by simpa [keeps] using hk) tk
    | false=>rw [eq hk];exact ob
  . obtain ⟨a,h1,_,_,h4⟩:=R.ow i e' (Ga q).1;rw [z] at h1;cases h1;obtain ⟨u,hu,_⟩:=h4.some;rw [hp] at hu;cases hu
theorem RS.outs (R:RS K Hc Hb H0 ρ U H) (s:Same H H') (e:Ext (HeOf m ρ U H0 H) H H0' H') (r:RDs K H0' ds vs) :
  ∃H0n,RS K Hc Hb H0n (o9 (i9 ds) m ρ) U H'/\RDs K H0n ds vs:=by
 obtain ⟨H0n,R',tk,eq,hn,_⟩:=R.frame s e (i9 ds)
 refine ⟨H0n,R',?_⟩
 cases hk:i9 ds with
 | true=>exact r.tk tk hk
 | false=>rw [eq hk];exact r
noncomputable def L7 (fr:Bool) (i:Nat) (d:D) (ρ:DS):DS:=ρ.set i (if fr=true then .ow d else .im d)
theorem RS.put (R:RS K Hc Hb H0 ρ U H) (a:Apt K fr Hb H0 ρ U H d v) (i:Nat):RS K Hc Hb H0 (L7 fr i d ρ) (U.set i (some v)) H:=by
 unfold L7;have other:∀{j:Nat} {s:Sl},j≠i->(ρ.set i s)[j]?=ρ[j]?:=fun {j s} h=>by rw [List.getElem?_set_ne (Ne.symm h)]
 have otherσ:∀{j:Nat},j≠i->(U.set i (some v))[j]?=U[j]?:=fun {j} h=>by rw [List.getElem?_set_ne (Ne.symm h)]
 have here:∀{s s':Sl},(ρ.set i s)[i]?=some s'->s'=s/\(U.set i (some v))[i]?=some (some v):=fun {s s'} h=>by
  have hi:i<ρ.length:=by have:=(List.getElem?_eq_some_iff.mp h).1;simpa using this
  rw [List.getElem?_set_self hi] at h;cases h;exact ⟨rfl,by rw [List.getElem?_set_self (by rw [<-R.len];exact hi)]⟩
 refine ⟨R.sb,R.ext,by rw [List.length_set,List.length_set];exact R.len,fun j d' q=>?_,fun j d' q=>?_,fun j k d1 d2 b q1 q2 z1 z2=>?_⟩
 . by_cases hj:j=i
   . subst hj;obtain ⟨h1,h2⟩:=here q;refine ⟨v,h2,?_⟩;cases fr with
     | false=>
      rw [ξ θ] at h1;cases h1
      unfold Apt at a
      rw [ξ θ] at a;exact a
     | true=>rw [ζ rfl] at h1;cases h1
   . rw [other hj] at q;rw [otherσ hj];exact R.im j d' q
 . by_cases hj:j=i
   . subst hj;obtain ⟨h1,h2⟩:=here q;cases fr with
     | false=>rw [ξ θ] at h1;cases h1
     | true=>
      rw [ζ rfl] at h1;cases h1
      unfold Apt at a
      rw [ζ rfl] at a
      obtain ⟨p,rfl,a1,a2,a3,_⟩:=a
      exact ⟨p,h2,a1,a2,a3⟩
   . rw [other hj] at q;rw [otherσ hj];exact R.ow j d' q
 . by_cases hj:j=i
   . by_cases hk:k=i
     . rw [hj,hk]
     . subst hj;obtain ⟨h1,h2⟩:=here q1;rw [other hk] at q2;rw [otherσ hk] at z2;rw [h2] at z1;cases fr with
       | false=>rw [ξ θ] at h1;cases h1
       | true=>
        unfold Apt at a
        rw [ζ rfl] at a
        obtain ⟨p,rfl,_,_,_,a4⟩:=a
        cases z1
        exact absurd z2 (a4 k d2 q2)
   . by_cases hk:k=i
     . subst hk;obtain ⟨h1,h2⟩:=here q2;rw [other hj] at q1;rw [otherσ hj] at z1;rw [h2] at z2;cases fr with
       | false=>rw [ξ θ] at h1;cases h1
       | true=>
        unfold Apt at a
        rw [ζ rfl] at a
        obtain ⟨p,rfl,_,_,_,a4⟩:=a
        cases z2
        exact absurd z1 (a4 j d1 q1)
     . rw [other hj] at q1;rw [other hk] at q2;rw [otherσ hj] at z1;rw [otherσ hk] at z2;exact R.ap j k d1 d2 b q1 q2 z1 z2
end
inductive SR where
 | nx (ρ:DS) | bk (ρ:DS) | ct (ρ:DS) | rt (d:D) | er (x:Ex) | st
def SK (K:Frag) (EX:XW) (fr:Bool) (Hc Hb:Hp) (De:Ends):SR->Prop
 | .nx ρ=>∀U H H0,RS K Hc Hb H0 ρ U H->De.nx U H
 | .bk ρ=>∀U H H0,RS K Hc Hb H0 ρ U H->De.bk U H
 | .ct ρ=>∀U H H0,RS K Hc Hb H0 ρ U H->De.ct U H
 | .rt d=>∀v H,Out K fr Hc Hb d v H->De.rt v H
 | .er x=>EX.at x
 | .st=>False
noncomputable def TSd (K:Frag) (EX:XW) (fr:Bool) (g:DS->SR):TS:=fun De U H=>∃Hc Hb H0 ρ,Same EX.hb Hb/\RS K Hc Hb H0 ρ U H/\SK K EX fr Hc Hb De (g ρ)
noncomputable def R.toS {α:Type} (r:R α) (k:α->SR):SR:=match r with
 | .ok a=>k a
 | .er x=>.er x
 | .st=>.st
noncomputable def sNx:DS->SR:=fun ρ=>.nx ρ
noncomputable def g8 (g1 g2:DS->SR):DS->SR:=fun ρ=>match g1 ρ with
 | .nx ρ'=>g2 ρ'
 | r=>r
noncomputable def see (ρ:DS):DE:=ρ.map (Sl.see true)
def sIf (t:DE->R Bool) (g1 g2:DS->SR):DS->SR:=fun ρ=>(t (see ρ)).toS fun b=>if b=true then g1 ρ else g2 ρ
def h9 (fr:Bool) (i:Nat) (m:List Bool) (f:DE->R D):DS->SR:=fun ρ=>(f (vis m ρ)).toS fun d=>.nx (L7 fr i d (o9 (keeps fr d) m ρ))
def j9 (m:List Bool) (f:DE->R D):DS->SR:=fun ρ=>(f (vis m ρ)).toS fun d=>.rt d
noncomputable def zyv:DS->SR:=fun _=>.rt .non
noncomputable def Fk (i:Nat):DS->SR:=fun ρ=>match ρ[i]? with
 | some (.ow d)=>.rt d
 | _=>.st
def Cw (f:DE->R D):DS->SR:=fun ρ=>(f (see ρ)).toS fun _=>.nx ρ
section
variable {K:Frag} {EX:XW} {fr:Bool} {Hc Hb H0 H H':Hp} {ρ:DS} {U:St} {De:Ends} {m:List Bool}
theorem SK.toS:SK K EX fr Hc Hb De (r.toS k)=Rk EX.at r fun a=>SK K EX fr Hc Hb De (k a):=by cases r<;>rfl
theorem Do:∀(ρ:DS),vis (List.replicate ρ.length true) ρ=see ρ
 | []=>rfl
 | s::r=>by show s.see true::vis (List.replicate r.length true) r=_;rw [Do r];rfl
theorem RS.extE (R:RS K Hc Hb H0 ρ U H) (m:List Bool):Ext Hc Hb (HeOf m ρ U H0 H) H:=
 ⟨R.ext.1.trans (R.he0 m),R.heH m,fun a h1 h2=>by
  have hb:¬Msk m ρ U a:=fun z=>h1 (R.msk z).2.1
  rw [Ah hb];exact R.ext.2.2 a h1 h2⟩
theorem RS.te (I:RS K Hc Hb H0 ρ U H) (sb:Same EX.hb Hb) (h:Rk EX.at (f (vis m ρ)) k)
  (hk:∀d,k d->∀v H' H0n,RS K Hc Hb H0n (o9 (keeps fr' d) m ρ) U H'->Apt K fr' Hb H0n (o9 (keeps fr' d) m ρ) U H' d v->Q v H'):TEd K EX fr' f U H Q:=
 ⟨sb.trans I.sb,vis m ρ,HeOf m ρ U H0 H,I.heH m,I.re m,h.mono fun d z v H' o=>by obtain ⟨H0n,R',a⟩:=I.out o;exact hk d z v H' H0n R' a⟩
theorem RS.tt (I:RS K Hc Hb H0 ρ U H) (sb:Same EX.hb Hb) (h:Rk EX.at (f (see ρ)) k) (hk:∀b,k b->∀H',RS K Hc Hb H0 ρ U H'->Q b H'):TTd K EX f U H Q:=by refine ⟨sb.trans I.sb,see ρ,HeOf (List.replicate ρ.length true) ρ U H0 H,I.heH _,?_,h.mono fun b z H' s=>hk b z H' (I.grow s)⟩;rw [<-Do];exact I.re _
theorem Xx (h:TSd K EX fr sNx De U H):Oq De U H:=by obtain ⟨Hc,Hb,H0,ρ,sb,R,h⟩:=h;exact h U H H0 R
theorem Ny (h:TSd K EX fr (g8 g1 g2) De U H):Hj (TSd K EX fr g1) (TSd K EX fr g2) De U H:=by
 obtain ⟨Hc,Hb,H0,ρ,sb,R,h⟩:=h;refine ⟨Hc,Hb,H0,ρ,sb,R,?_⟩;unfold g8 at h;cases q:g1 ρ with
 | nx ρ'=>rw [q] at h;exact fun σ' H' H0' R'=>⟨Hc,Hb,H0',ρ',sb,R',h⟩
 | bk ρ'=>rw [q] at h;exact h
 | ct ρ'=>rw [q] at h;exact h
 | rt d=>rw [q] at h;exact h
 | er x=>rw [q] at h;exact h
 | st=>rw [q] at h;exact h
theorem Nw (h:TSd K EX fr (sIf t g1 g2) De U H):Yr (TTd K EX t) (TSd K EX fr g1) (TSd K EX fr g2) De U H:=by
 obtain ⟨Hc,Hb,H0,ρ,sb,R,h⟩:=h;unfold sIf at h;rw [SK.toS] at h;refine R.tt sb h fun b h H' R'=>?_
 cases b with
 | true=>exact ⟨Hc,Hb,H0,ρ,sb,R',h⟩
 | false=>exact ⟨Hc,Hb,H0,ρ,sb,R',h⟩
theorem Fh (h:TSd K EX fr (h9 fr' i m f) De U H):O2 (TEd K EX fr' f) (B0 i) De U H:=by obtain ⟨Hc,Hb,H0,ρ,sb,R,h⟩:=h;unfold h9 at h;rw [SK.toS] at h;exact R.te sb h fun d h v H' H0n R' a=>h _ H' H0n (R'.put a i)
theorem Zm (h:TSd K EX fr (j9 m f) De U H):Hi (TEd K EX fr f) De U H:=by obtain ⟨Hc,Hb,H0,ρ,sb,R,h⟩:=h;unfold j9 at h;rw [SK.toS] at h;exact ⟨sb.trans R.sb,vis m ρ,HeOf m ρ U H0 H,R.heH m,R.re m,h.mono fun d z v H' o=>z v H' (o.after R.sb (R.extE m))⟩
theorem kG (h:TSd K EX true (Fk i) De U H):Hi (w8 i) De U H:=by
 obtain ⟨Hc,Hb,H0,ρ,sb,R,h⟩:=h;unfold Fk at h;split at h
 . rename_i d q;obtain ⟨a,h1,h2,h3,h4⟩:=R.ow i d q;show w8 i U H De.rt;unfold w8;rw [h1];exact h _ H (.fresh R.sb R.ext h3 h2 h4)
 . exact h.elim
theorem kF (h:TSd K EX fr (Cw f) De U H):X9 (TEd K EX false f) De U H:=by obtain ⟨Hc,Hb,H0,ρ,sb,R,h⟩:=h;unfold Cw at h;rw [SK.toS] at h;refine ⟨sb.trans R.sb,see ρ,HeOf (List.replicate ρ.length true) ρ U H0 H,R.heH _,by rw [<-Do];exact R.re _,h.mono fun d z v H' o=>?_⟩;exact z U H' H0 (R.grow o.1)
theorem RS.mutate (R:RS K Hc Hb H0 ρ U H) (h:ρ[i]?=some (.ow d)) (ha:U[i]?=some (some (.ref a))) (ob:OB K H0 (upd H a o) a d'):RS K Hc Hb H0 (ρ.set i (.ow d')) U (upd H a o):=by
 obtain ⟨a',q1,q2,q3,q4⟩:=R.ow i d h;rw [ha] at q1;cases q1;have hi:i<ρ.length:=(List.getElem?_eq_some_iff.mp h).1;have other:∀{j:Nat} {s:Sl},j≠i->(ρ.set i s)[j]?=ρ[j]?:=fun {j s} h=>by rw [List.getElem?_set_ne (Ne.symm h)]
 have here:(ρ.set i (.ow d'))[i]?=some (.ow d'):=by rw [List.getElem?_set_self hi]
 have sm:∀{H1:Hp},Same H1 H->H1 a=none->Same H1 (upd H a o):=fun s n=>s.upd_at n
 refine ⟨sm R.sb q3,⟨R.ext.1,sm R.ext.2.1 q2,R.ext.2.2⟩,by rw [List.length_set];exact R.len,fun j d2 q=>?_,fun j d2 q=>?_,fun j k d1 d2 b z1 z2=>?_⟩
 . have hj:j≠i:=fun z=>by subst z;rw [here] at q;cases q
   rw [other hj] at q;exact R.im j d2 q
 . by_cases hj:j=i
   . subst hj;rw [here] at q;cases q;exact ⟨a,ha,q2,q3,ob⟩
   . rw [other hj] at q;obtain ⟨b,h1,h2,h3,h4⟩:=R.ow j d2 q;have hb:b≠a:=fun z=>hj (R.ap j i d2 d b q h h1 (by rw [z];exact ha))
     exact ⟨b,h1,h2,h3,h4.at (m9 hb)⟩
 . have back:∀{j:Nat} {d1:D},(ρ.set i (.ow d'))[j]?=some (.ow d1)->∃d0,ρ[j]?=some (.ow d0):=fun {j d1} z=>by
    by_cases hj:j=i
    . subst hj;exact ⟨d,h⟩
    . rw [other hj] at z;exact ⟨_,z⟩
   obtain ⟨e1,z1⟩:=back z1
   obtain ⟨e2,z2⟩:=back z2
   exact R.ap j k e1 e2 b z1 z2
def Cb (K:Frag) (mt:D->List D->Option D) (r:V->List V->Hp->VK->Prop):Prop:=∀(H0 H:Hp) (a:Addr) (d d':D) (ds:List D) (vs:List V) (Q:VK),Same H0 H->H0 a=none->OB K H0 H a d->RDs K H0 ds vs->mt d ds=some d' ->
 (∀v o,OB K H0 (upd H a o) a d'->Q v (upd H a o))->r (.ref a) vs H Q
noncomputable def isT (T:String):D->Bool
 | .lst _=>T=="list"
 | .dk _ _=>T=="dict"
 | .dt _ _=>T=="dict"
 | _=>false
def TyD (K:Frag) (T:String):Prop:=∀(H0 H:Hp) (a:Addr) (d:D),OB K H0 H a d->isT T d=true->tyV K T (.ref a) H
def G2 (T:String) (mt:D->List D->Option D) (i:Nat) (m:List Bool) (fs:DE->R (List D)):DS->SR:=fun ρ=>match ρ[i]? with
 | some (.ow d0)=>if isT T d0=true then (fs (vis m ρ)).toS fun ds=>match (o9 (i9 ds) m ρ)[i]? with
  | some (.ow d)=>(R.of (mt d ds)).toS fun d'=>.nx ((o9 (i9 ds) m ρ).set i (.ow d'))
  | _=>.st
  else .st
 | _=>.st
theorem Zl {T:String} {mt:D->List D->Option D} {r:V->List V->Hp->VK->Prop} {i:Nat} {fs:DE->R (List D)} (hm:Cb K mt r) (hT:TyD K T) (h:TSd K EX fr (G2 T mt i m fs) De U H) :
  X9 (tBM K T r (w8 i) (TAd K EX fs)) De U H:=by
 obtain ⟨Hc,Hb,H0,ρ,sb,R,h⟩:=h
 unfold G2 at h
 split at h
 . rename_i d0 q0;split at h
   . rename_i hty;rw [SK.toS] at h;obtain ⟨a,h1,h2,h3,h4⟩:=R.ow i d0 q0;unfold X9 tBM w8;rw [h1];refine ⟨hT H0 H a d0 h4 hty,sb.trans R.sb,vis m ρ,HeOf m ρ U H0 H,R.heH m,R.re m,h.mono fun ds h vs H' H0' s e rds=>?_⟩;obtain ⟨H0n,R',rd'⟩:=R.outs s e rds;split at h
     . rename_i d q;rw [SK.toS] at h;obtain ⟨d',hd',h⟩:=h.of;obtain ⟨a',z1,z2,z3,z4⟩:=R'.ow i d q;rw [h1] at z1;cases z1;exact hm H0n H' a d d' ds vs _ R'.ext.2.1 z2 z4 rd' hd' fun v o ob=>h U _ H0n (R'.mutate q h1 ob)
     . exact h.elim
   . exact h.elim
 . exact h.elim
def zyy (T:String) (mt:D->List D->Option D) (i:Nat):DS->SR:=fun ρ=>match ρ[i]? with
 | some (.ow d)=>if isT T d=true then (R.of (mt d [])).toS fun d'=>.nx (ρ.set i (.ow d')) else .st
 | _=>.st
def y2e (st:D->D->D->Option D) (i:Nat) (m:List Bool) (fk fv:DE->R D):DS->SR:=fun ρ=>(fv (vis m ρ)).toS fun dv=>match (o9 (keeps false dv) m ρ)[i]? with
 | some (.ow _)=>(fk (vis m (o9 (keeps false dv) m ρ))).toS fun dk=>(match (o9 (keeps false dk) m (o9 (keeps false dv) m ρ))[i]? with
  | some (.ow d)=>(R.of (st d dk dv)).toS fun d'=>.nx ((o9 (keeps false dk) m (o9 (keeps false dv) m ρ)).set i (.ow d'))
  | _=>.st)
 | _=>.st
end
section
variable {K:Frag} {EX:XW} {fr:Bool} {Hc Hb H0 H H':Hp} {ρ:DS} {U:St} {De:Ends} {m:List Bool}
inductive Tg where
 | n (i:Nat) | t (is:List Nat)
def Kk:List Nat->List D->DS->DS
 | i::is,d::ds,ρ=>Kk is ds (L7 false i d ρ)
 | _,_,ρ=>ρ
noncomputable def items:D->Option (List D)
 | .tup ds=>some ds
 | .lst ds=>some ds
 | _=>none
def S1:Tg->D->DS->Option DS
 | .n i,d,ρ=>some (L7 false i d ρ)
 | .t is,d,ρ=>(items d).bind fun ds=>if ds.length=is.length then some (Kk is ds ρ) else none
def TGd (K:Frag) (tg:Tg):TG:=fun v U H Q=>∃Hc Hb H0 ρ d ρ',RS K Hc Hb H0 ρ U H/\RD K H0 d v/\S1 tg d ρ=some ρ'/\∀σ',RS K Hc Hb H0 ρ' σ' H->Q σ' H
theorem RS.putI (I:RS K Hc Hb H0 ρ U H) (r:RD K H0 d v) (i:Nat):RS K Hc Hb H0 (L7 false i d ρ) (U.set i (some v)) H:=
 I.put (fr:=false) (by unfold Apt;rw [ξ θ];exact r) i
theorem y2f (h:TGd K (.n i) v U H Q):B0 i v U H Q:=by obtain ⟨Hc,Hb,H0,ρ,d,ρ',I,r,e,q⟩:=h;simp only [S1,Option.some.injEq] at e;subst e;exact q _ (I.putI r i)
def Fs:List Nat->TGs
 | []=>Oe
 | i::is=>Qp (B0 i) (Fs is)
theorem Mg:∀(is:List Nat) {ds:List D} {xs:List V} {ρ:DS} {U:St} {Q:St->Hp->Prop},RS K Hc Hb H0 ρ U H->RDs K H0 ds xs->ds.length=is.length->(∀σ',RS K Hc Hb H0 (Kk is ds ρ) σ' H->Q σ' H)->Fs is xs U H Q
 | [],[],_,ρ,U,Q,I,r,_,q=>by simp only [RDs] at r;subst r;exact q U I
 | [],_::_,_,_,_,_,_,_,hl,_=>by simp at hl
 | _::_,[],_,_,_,_,_,_,hl,_=>by simp at hl
 | i::is,d::ds,_,ρ,U,Q,I,r,hl,q=>by simp only [RDs] at r;obtain ⟨x,xs,rfl,r1,r2⟩:=r;exact Mg is (I.putI r1 i) r2 (by simpa using hl) q
theorem y2g (h:TGd K (.t is) v U H Q):Cq is.length (Fs is) v U H Q:=by
 obtain ⟨Hc,Hb,H0,ρ,d,ρ',I,r,e,q⟩:=h;simp only [S1] at e;cases d<;>simp only [items,Option.bind_none,Option.bind_some] at e<;>first | cases e | skip
 . rename_i ds;split at e
   . rename_i hl;cases e;simp only [RD] at r;obtain ⟨a,xs,rfl,ha,rs⟩:=r;unfold Cq;simp only [I.ext.2.1 a _ ha];exact ⟨by rw [<-rs.length];exact hl,Mg is I rs hl q⟩
   . cases e
 . rename_i ds;split at e
   . rename_i hl;cases e;simp only [RD] at r;obtain ⟨a,xs,rfl,ha,rs⟩:=r;unfold Cq;simp only [I.ext.2.1 a _ ha];exact ⟨by rw [<-rs.length];exact hl,Mg is I rs hl q⟩
   . cases e
def y2h (tg:Tg) (m:List Bool) (f:DE->R D):DS->SR:=fun ρ=>(f (vis m ρ)).toS fun d=>match S1 tg d (o9 (keeps false d) m ρ) with
 | some ρ'=>.nx ρ'
 | none=>.st
noncomputable def Hno:Hp:=fun _=>none
def Ca (K:Frag) (J:It) (H0:Hp) (ds:List D):Prop:=
 (∀(i:Nat) d,ds[i]?=some d->∀H H1,Same H0 H1->Same H1 H->J.go i H/\∀x H',J.yld i H x H'->Same H H'/\∃H1',Ext H1 H H1' H'/\RD K H1' d x)/\∀H,Same H0 H->J.stop ds.length H
def TId (K:Frag) (EX:XW) (kp:Bool) (f:DE->R (List D)):TI:=fun U H Q=>Same EX.hb H/\∃ρ H0,Same H0 H/\RE K H0 ρ U/\Rk EX.at (f ρ) fun ds=>∀J H' H0',Same H H'->Ext H0 H H0' H'->Ca K J (if kp=true then Hno else H0') ds->Q J H'
def w6 (tg:Tg) (g:DS->SR):List D->DS->SR
 | [],ρ=>.nx ρ
 | d::ds,ρ=>match S1 tg d ρ with
  | none=>.st
  | some ρ1=>match g ρ1 with
   | .nx ρ2=>w6 tg g ds ρ2
   | .ct ρ2=>w6 tg g ds ρ2
   | .bk ρ2=>.nx ρ2
   | .rt d=>.rt d
   | .er x=>.er x
   | .st=>.st
def L9 (kp:Bool) (m:List Bool) (f:DE->R (List D)) (tg:Tg) (g:DS->SR):DS->SR:=fun ρ=>(f (vis m ρ)).toS fun ds=>w6 tg g ds (o9 kp m ρ)
theorem Ext.base (a:Ext Hc Hb Hc' H) (b:Ext Hc' Hb H0 H'):Ext Hc Hb H0 H':=⟨a.1.trans b.1,b.2.1,fun c h1 h2=>b.nt h1 (a.2.2 c h1 h2)⟩
theorem RS.base (a:Ext Hc Hb Hc' H1) (I:RS K Hc' Hb H0 ρ U H):RS K Hc Hb H0 ρ U H:=⟨I.sb,a.base I.ext,I.len,I.im,I.ow,I.ap⟩
theorem RS.self (I:RS K Hc Hb H0 ρ U H):RS K H0 Hb H0 ρ U H:=⟨I.sb,⟨Same.refl _,I.ext.2.1,fun _ _ z=>.inl z⟩,I.len,I.im,I.ow,I.ap⟩
theorem Out.base (a:Ext Hc Hb Hc' H) (o:Out K fr Hc' Hb d v H'):Out K fr Hc Hb d v H':=by obtain ⟨s,H0',e,r⟩:=o;exact ⟨s,H0',a.base e,r⟩
theorem RS.sees (I:RS K Hc Hb H0 ρ U H) (s:Same H H') (e:Ext H0 H H1' H'):RS K Hc Hb H1' ρ U H':=
 ⟨I.sb.trans s,⟨I.ext.1.trans e.1,e.2.1,fun a h1 h2=>e.nt (I.sb.ne h1) (I.ext.2.2 a h1 h2)⟩,I.len,fun i d q=>by
  obtain ⟨v,h1,h2⟩:=I.im i d q;exact ⟨v,h1,h2.mono e.1⟩,fun i d q=>by
  obtain ⟨a,h1,h2,h3,h4⟩:=I.ow i d q;obtain ⟨u,hu,ni⟩:=h4.some;exact ⟨a,h1,e.no s hu ni h2,h3,h4.mono e.1 s⟩,I.ap⟩
theorem y2i (sb:Same EX.hb Hb) (I1:RS K Hc Hb Hn ρ U H1) (it':Ca K J Hn ds) (h:SK K EX fr Hc Hb De (w6 tg g ds ρ)):Ye J (TGd K tg) (TSd K EX fr g) De U H1:=by
 have ex1:Ext Hc Hb Hn H1:=I1.ext;refine ⟨fun i mm U H=>mm=ds.length - i/\i<=ds.length/\∃ρ H0,RS K Hn Hb H0 ρ U H/\SK K EX fr Hc Hb De (w6 tg g (ds.drop i) ρ),⟨ds.length,by simp,Nat.zero_le _,_,Hn,I1.self,h⟩,?_⟩;rintro i mm U H ⟨rfl,hi,ρ,H0,I2,h⟩;have sn:Same Hn H0:=I2.ext.1;by_cases hlt:i<ds.length
 . have hd:ds[i]?=some ds[i]:=by simp [hlt]
   obtain ⟨hgo,hy⟩:=it'.1 i _ hd H H0 sn I2.ext.2.1;have hdr:ds.drop i=ds[i]::ds.drop (i+1):=List.drop_eq_getElem_cons hlt;rw [hdr] at h;refine .inr ⟨hgo,fun σ' H'=>∃ρ' H0',RS K Hn Hb H0' ρ' σ' H'/\SK K EX fr Hc Hb De (w6 tg g (ds.drop (i+1)) ρ'),fun σ' H' ⟨ρ',H0',q⟩=>⟨ds.length - (i+1),by omega,rfl,hlt,ρ',H0',q⟩,fun x H' y=>?_⟩;obtain ⟨s3,H3,e3,r3⟩:=hy x H' y;have I3:=I2.sees s3 e3;unfold w6 at h;split at h
   . exact h.elim
   . rename_i ρ1 q1;refine ⟨Hn,Hb,H3,ρ,ds[i],ρ1,I3,r3,q1,fun σ' I4=>⟨Hn,Hb,H3,ρ1,sb,I4,?_⟩⟩;cases qg:g ρ1 with
     | nx ρ2=>rw [qg] at h;exact fun σ5 H5 H05 I5=>⟨ρ2,H05,I5,h⟩
     | ct ρ2=>rw [qg] at h;exact fun σ5 H5 H05 I5=>⟨ρ2,H05,I5,h⟩
     | bk ρ2=>rw [qg] at h;exact fun σ5 H5 H05 I5=>h σ5 H5 H05 (I5.base ex1)
     | rt d=>rw [qg] at h;exact fun v H5 o=>h v H5 (o.base ex1)
     | er x=>rw [qg] at h;exact h
     | st=>rw [qg] at h;exact h
 . have e:i=ds.length:=by omega
   subst e;rw [List.drop_length] at h;refine .inl ⟨it'.2 H (sn.trans I2.ext.2.1),?_⟩;exact h U H H0 (I2.base ex1)
theorem Zk (h:TSd K EX fr (L9 kp m f tg g) De U H):Og (TId K EX kp f) (TGd K tg) (TSd K EX fr g) De U H:=by
 obtain ⟨Hc,Hb,H0,ρ,sb,I,h⟩:=h;unfold L9 at h;rw [SK.toS] at h;refine ⟨sb.trans I.sb,vis m ρ,HeOf m ρ U H0 H,I.heH m,I.re m,h.mono fun ds h J H1 H1' s1 e1 it=>?_⟩;obtain ⟨Hn,I1,tk,eq,hn,sub⟩:=I.frame s1 e1 kp;have it':Ca K J Hn ds:=by
  cases kp with
  | true=>
   rw [ζ rfl] at it
   exact ⟨fun i d q H H1 a b=>it.1 i d q H H1 (fun _ _ z=>nomatch z) b,fun H a=>it.2 H fun _ _ z=>nomatch z⟩
  | false=>rw [ξ θ,<-eq rfl] at it;exact it
 exact y2i sb I1 it' h
def M6 (t:DE->R Bool) (g:DS->SR):Nat->DS->SR
 | 0,_=>.st
 | n+1,ρ=>(t (see ρ)).toS fun b=>if b=true then (match g ρ with
  | .nx ρ2=>M6 t g n ρ2
  | .ct ρ2=>M6 t g n ρ2
  | .bk ρ2=>.nx ρ2
  | .rt d=>.rt d
  | .er x=>.er x
  | .st=>.st) else .nx ρ
def Dg (n:Nat) (t:DE->R Bool) (g:DS->SR):DS->SR:=M6 t g n
theorem vD (h:TSd K EX fr (Dg n t g) De U H):Qt (TTd K EX t) (TSd K EX fr g) De U H:=by
 obtain ⟨Hc,Hb,H0,ρ,sb,I,h⟩:=h;refine ⟨fun mm U H=>∃ρ H0,RS K Hc Hb H0 ρ U H/\SK K EX fr Hc Hb De (M6 t g mm ρ),⟨n,ρ,H0,I,h⟩,?_⟩;rintro mm U H ⟨ρ,H0,I,h⟩;cases mm with
 | zero=>exact h.elim
 | succ mm=>
  unfold M6 at h
  rw [SK.toS] at h
  refine I.tt sb h fun b h H' I'=>?_
  cases b with
  | false=>exact h U H' H0 I'
  | true=>
   rw [ζ rfl] at h ⊢
   refine ⟨fun σ' H'=>∃ρ' H0',RS K Hc Hb H0' ρ' σ' H'/\SK K EX fr Hc Hb De (M6 t g mm ρ'),fun σ' H' q=>⟨mm,Nat.lt_succ_self _,q⟩,Hc,Hb,H0,ρ,sb,I',?_⟩
   cases qg:g ρ with
   | nx ρ2=>rw [qg] at h;exact fun σ5 H5 H05 I5=>⟨ρ2,H05,I5,h⟩
   | ct ρ2=>rw [qg] at h;exact fun σ5 H5 H05 I5=>⟨ρ2,H05,I5,h⟩
   | bk ρ2=>rw [qg] at h;exact fun σ5 H5 H05 I5=>h σ5 H5 H05 I5
   | rt d=>rw [qg] at h;exact fun v H5 o=>h v H5 o
   | er x=>rw [qg] at h;exact h
   | st=>rw [qg] at h;exact h
noncomputable def R.noE {α:Type} (r:R α):R α:=match r with
 | .er _=>.st
 | r=>r
theorem Rk.noE {α:Type} {EX EX':Ex->Prop} {r:R α} {k:α->Prop} (h:Rk EX r.noE k):Rk EX' r k:=by
 cases r with
 | ok a=>exact h
 | er x=>exact h.elim
 | st=>exact h
def BD (K:Frag) (bn:D->Option (List D)) (B:V->Hp->(List V->Hp->Prop)->Prop):Prop:=∀(H0 H:Hp) (x:V) (d:D) (ds:List D) (Q:List V->Hp->Prop),Same H0 H->RD K H0 d x->bn d=some ds->(∀vs,RDs K H0 ds vs->Q vs H)->B x H Q
noncomputable def b1:D->Option (List D):=fun d=>some [d]
noncomputable def bT (n:Nat):D->Option (List D)
 | .tup ds=>if ds.length=n then some ds else none
 | _=>none
theorem Xw:BD K b1 cB1:=fun H0 H x d ds Q s r e q=>by simp only [b1,Option.some.injEq] at e;subst e;exact q [x] (.one r)
theorem Xv:BD K (bT n) (cBT n):=fun H0 H x d ds Q s r e q=>by
 cases d<;>simp only [bT] at e<;>first | cases e | skip
 rename_i es;split at e
 . rename_i hl;cases e;simp only [RD] at r;obtain ⟨a,xs,rfl,ha,rs⟩:=r;unfold cBT;simp only [s a _ ha];exact ⟨by rw [<-rs.length];exact hl,q xs rs⟩
 . cases e
noncomputable def sel (ix:List Nat) (ρ:DE):DE:=ix.map fun j=>(ρ[j]?).getD none
def D9 (bn:D->Option (List D)) (t:DE->R Bool) (f:DE->R D) (cs:DE):List D->R (List D)
 | []=>.ok []
 | d::ds=>(R.of (bn d)).bind fun bs=>(t (bs.map some++cs)).noE.bind fun b=>if b=true then (f (bs.map some++cs)).noE.bind fun y=>(D9 bn t f cs ds).bind fun ys=>.ok (y::ys) else D9 bn t f cs ds
def t9 (fi:DE->R (List D)) (bn:D->Option (List D)) (ix:List Nat) (t:DE->R Bool) (f:DE->R D):DE->R D:=fun ρ=>(fi ρ).bind fun ds=>if ds.length<=100000 then (D9 bn t f (sel ix ρ) ds).bind fun ys=>.ok (.lst ys) else .st
theorem RE.sel {ρ:DE} {vs:List V} {ds:List D} (h:RE K H0 ρ U) (r:RDs K H0 ds vs) (ix:List Nat):RE K H0 (ds.map some++sel ix ρ) (vs.map some++J6 ix U):=by
 have hl:=r.length;refine ⟨by simp [L2.sel,J6,hl],fun i d e=>?_⟩;by_cases hi:i<ds.length
 . rw [List.getElem?_append_left (by simpa using hi),List.getElem?_map] at e;rw [List.getElem?_append_left (by simpa [<-hl] using hi),List.getElem?_map];cases q:ds[i]? with
   | none=>rw [q] at e;cases e
   | some d'=>
    rw [q] at e;cases e
    obtain ⟨x,h1,h2⟩:=r.get' q
    exact ⟨x,by rw [h1];rfl,h2⟩
 . rw [List.getElem?_append_right (by simpa using hi)] at e;rw [List.getElem?_append_right (by simpa [<-hl] using hi)];simp only [List.length_map] at e ⊢;rw [<-hl];unfold L2.sel at e;unfold J6;rw [List.getElem?_map] at e ⊢;cases q:ix[i - ds.length]? with
   | none=>rw [q] at e;cases e
   | some j=>
    rw [q] at e
    simp only [Option.map_some,Option.some.injEq] at e ⊢
    cases qj:ρ[j]? with
    | none=>rw [qj] at e;cases e
    | some o=>
     rw [qj] at e
     simp only [Option.getD_some] at e
     subst e
     obtain ⟨v,h1,h2⟩:=h.2 j d qj
     exact ⟨v,by rw [h1];rfl,h2⟩
theorem Mf (h:n<100000):n<sizeLine:=Nat.lt_of_lt_of_le h (by decide)
theorem vC (hW:Same W.hb EX.hb) (hB:BD K bn B) (htt:∀U H Q,TTd K F0 t U H Q->tt U H Q)
  (h:TEd K EX true (t9 fi bn ix t f) U H Q):O9 (TId K EX kp fi) B ix tt (TEd K W false f) U H Q:=by
 obtain ⟨sx,ρ,H0,s,e,h⟩:=h
 unfold t9 at h
 rw [Rk.bind] at h
 refine ⟨sx,ρ,H0,s,e,h.mono fun ds h J H1 H1' s1 e1 it D hD=>?_⟩
 split at h
 . rename_i hsz;rw [Rk.bind] at h;have it':Ca K J H1' ds:=by
    cases kp with
    | true=>rw [ζ rfl] at it;exact ⟨fun i d q H H1 a b=>it.1 i d q H H1 (fun _ _ z=>nomatch z) b,fun H a=>it.2 H fun _ _ z=>nomatch z⟩
    | false=>rw [ξ θ] at it;exact it
   have e':=e.mono e1.1;have hDn:H1' D=none:=e1.2.1.none hD;refine ⟨fun i mm ys H2=>mm=ds.length - i/\i<=ds.length/\ys.length<=i/\∃acc H2',Same H1 H2/\H2 D=some (.lst ys)/\Ext H1' H1 H2' H2/\H2' D=none/\RDs K H2' acc ys /\
    Rk EX.at (D9 bn t f (L2.sel ix ρ) (ds.drop i)) fun rest=>∀v H',Out K true H0 H (.lst (acc++rest)) v H'->Q v H',⟨ds.length,by simp,Nat.zero_le _,η _,[],H1',Same.upd_new hD,u8,(Ext.refl e1.2.1).grow (Same.upd_new hD),hDn,.nil,h⟩,?_⟩
   rintro i mm ys H2 ⟨rfl,hi,hys,acc,H2',s2,hd2,e2,hdn2,r2,h⟩;refine ⟨hd2,?_⟩;by_cases hlt:i<ds.length
   . have hd:ds[i]?=some ds[i]:=by simp [hlt]
     obtain ⟨hgo,hy⟩:=it'.1 i _ hd H2 H2' e2.1 e2.2.1;have hdr:ds.drop i=ds[i]::ds.drop (i+1):=List.drop_eq_getElem_cons hlt;rw [hdr] at h;unfold D9 at h;rw [Rk.bind] at h;obtain ⟨bs,hbs,h⟩:=h.of;rw [Rk.bind] at h;refine .inr ⟨hgo,fun x H3 y=>?_⟩;obtain ⟨s3,H3',e3,r3⟩:=hy x H3 y;refine hB H3' H3 x _ bs _ e3.2.1 r3 hbs fun vs rvs=>?_
     have en:=(e'.mono (e2.1.trans e3.1)).sel rvs ix;have e23:=e2.trans s2 e3;refine htt _ _ _ ⟨F0.same _,_,H3',e3.2.1,en,(Rk.noE h).mono fun b h H4 s4=>?_⟩;have s14:=s2.trans (s3.trans s4);have hd4:H4 D=some (.lst ys):=s4 _ _ (s3 _ _ hd2);have hdn3:H3' D=none:=e3.no s3 hd2 (fun z=>z) hdn2;have e14:Ext H1' H1 H3' H4:=e23.grow s4;cases b with
     | false=>
      rw [ξ θ] at h
      dsimp only
      rw [ξ θ]
      exact ⟨ds.length - (i+1),by lia,rfl,hlt,by lia,acc,H3',s14,hd4,e14,hdn3,r2.mono e3.1,h⟩
     | true=>
      rw [ζ rfl] at h
      dsimp only
      rw [ζ rfl]
      rw [Rk.bind] at h
      refine ⟨hW.trans (sx.trans (s1.trans s14)),_,H3',e14.2.1,en,(Rk.noE h).mono fun y h w H5 o5=>?_⟩
      obtain ⟨s5,H5',e5,r5⟩:=o5.rd
      have hd5:H5 D=some (.lst ys):=s5 _ _ hd4
      have hdn5:H5' D=none:=e5.no s5 hd4 (fun z=>z) hdn3
      have e15:=e14.trans s14 e5
      rw [Rk.bind] at h
      refine ⟨hd5,Mf (by lia),ds.length - (i+1),by lia,rfl,hlt,by rw [χ];show ys.length+1<=i+1;lia,acc++[y],H5',(s14.trans s5).upd_at hD,u8,⟨e15.1,e15.2.1.upd_at hdn5,e15.2.2⟩,hdn5,((r2.mono (e3.1.trans e5.1))).append (.one r5),?_⟩
      exact h.mono fun rest h v H' o=>h v H' (by simpa using o)
   . have ei:i=ds.length:=by lia
     subst ei;rw [List.drop_length] at h;refine .inl ⟨it'.2 H2 (e2.1.trans e2.2.1),h _ H2 ?_⟩;rw [List.append_nil];refine Out.after s1 e1 (.fresh s2 e2 hD hdn2 ?_);simp only [OB];exact ⟨ys,hd2,r2⟩
 . exact h.elim
theorem Fq (hB:BD K bn B) (htt:∀U H Q,TTd K F0 t U H Q->tt U H Q)
 (h:TEd K EX true (t9 fi bn ix t f) U H Q):O9 (TId K EX kp fi) B ix tt (TEd K F0 false f) U H Q:=vC (F0.same _) hB htt h
noncomputable def mOf (fr:Bool) (n k:Nat) (g:DS->SR):List D->R D:=fun ds=>if ds.length=n then (match g (ds.map .im++List.replicate k .em) with
 | .rt d=>.ok d
 | .nx _=>if fr=true then .st else .ok .non
 | .er x=>.er x
 | _=>.st) else .st
def XFs (K:Frag) (x:Ex) (od:Option Addr) (H:Hp):Prop:=x.fs=[]\/∃(dx:Addr) (vs:List V) (ob:Obj),od=some dx/\H dx=some (.frz ob (.xd ((v6 x.cls).zip vs)))/\(i9 x.fs=true/\pls x.fs=true)/\RDs K H x.fs vs
def xNm (K:Frag) (mg:Str->Option Value) (E:XK) (x:Ex) (H:Hp):Prop:=∃C,mg (x.cls:Str)=some (.ref C)/\∀od,XFs K x od H->E (.ref C) od H
noncomputable def spD (K:Frag) (mg:Str->Option Value) (fr:Bool) (m:List D->R D) (n:Nat):Sp:=fun vs H Q E=>∃ds H0,Same H0 H/\RDs K H0 ds vs/\ds.length=n/\Rk (XW.at ⟨H,xNm K mg E⟩) (m ds) fun d=>∀v H',Out K fr H0 H d v H'->Q v H'
noncomputable def Y9 (sp:Sp) (E:XK) (t:TA):TE:=fun U H Q=>t U H fun vs H1=>sp vs H1 Q E
theorem kE {mg:Str->Option Value} {E:XK} {m:List D->R D} {n:Nat} {fs:DE->R (List D)} {Q:VK} (hl:∀ds,ds.length≠n->m ds=.st) (hE:∀x H,EX.p x H->xNm K mg E x H) (h:TEd K EX fr (i7 m fs) U H Q):Y9 (spD K mg fr m n) E (TAd K EX fs) U H Q:=by
 obtain ⟨sx,ρ,H0,s,e,h⟩:=h;unfold i7 at h;rw [Rk.bind] at h;refine TAd.go sx s e h fun ds h vs H1 H1' s1 e1 r1=>?_
 refine ⟨ds,H1',e1.2.1,r1,?_,?_⟩
 . apply Classical.byContradiction;intro hn;rw [hl ds hn] at h;exact h
 . cases q:m ds with
   | ok d=>rw [q] at h;exact fun v H' o=>h v H' (o.after s1 e1)
   | er x=>rw [q] at h;exact fun H' s'=>hE x H' (h H' ((sx.trans s1).trans s'))
   | st=>rw [q] at h;exact h
theorem P9 (ds:List D) (h:ds.length≠n):mOf fr n k g ds=.st:=by unfold mOf;rw [ξ h]
theorem wY (s:Same H0 H) (r:RDs K H0 ds vs) (k:Nat):RS K H0 H H0 (ds.map .im++List.replicate k .em) (vs.map some++List.replicate k none) H:=by
 have hl:=r.length;have noow:∀(i:Nat) d,(ds.map Sl.im++List.replicate k Sl.em)[i]?≠some (.ow d):=fun i d q=>by
  rcases List.mem_append.mp (List.mem_of_getElem? q) with z | z
  . obtain ⟨_,_,z⟩:=List.mem_map.mp z;cases z
  . have:=(List.mem_replicate.mp z).2;cases this
 refine ⟨Same.refl _,.refl s,by simp [hl],fun i d q=>?_,fun i d q=>absurd q (noow i d),fun i j d e a q=>absurd q (noow i d)⟩;by_cases hi:i<ds.length
 . rw [List.getElem?_append_left (by simpa using hi),List.getElem?_map] at q;rw [List.getElem?_append_left (by simpa [<-hl] using hi),List.getElem?_map];cases qd:ds[i]? with
   | none=>rw [qd] at q;cases q
   | some d'=>
    rw [qd] at q
    simp only [Option.map_some,Option.some.injEq,Sl.im.injEq] at q
    subst q
    obtain ⟨x,h1,h2⟩:=r.get' qd
    exact ⟨x,by rw [h1];rfl,h2⟩
 . rw [List.getElem?_append_right (by simpa using hi)] at q;have:=(List.mem_replicate.mp (List.mem_of_getElem? q)).2;cases this
theorem Qm (h:spD K mg fr (mOf fr n k g) n vs H Q E) :
  TSd K ⟨H,xNm K mg E⟩ fr g { nx:=fun _ H'=>Q .non H',rt:=Q } (vs.map some++List.replicate k none) H:=by
 obtain ⟨ds,H0,s,r,hn,h⟩:=h
 refine ⟨H0,H,H0,_,Same.refl _,wY s r k,?_⟩
 unfold mOf at h
 rw [ζ hn] at h
 cases q:g (ds.map .im++List.replicate k .em) with
 | nx ρ=>
  rw [q] at h
  cases fr with
  | true=>exact h.elim
  | false=>exact fun U H' H0' I=>h _ H' (.val I.sb I.ext (by simp only [RD]))
 | rt d=>rw [q] at h;exact h
 | er x=>rw [q] at h;exact h
 | bk ρ=>rw [q] at h;exact h.elim
 | ct ρ=>rw [q] at h;exact h.elim
 | st=>rw [q] at h;exact h.elim
end
structure Flt {α:Type} (t:Sem α):Prop where
 go:∀{M:Model} {Γ:PySem.Ctx} {Q Q':α->Pos->Shared->Prop} {E E':Value->Pos->Shared->Prop} {p:Pos} {s:Shared},
 t.wp M Γ Q E p s->t.wp M Γ Q' E' p s->t.wp M Γ (fun a p s=>Q a p s/\Q' a p s) (fun a p s=>E a p s/\E' a p s) p s
theorem Flt.bind (h:Flt t) (k:∀a,Flt (f a)):Flt (t >>= f):=by refine ⟨fun x y=>?_⟩;rw [Sem.wp_bind'] at x y ⊢;exact Sem.wp_mono _ _ _ (fun a _ _ z=>(k a).go z.1 z.2) (fun _ _ _ z=>z) _ _ (h.go x y)
theorem Flt.pure (a:α):Flt (Pure.pure a:Sem α):=⟨fun x y=>⟨x,y⟩⟩
theorem Flt.uns (w:String):Flt (unsupported w:Sem α):=⟨fun x _=>x.elim⟩
theorem Flt.stack:Flt PySem.stack:=⟨fun x y=>⟨x,y⟩⟩
theorem Flt.alloc (o:Obj):Flt (PySem.alloc o):=⟨fun x y=>⟨x,y⟩⟩
theorem Flt.update (a:Addr) (f:Obj->Obj):Flt (PySem.update a f):=⟨fun x y=>⟨x.1,x.2,y.2⟩⟩
theorem Flt.load (a:Addr):Flt (PySem.load a):=⟨fun ⟨o,e,x⟩ ⟨o',e',y⟩=>by rw [e] at e';cases e';exact ⟨o,e,x,y⟩⟩
theorem Flt.cells (v:Value):Flt (fieldsOf v):=by cases v<;>first | exact .uns _ | exact .bind (.load _) fun o=>by split<;>first | exact .pure _ | exact .uns _
theorem Flt.field (v:Value) (i:Nat):Flt (PySem.field v i):=.bind (.cells v) fun vs=>by split<;>first | exact .pure _ | exact .uns _
theorem Flt.put (v:Value) (i:Nat) (x:Value):Flt (setField v i x):=by cases v<;>first | exact .uns _ | exact .bind (.load _) fun o=>by split<;>first | exact .uns _ | (split<;>first | exact .update _ _ | exact .uns _)
theorem Flt.flight (e:Value) (f:Option Addr):Flt (setFlight e f):=.bind (.field e 1) fun tb=>by split<;>first | exact .put _ _ _ | exact .pure _
theorem Flt.ready:∀l:List Env,Flt (readyFrames l)
 | []=>.pure _
 | env::outer=>by
  unfold readyFrames;split<;>first | exact .uns _ | skip
  refine .bind (.load _) fun o=>?_
  split<;>first | exact .pure _ | skip
  refine .bind ?_ fun b=>.bind ?_ fun v=>.bind (.update _ _) fun _=>Flt.ready outer
  . unfold behindIsImport;split<;>first | exact .pure _ | skip
    split<;>first | exact .pure _ | exact .bind (.field _ _) fun _=>.pure _
  . unfold keptBack;split<;>first | exact .pure _ | skip
    split<;>first | exact .pure _ | exact .bind (.bind .stack fun _=>.pure _) fun _=>.pure _
theorem Flt.frame (env:Env):Flt (frameOf env):=.bind (.bind .stack fun _=>.pure _) fun es=>.bind (by
 unfold frameObject;split
 . exact .pure _
 . exact .bind (.ready _) fun _=>.pure _) fun f=>by split<;>first | exact .pure _ | exact .uns _
theorem Flt.fields (vs:List Value):Flt (newFields "traceback" vs):=by
 have h:Flt (newObjAsIs (.type "traceback") (.fields vs.toArray)):=.bind (.alloc _) fun a=>.pure _
 unfold newFields newObj;dsimp only;split
 . exact .bind (.uns _) fun _=>h
 . exact h
theorem Flt.entry (env:Env) (e head:Value) (L:Addr) (b:Bool):Flt (do let a <-frameOf env;let pl <-entryPlaceOf L b;let b <-EntryCells.newEntry head a .none (rawInt L) .none pl;setField e 1 b):=
 .bind (.frame env) fun _=>.bind (.bind .stack fun acts=>by split<;>exact .pure _) fun _=>.bind (.fields _) fun _=>.put _ _ _
theorem Flt.note (e:Value) (env:Env):Flt (noteFrame e env):=by
 unfold noteFrame;split<;>first | exact .uns _ | skip
 refine .bind (.field _ _) fun head=>?_
 split
 . refine .bind (.field _ _) fun x=>?_
   split
   . exact .pure _
   . exact .bind (.put _ _ _) fun _=>.entry _ _ _ _ _
 . exact .entry _ _ _ _ _
theorem Gm (f:Flt t) (h:wpAny M A t Q E s) (k:wpAny M A t Q' E' s):wpAny M A t (fun a s=>Q a s/\Q' a s) (fun a s=>E a s/\E' a s) s:=
 fun Γ p hΓ=>f.go (h Γ p hΓ) (k Γ p hΓ)
section
variable {M:Model} {A:Around} {E:Value->Shared->Prop} {s:Shared} {base:Heap} {env:Env} {outer:List Env} {L e:Addr} {cls a0 fl:Value} {od:Option Addr}
def x5 (e:Addr) (od:Option Addr) (h:Heap):Prop:=∀o,h.get? e=some o->o.dict=od
theorem wX (o:Obj) (f:Array Value->Array Value):(Obj.mapFields f o).dict=o.dict:=by unfold Obj.mapFields;split<;>rfl
theorem Lp (d:x5 e od h) (hb:∃o,h.get? b=some o/\∃vs,o.data=.fields vs):x5 e od (h.update b (Obj.mapFields f)):=by
 intro o ho;by_cases q:b=e
 . subst q;obtain ⟨ob,h1,vs,h2⟩:=hb;rw [Heap.get?_update_self _ h1 (Obj.isFreed_of_fields (Obj.data_mapFields h2 f))] at ho;cases ho;rw [wX];exact d _ h1
 . rw [Heap.get?_update_other _ _ q] at ho;exact d o ho
theorem Sz (T:Addr):(Value.ref T != Value.none)=true:=by simp
theorem kD (L:Addr):(Value.none==rawInt L)=false:=by simp [rawInt]
theorem Wi (ht:s.heap.TracedAtW base e cls a0 fl) (d:x5 e od s.heap):wpAny M A (setFlight (.ref e) none) (fun _ s'=>x5 e od s'.heap) E s:=by obtain ⟨oe,vs,T,oT,ts,he,-,hd,h1,-,-,hT,hdT,h3⟩:=ht;have in3:=(Array.getElem?_eq_some_iff.mp h3).1;unfold setFlight;exact δ (wpAny_field he hd h1 (by rw [ζ (Sz T)];exact wpAny_setField hT hdT in3 (Lp d ⟨_,hT,_,hdT⟩)))
theorem Vx (hfr:A.frames=some (env::outer)) (hl:s.heap.FunFrames base (env::outer)) (hf:env.frame=some L) (he:s.heap.get? e=some oe) (hd:oe.data=.fields vs) (hsz:1<vs.size) (d:x5 e od s.heap) :
  wpAny M A (do let a <-frameOf env;let pl <-entryPlaceOf L hadNext;let b <-EntryCells.newEntry head a .none (rawInt L) .none pl;setField (.ref e) 1 b) (fun _ s'=>x5 e od s'.heap) E s:=by
 have nf:e∉(env::outer).filterMap (·.frame):=fun hm=>by obtain ⟨_,o,ho,hnf⟩:=hl.mem hm;rw [he] at ho;cases ho;exact hnf vs hd
 refine δ (wpAny_frameOf_fun hfr hl hf fun h1 hs=>δ (wpAny_entryPlaceOf fun pl hpl=>?_))
 unfold EntryCells.newEntry newFields
 refine δ (wpAny_newObj_type ?_ (hpl.sizeOk5 _ _ _ _ _))
 have he1:h1.get? e=some oe:=(hs.2.1 e nf).trans he
 have he2:=τ (h:=h1) { cls:=.type "traceback",dict:=none,data:=.fields ([head,.ref L,.none,rawInt L,.none]++(if pl.isEmpty then List.replicate 6 Value.none else pl)).toArray } he1
 refine wpAny_setField he2 hd hsz (Lp (fun o ho=>?_) ⟨_,he2,_,hd⟩)
 rw [he2] at ho;cases ho
 exact d _ he
theorem xW (hfr:A.frames=some (env::outer)) (hl:s.heap.FunFrames base (env::outer)) (hf:env.frame=some L) (ht:s.heap.TracedW base e cls a0) (d:x5 e od s.heap) :
  wpAny M A (noteFrame (.ref e) env) (fun _ s'=>x5 e od s'.heap) E s:=by
 obtain ⟨oe,vs,T,oT,ts,he,-,hd,h1,-,hTe,hT,hdT,h3⟩:=ht
 have in1:=(Array.getElem?_eq_some_iff.mp h1).1
 have in3:=(Array.getElem?_eq_some_iff.mp h3).1
 have off:∀b,T≠b->(s.heap.update T (Obj.mapFields (·.setIfInBounds 3 Value.none))).get? b=s.heap.get? b:=fun b hb=>Heap.get?_update_other _ _ hb
 have fr:(s.heap.update T (Obj.mapFields (·.setIfInBounds 3 Value.none))).FunFrames base (env::outer):=hl.of_keeps fun b o hb nf=>⟨o,(off b fun z=>by rw [<-z,hT] at hb;cases hb;exact nf ts hdT).trans hb,rfl⟩
 unfold noteFrame
 simp only [hf]
 exact δ (wpAny_field he hd h1 (by rw [ζ (Sz T)];exact δ (wpAny_field hT hdT h3 (by rw [ξ (by rw [kD];exact θ)];exact δ (wpAny_setField hT hdT in3 (Vx hfr fr hf ((off e hTe).trans he) hd in1 (Lp d ⟨_,hT,_,hdT⟩)))))))
end
section
variable {M:Model} {A:Around} {E:Value->Shared->Prop} {s:Shared} {base:Heap} {env:Env} {outer:List Env} {L e:Addr} {cls a0:Value} {od:Option Addr} {Q:Unit->Shared->Prop}
theorem Kx (hh:Heap.HeldW base (env::outer) e cls a0 L s.heap) (d:x5 e od s.heap) (hQ:∀h',Heap.FlyingW base (env::outer) e cls a0 h'->s.heap.UpToSlots h'->x5 e od h'->Q () { s with heap:=h' }):wpAny M A (setFlight (.ref e) none) Q E s:=
 wpAny_mono (Gm (E:=E) (E':=E) (.flight _ _) (wpAny_landsW hh (Q:=fun _ s'=>∃h',s'={ s with heap:=h' }/\Heap.FlyingW base (env::outer) e cls a0 h'/\s.heap.UpToSlots h') fun h' f u=>⟨h',rfl,f,u⟩) (Wi hh.2.2.2 d))
  (fun _ s' ⟨⟨h',e1,f,u⟩,d'⟩=>by subst e1;exact hQ h' f u d') fun _ _ z=>z.1
theorem Sy (hfr:A.frames=some (env::outer)) (hf:env.frame=some L) (hfl:Heap.FlyingW base (env::outer) e cls a0 s.heap) (d:x5 e od s.heap)
  (hQ:∀h',Heap.HeldW base (env::outer) e cls a0 L h'->s.heap.UpToSlots h'->x5 e od h'->Q () { s with heap:=h' }):wpAny M A (noteFrame (.ref e) env) Q E s:=
 wpAny_mono (Gm (E:=E) (E':=E) (.note _ _) (wpAny_looks_onW hfr hf hfl (Q:=fun _ s'=>∃h',s'={ s with heap:=h' }/\Heap.HeldW base (env::outer) e cls a0 L h'/\s.heap.UpToSlots h') fun h' f u=>⟨h',rfl,f,u⟩) (xW hfr hfl.2.2.1 hf hfl.2.2.2 d))
  (fun _ s' ⟨⟨h',e1,f,u⟩,d'⟩=>by subst e1;exact hQ h' f u d') fun _ _ z=>z.1
theorem wW (hfr:A.frames=some (env::outer)) (hf:env.frame=some L) (hfl:Heap.FlyingW base (env::outer) e cls a0 s.heap) (d:x5 e od s.heap)
  (hQ:∀h',Heap.FlyingW base outer e cls a0 h'->s.heap.UpToSlots h'->x5 e od h'->Q () { s with heap:=h' }):wpAny M A (leaving env (.ref e)) Q E s:=by
 unfold leaving
 refine δ (Sy hfr hf hfl d fun h1 hh u1 d1=>Kx (s:={ s with heap:=h1 }) hh d1 fun h2 f u2 d2=>hQ h2 ?_ (u1.trans u2) d2)
 obtain ⟨k1,k2,⟨_,_,k3⟩,k4⟩:=f
 exact ⟨k1,k2,k3,k4⟩
theorem vB (hfr:A.frames=some (env::outer)) (hl:s.heap.FunFrames base (env::outer)) (hf:env.frame=some L) (he:s.heap.get? e=some oe) (hkb:base.StaysIn s.heap) (hen:base.get? e=none) (hd:oe.data=.fields vs) (h1:vs[1]?=some .none) (h0:vs[0]?=some a0) (d:x5 e od s.heap)
  (hQ:∀h',Heap.FlyingW base outer e oe.cls a0 h'->s.heap.UpToSlots h'->x5 e od h'->Q () { s with heap:=h' }):wpAny M A (leaving env (.ref e)) Q E s:=by
 have hsz:=(Array.getElem?_eq_some_iff.mp h1).1
 unfold leaving noteFrame
 simp only [hf]
 refine δ (δ (wpAny_field he hd h1 ?_))
 rw [ξ (by decide)]
 refine wpAny_mono (Gm (E:=E) (E':=E) (.entry _ _ _ _ _) (wpAny_entryW hfr hl hf he hkb hen hd hsz h0 (Q:=fun _ s'=>∃h',s'={ s with heap:=h' }/\Heap.NotedW base (env::outer) e oe.cls a0 (rawInt L) s.heap h') fun h' n=>⟨h',rfl,n⟩) (Vx hfr hl hf he hd hsz d)) (fun _ s' z=>?_) fun _ _ z=>z.1
 obtain ⟨⟨h',e1,n1,n2,n3,n4⟩,d1⟩:=z
 subst e1
 refine Kx (s:={ s with heap:=h' }) ⟨n1,hen,n2,n3⟩ d1 fun h2 f u2 d2=>hQ h2 ?_ (Heap.UpToSlots.trans n4 u2) d2
 obtain ⟨k1,k2,⟨_,_,k3⟩,k4⟩:=f
 exact ⟨k1,k2,k3,k4⟩
end
theorem ObjOk.there (x:ObjOk P w H h a o):∃ob,h.get? a=some ob:=by
 induction o with
 | lst xs=>obtain ⟨_,_,_,_,e⟩:=x;exact ⟨_,e⟩
 | tup xs=>obtain ⟨_,_,_,ob,e,_⟩:=x;exact ⟨_,e⟩
 | dK kvs=>obtain ⟨_,_,_,_,o,_,_,e,_⟩:=x;exact ⟨_,e⟩
 | dT kvs=>obtain ⟨_,_,_,_,o,_,_,e,_⟩:=x;exact ⟨_,e⟩
 | set S n=>obtain ⟨o,_,_,_,e,_⟩:=x;exact ⟨_,e⟩
 | ins C dx fs=>obtain ⟨_,_,_,e,_⟩:=x;exact ⟨_,e⟩
 | own y=>exact x
 | xd fs=>obtain ⟨_,⟨_,_,_,e,_⟩,_⟩:=x;exact ⟨_,e⟩
 | rng lo hi=>obtain ⟨_,_,_,e⟩:=x;exact ⟨_,e⟩
 | frz ob u ih=>exact ⟨_,x.1⟩
 | tbl ps=>exact ⟨_,x⟩
 | ctb q=>obtain ⟨_,e,_⟩:=x;exact ⟨_,e⟩
 | met f y=>exact ⟨_,x⟩
 | ext φ=>exact x.2.1
theorem HOk.none (x:HOk P w H h) (e:h.get? a=Option.none):H a=Option.none:=by
 cases q:H a with
 | none=>rfl
 | some o=>
  obtain ⟨ob,z⟩:=(x a o q).there
  rw [e] at z;cases z
def Fly (h0:Heap) (H':Hp) (C a:Addr) (od:Option Addr) (h:Heap):Prop:=∃oe vs T oT ts a0,h.get? a=some oe/\oe.cls=.ref C/\vs[0]?=some a0/\oe.data=.fields vs/\vs[1]?=some (.ref T)/\T≠a/\h.get? T=some oT/\oT.data=.fields ts/\ts[3]?=some Value.none /\
 h0.get? a=none/\h0.get? T=none/\H' a=none/\H' T=none/\oe.dict=od/\∀dx,od=some dx->h0.get? dx=none
structure XOut (P:Program) (w:World) (outer:List Env) (H:Hp) (s:Shared) (C a:Addr) (od:Option Addr) (H':Hp) (s':Shared):Prop where
 os:s'.os=s.os
 bare:AllBare s'.gens
 un:Un (frs outer) [] H H' s.heap s'.heap
 hok:HOk P w H' s'.heap
 fly:Fly s.heap H' C a od s'.heap
noncomputable def CX1 (P:Program) (w:World):CXT:=fun outer H s E e s'=>∃C a od H',e=.ref a/\XOut P w outer H s C a od H' s'/\E (.ref C) od H'
theorem Uv (e:(hideAll h l).get? b=none):b∈l\/h.get? b=none:=by
 by_cases hb:b∈l
 . exact .inl hb
 . cases q:h.get? b with
   | none=>exact .inr rfl
   | some o=>rw [hideAll_get l q hb] at e;cases e
section
variable {X:Cx} {pins:List (Addr×Obj)} {U:List (Option V)} {H1 H2:Hp} {s1 s2:Shared} {h' B:Heap} {Z:List Addr} {C a:Addr} {a0:Value} {od:Option Addr}
theorem Inv.stack2 (I:Inv X pins U H1 s1) (un:Un (frs X.stack) [] H1 H2 s1.heap s2.heap):s2.heap.FunFrames X.base X.stack:=by
 have all:∀(l:List Env),(∀b∈frs l,b∈frs X.stack)->s1.heap.FunFrames X.base l->s2.heap.FunFrames X.base l:=by
  intro l;induction l with
  | nil=>intro _ _;trivial
  | cons env r ih=>
   intro hs hl
   obtain ⟨hk,⟨L,o,hf,hn,ho,hd⟩,hr⟩:=hl
   have hL:L∈frs X.stack:=hs L (by unfold frs;rw [List.filterMap_cons,hf];exact List.mem_cons_self)
   obtain ⟨sl,e⟩:=un.slot L o ho (I.stkFree L hL) hL (by simp)
   exact ⟨hk,⟨L,_,hf,hn,e,hd⟩,ih (fun b hb=>hs b (by unfold frs;rw [List.filterMap_cons,hf];exact List.mem_cons_of_mem _ hb)) hr⟩
 exact all X.stack (fun _ hb=>hb) I.stack
theorem Vw (I:Inv X pins U H1 s1) (hst:X.stack=X.env::X.outer) (hex:X.ex=[]) (hos:s2.os=s1.os) (hbare:AllBare s2.gens) (un:Un (frs X.stack) [] H1 H2 s1.heap s2.heap) (hok:HOk X.prog X.w H2 s2.heap)
  (hZ:∀b∈Z,s1.heap.get? b=none/\H2 b=none) (ha:s1.heap.get? a=none) (hHa:H2 a=none) (keep:∀b o,s2.heap.get? b=some o->b∉Z->b∉frs X.stack->h'.get? b=some o)
  (up:s2.heap.UpToSlots h') (hB:∀b,B.get? b=none->b∈frs X.stack\/(s1.heap.get? b=none/\H2 b=none)) (hfl:Heap.FlyingW B X.outer a (.ref C) a0 h') (hdc:x5 a od h') (hnd:∀dx,od=some dx->s1.heap.get? dx=none) :
  XOut X.prog X.w X.outer X.H₀ X.s₀ C a od H2 { s2 with heap:=h' }:=by
 have base:Un X.fs [] X.H₀ H1 X.s₀.heap s1.heap:=hex ▸ I.base
 have F2:=I.stack2 un
 have sub:∀b∈frs X.outer,b∈frs X.stack:=fun b hb=>by
  rw [hst];unfold frs;cases q:X.env.frame with
  | none=>rw [List.filterMap_cons,q];exact hb
  | some L=>rw [List.filterMap_cons,q];exact List.mem_cons_of_mem _ hb
 have neL:∀b o,X.s₀.heap.get? b=some o->b≠X.env.locals:=fun b o e=>Nat.ne_of_lt (Nat.lt_of_lt_of_le (π e) I.ok.above)
 have nost:∀b o,X.s₀.heap.get? b=some o->b∉frs X.outer->b∉frs X.stack:=fun b o e hb z=>(List.mem_cons.mp (I.stkSub b z)).elim (neL b o e) hb
 have fresh0:∀b,s1.heap.get? b=none->X.s₀.heap.get? b=none:=fun b e=>by
  cases q:X.s₀.heap.get? b with
  | none=>rfl
  | some o=>
   obtain ⟨o',z⟩:=base.there b o q (by simp)
   rw [e] at z;cases z
 have noZ:∀b o,X.s₀.heap.get? b=some o->b∉Z:=fun b o e hb=>by rw [fresh0 b (hZ b hb).1] at e;cases e
 have frFree:∀b∈frs X.stack,H2 b=none:=fun b hb=>by obtain ⟨_,o,ho,_⟩:=I.stack.mem hb;exact un.free b o ho (I.stkFree b hb) (by simp)
 have slotF:∀b∈frs X.stack,∀o,s2.heap.get? b=some o->∃sl,h'.get? b=some { o with slots:=sl }:=fun b hb o e=>by obtain ⟨_,o',ho',hd⟩:=F2.mem hb;rw [e] at ho';cases ho';exact up b o e hd
 refine ⟨by show s2.os=_;rw [hos,I.os],hbare,⟨fun b o e n hb _=>?_,fun b o e n hb _=>?_,fun b o e n _=>?_,fun b o e _=>?_,fun b xs e=>un.tups b xs (base.tups b xs e),fun b o u e=>un.frzs b o u (base.frzs b o u e),fun b ps e=>?_⟩,fun b o e=>?_,?_⟩
 . exact keep b o (un.keep b o (base.keep b o e n hb (by simp)) (base.free b o e n (by simp)) (nost b o e hb) (by simp)) (noZ b o e) (nost b o e hb)
 . obtain ⟨sl,e1⟩:=base.slot b o e n hb (by simp);obtain ⟨sl2,e2⟩:=un.slot b _ e1 (base.free b o e n (by simp)) (sub b hb) (by simp);obtain ⟨sl3,e3⟩:=slotF b (sub b hb) _ e2;exact ⟨sl3,e3⟩
 . obtain ⟨o1,e1⟩:=base.there b o e (by simp);exact un.free b o1 e1 (base.free b o e n (by simp)) (by simp)
 . obtain ⟨o1,e1⟩:=base.there b o e (by simp);obtain ⟨o2,e2⟩:=un.there b o1 e1 (by simp);by_cases hb:b∈frs X.stack
   . obtain ⟨sl,e3⟩:=slotF b hb _ e2;exact ⟨_,e3⟩
   . exact ⟨o2,keep b o2 e2 (noZ b o e) hb⟩
 . obtain ⟨m1,e1⟩:=base.tbls b ps e;obtain ⟨m2,e2⟩:=un.tbls b _ e1;exact ⟨m1++m2,by rw [e2,Array.append_assoc]⟩
 . refine (hok b o e).stay (fun c v hc q=>keep c v q (fun hz=>?_) fun hf=>?_) (fun _ q=>q) fun _ _ q=>q
   . have:=(hZ c hz).2;rcases hc with rfl | hc
     . rw [e] at this;cases this
     . rw [hc] at this;cases this
   . have:=frFree c hf;rcases hc with rfl | hc
     . rw [e] at this;cases this
     . rw [hc] at this;cases this
 . obtain ⟨_,_,_,oe,vs,T,oT,ts,he,⟨hc,h0⟩,hd,h1,hnT,hTe,hT,hdT,h3⟩:=hfl;have hTn:s1.heap.get? T=none/\H2 T=none:=by
    rcases hB T hnT with z | z
    . obtain ⟨_,o',ho',hd'⟩:=F2.mem z;obtain ⟨sl,e3⟩:=slotF T z o' ho';rw [hT] at e3;cases e3;exact absurd hdT (hd' ts)
    . exact z
   exact ⟨oe,vs,T,oT,ts,a0,he,hc,h0,hd,h1,hTe,hT,hdT,h3,fresh0 a ha,fresh0 T hTn.1,hHa,hTn.2,hdc _ he,fun dx e=>fresh0 dx (hnd dx e)⟩
theorem wV (I:Inv X pins U H1 s1) (hst:X.stack=X.env::X.outer) (hex:X.ex=[]) (hf:X.env.frame=some X.env.locals) (x:XOut X.prog X.w X.stack H1 s1 C a od H2 s2)
  (h:∀s',XOut X.prog X.w X.outer X.H₀ X.s₀ C a od H2 s'->Q () s'):wpAny (model X.prog X.w) X.A (leaving X.env (.ref a)) Q E s2:=by
 obtain ⟨oe,vs,T,oT,ts,a0,he,hc,h0,hd,h1,hTe,hT,hdT,h3,na,nT,ha,hHT,hod,hnd⟩:=id x.fly
 have F2:=I.stack2 x.un
 have hin:∀env∈X.stack,∀b,env.frame=some b->b∈a::T::frs X.stack:=fun env he b hb=>List.mem_cons_of_mem _ (List.mem_cons_of_mem _ (List.mem_filterMap.mpr ⟨env,he,hb⟩))
 have hfr:X.A.frames=some (X.env::X.outer):=by rw [<-hst];exact I.ok.frames
 refine wW (od:=od) (base:=hideAll s2.heap (a::T::frs X.stack)) (cls:=.ref C) (a0:=a0) hfr hf ⟨fun b o q=>of_hideAll _ q,hideAll_none _ (.head _),hst ▸ PySem.W.funFrames_hide F2 hin,?_⟩ (fun o ho=>by rw [he] at ho;cases ho;exact hod) fun h' hfl up hdc=>h _ (Vw (Z:=[a,T]) I hst hex x.os x.bare x.un x.hok (fun b hb=>?_) na ha (fun b o q hz hfs=>hfl.1 b o (hideAll_get _ q ?_)) up (fun b q=>?_) hfl hdc hnd)
 . exact ⟨oe,vs,T,oT,ts,he,⟨hc,h0⟩,hd,h1,hideAll_none _ (.tail _ (.head _)),hTe,hT,hdT,h3⟩
 . rcases List.mem_cons.mp hb with rfl | hb
   . exact ⟨na,ha⟩
   . have:b=T:=by simpa using hb
     subst this;exact ⟨nT,hHT⟩
 . intro z;rcases List.mem_cons.mp z with rfl | z
   . exact hz (.head _)
   . rcases List.mem_cons.mp z with rfl | z
     . exact hz (.tail _ (.head _))
     . exact hfs z
 . rcases Uv q with z | z
   . rcases List.mem_cons.mp z with rfl | z
     . exact .inr ⟨na,ha⟩
     . rcases List.mem_cons.mp z with rfl | z
       . exact .inr ⟨nT,hHT⟩
       . exact .inl z
   . refine .inr ⟨?_,x.hok.none z⟩;cases q1:s1.heap.get? b with
     | none=>rfl
     | some o=>
      obtain ⟨o',e'⟩:=x.un.there b o q1 (by simp)
      rw [z] at e';cases e'
structure MadeX (h h':Heap) (e C:Addr) (od:Option Addr):Prop where
 new:h.get? e=none
 newd:∀dx,od=some dx->h.get? dx=none
 there:∃oe vs a0,h'.get? e=some oe/\oe.cls=.ref C/\oe.dict=od/\oe.data=.fields vs/\vs[0]?=some a0/\vs[1]?=some .none
theorem MadeX.of (x:Heap.MadeExcOf h h' e (.ref C) args):MadeX h h' e C none:=by obtain ⟨t,he,_,_⟩:=x.there;exact ⟨x.new,(fun _ z=>nomatch z),_,_,_,he,rfl,rfl,rfl,rfl,rfl⟩
theorem yA (I:Inv X pins U H1 s1) (hst:X.stack=X.env::X.outer) (hex:X.ex=[]) (hf:X.env.frame=some X.env.locals) (hx:MadeX s1.heap s2.heap a C od) (hok:HOk X.prog X.w H2 s2.heap) (un:Un (frs X.stack) [] H1 H2 s1.heap s2.heap) (hHa:H2 a=none) (hos:s2.os=s1.os) (hbare:AllBare s2.gens)
  (h:∀s',XOut X.prog X.w X.outer X.H₀ X.s₀ C a od H2 s'->Q () s'):wpAny (model X.prog X.w) X.A (leaving X.env (.ref a)) Q E s2:=by
 have hin:∀env∈X.stack,∀b,env.frame=some b->b∈a::frs X.stack:=fun env he b hb=>List.mem_cons_of_mem _ (List.mem_filterMap.mpr ⟨env,he,hb⟩)
 have hfr:X.A.frames=some (X.env::X.outer):=by rw [<-hst];exact I.ok.frames
 have F2:=I.stack2 un
 obtain ⟨oe,vs,a0,he,hc,hod,hd,h0,h1⟩:=hx.there
 refine vB (od:=od) (base:=hideAll s2.heap (a::frs X.stack)) hfr (hst ▸ PySem.W.funFrames_hide F2 hin) hf he (fun b o q=>of_hideAll _ q) (hideAll_none _ (.head _)) hd h1 h0 (fun o ho=>by rw [he] at ho;cases ho;exact hod) fun h' hfl up hdc=>h _ ?_
 rw [hc] at hfl
 refine Vw (B:=hideAll s2.heap (a::frs X.stack)) (Z:=[a]) I hst hex hos hbare un hok (fun b hb=>?_) hx.new hHa (fun b o q hz hfs=>hfl.1 b o (hideAll_get _ q ?_)) up (fun b q=>?_) hfl hdc hx.newd
 . obtain rfl:b=a:=by simpa using hb
   exact ⟨hx.new,hHa⟩
 . intro z;rcases List.mem_cons.mp z with rfl | z
   . exact hz (.head _)
   . exact hfs z
 . rcases Uv q with z | z
   . rcases List.mem_cons.mp z with rfl | z
     . exact .inr ⟨hx.new,hHa⟩
     . exact .inl z
   . refine .inr ⟨?_,hok.none z⟩;cases q1:s1.heap.get? b with
     | none=>rfl
     | some o=>
      obtain ⟨o',e'⟩:=un.there b o q1 (by simp)
      rw [z] at e';cases e'
end
noncomputable def eOf (K:Frag) (EX:XW) (mg:Str->Option Value):XK:=fun cv od H=>∃x:Ex,EX.p x H/\mg (x.cls:Str)=some cv/\XFs K x od H
structure Lnd (X:Cx) (EX:XW):Prop where
 nm:∀x H,EX.p x H->∃C,X.mg (x.cls:Str)=some (.ref C)
 on:T5 (CX1 X.prog X.w) X (eOf X.K EX X.mg)
 md:∀(pins:List (Addr×Obj)) (U:St) (H H2:Hp) (s:Shared) (a C:Addr) (od:Option Addr) (s':Shared) (x:Ex),Inv X pins U H s->MadeX s.heap s'.heap a C od->HOk X.prog X.w H2 s'.heap->Un (frs X.stack) [] H H2 s.heap s'.heap->H2 a=none->s'.os=s.os->AllBare s'.gens->X.mg (x.cls:Str)=some (.ref C)->EX.p x H2->XFs X.K x od H2->X.xe (.ref a) s'
theorem N9:Lnd X F0:=⟨fun _ _ z=>z.elim,fun _ _ _ _ _ _ _ ⟨_,_,_,_,_,_,_,z,_⟩=>z.elim,fun _ _ _ _ _ _ _ _ _ _ _ _ _ _ _ _ _ _ z _=>z.elim⟩
theorem m8 {P:Program} {w:World} {K:Frag} {mg:Str->Option Value} {base:Heap} {N:List Str} {qual:Str} {sc:Scope} {f:Addr} {cdv:Value} {A:Around} {outer:List Env} {s:Shared} {H:Hp} {E:XK} :
  Lnd (E3 (CX1 P w) P w K mg base N qual sc f cdv A outer s H E) ⟨H,xNm K mg E⟩:=by
 refine ⟨fun x H ⟨C,hC,_⟩=>⟨C,hC⟩,?_,?_⟩
 . rintro pins U H1 s1 e s' I ⟨C,a,od,H',rfl,xo,x,⟨C',hC',hE⟩,hmg,hx⟩;have hmg:mg (x.cls:Str)=some (.ref C):=hmg;rw [hC'] at hmg;cases hmg;exact wV I rfl rfl rfl xo fun s'' y=>⟨_,a,od,H',rfl,y,hE od hx⟩
 . rintro pins U H1 H2 s1 a C od s' x I hx hok un hHa ho hb hmg ⟨C',hC',hE⟩ hf;have hmg:mg (x.cls:Str)=some (.ref C):=hmg;rw [hC'] at hmg;cases hmg;exact yA I rfl rfl rfl hx hok un hHa ho hb fun s'' y=>⟨_,a,od,H2,rfl,y,hE od hf⟩
def i0 (P:Program) (w:World) (K:Frag) (mg:Str->Option Value) (base:Heap) (x:Str) (ps:List Str) (k:Nat) (sp:Sp):Prop:=
 ∃f fd,FnOk P w K mg base (CX1 P w) k f fd ps sp/\Binds K fd ps []/\mg x=some (.ref f)/\keepIn K (.ref f)=true
section
variable {X:Cx} {x:Str} {p pos:Pos} {e:Expr} {es:List Expr} {t:TA} {ps:List Str} {k j:Nat} {sp:Sp} {E:XK}
theorem Sx (G:i0 X.prog X.w X.K X.mg X.base x ps k sp) (hx:T5 (CX1 X.prog X.w) X E) (hr:Room j X.A) (hg:Gl X x) (ha:PA X (e::es) t) (hkj:k<=j:=by omega) (hdb:(x==("__debug__":Str))=false:=by decide)
  (he:starEach (e::es) X.env=(false,eval e X.env)::starEach es X.env:=by rfl) (hpl:(backTo pos (starEach es X.env)).any (·.1)=false:=by rfl):PE X (.Call (.Name x p) (e::es) [] pos) (Y9 sp E t):=by
 obtain ⟨f,fd,F,b,m,kp⟩:=G
 refine (vW F (hr.mono hkj) hg m kp b .nil hx ha hdb he hpl).imp fun U H Q q=>?_
 unfold Oo
 unfold Y9 at q
 simpa only [List.append_nil] using q
end
theorem Fun.okX {P:Program} {w:World} {K:Frag} {mg:Str->Option Value} {base:Heap} {x qual:Str} {st:Stmt} {f:Addr} {fd:FuncData} {N ps:List Str} {k:Nat} {sp:Sp} {CX:CXT} (F:Fun K x qual st f fd) (S:FnScope N ps (g7 st)) (len:∀vs H Q E,sp vs H Q E->vs.length=ps.length)
  (hbody:∀(cdv:Value) (A:Around) (outer:List Env) (s:Shared) (H:Hp) (vs:List V) (Q:VK) (E:XK),Room k (A.deeper (envOfC qual (g7 st) s.heap.objs.size f cdv))->sp vs H Q E ->
   ∃t,PSs (E3 CX P w K mg base N qual (g7 st) f cdv A outer s H E) (j7 st) t/\t { nx:=fun _ H'=>Q .non H',rt:=Q } (z8 N vs) H):FnOk P w K mg base CX (k+1) f fd ps sp:=by
 obtain ⟨oc,od,kV,doc,pm,an,cdv,ct,osl,rfl,lk,hcd⟩:=F.ex
 refine Jh lk hcd S len fun A outer s H vs Q E hr hsp=>?_
 exact hbody cdv A outer s H vs Q E hr hsp
section
variable {K:Frag} {H:Hp} {v:V}
theorem RD.int (h:RD K H (.int i) v):v=.int i:=by simpa only [RD] using h
theorem RD.str (h:RD K H (.str i) v):v=.str i:=by simpa only [RD] using h
theorem RD.non (h:RD K H .non v):v=.non:=by simpa only [RD] using h
theorem RD.tup (h:RD K H (.tup ds) v):∃a xs,v=.ref a/\H a=some (.tup xs)/\RDs K H ds xs:=by simpa only [RD] using h
theorem RD.lst (h:RD K H (.lst ds) v):∃a xs,v=.ref a/\H a=some (.lst xs)/\RDs K H ds xs:=by simpa only [RD] using h
theorem RD.dk (h:RD K H (.dk ks ds) v):∃a xs,v=.ref a/\H a=some (.dK (ks.zip xs))/\ks.length=xs.length/\RDs K H ds xs:=by simpa only [RD] using h
theorem RD.dt (h:RD K H (.dt ks ds) v):∃a xs,v=.ref a/\H a=some (.dT (ks.zip xs))/\ks.length=xs.length/\RDs K H ds xs:=by simpa only [RD] using h
theorem RD.scr (h:RD K H (.scr ns) v):∃a,v=.ref a/\SqL K H a (ns.map V.int):=by
 simp only [RD] at h;obtain ⟨a,e,h | h⟩:=h
 . exact ⟨a,e,.inl (.inr h)⟩
 . exact ⟨a,e,.inr h⟩
theorem RD.mkInt (i:Int):RD K H (.int i) (.int i):=by simp only [RD]
theorem RD.mkBl (i:Bool):RD K H (.bl i) (.bl i):=by simp only [RD]
theorem RD.mkNon:RD K H .non .non:=by simp only [RD]
theorem RD.mkStr (i:Str):RD K H (.str i) (.str i):=by simp only [RD]
theorem RD.mkTup (h:H a=some (.tup xs)) (r:RDs K H ds xs):RD K H (.tup ds) (.ref a):=by simp only [RD];exact ⟨a,xs,rfl,h,r⟩
end
noncomputable def dI (g:Int->Int->D):D->D->Option D
 | .int i,.int j=>some (g i j)
 | _,_=>none
noncomputable def dIC (C:Int->Int->Prop) [∀i j,Decidable (C i j)] (g:Int->Int->D):D->D->Option D
 | .int i,.int j=>if C i j then some (g i j) else none
 | _,_=>none
noncomputable def dOr (o p:D->D->Option D):D->D->Option D:=fun d e=>match o d e with
 | some z=>some z
 | none=>p d e
section
variable {K:Frag}
theorem OpD.weak (h:OpD K fr o r):OpD K false o r:=fun H0 H x y d e z Q s rx ry ho k=>h H0 H x y d e z Q s rx ry ho fun v H' q=>k v H' q.weak
theorem OpD.or (h1:OpD K f1 o r) (h2:OpD K f2 p q):OpD K false (dOr o p) (fun x y H Q=>r x y H Q\/q x y H Q):=by
 intro H0 H x y d e z Q s rx ry ho k;unfold dOr at ho;split at ho
 . rename_i z' hz;cases ho;exact .inl (h1.weak H0 H x y d e z Q s rx ry hz k)
 . exact .inr (h2.weak H0 H x y d e z Q s rx ry ho k)
theorem W3 (h:∀i j H,RD K H (gd i j) (gv i j)):OpD K false (dI gd) (cI gv):=by
 intro H0 H x y d e z Q s rx ry ho k;cases d<;>simp only [dI] at ho<;>first | cases ho | skip
 cases e<;>simp only [dI] at ho<;>first | cases ho | skip
 cases rx.int;cases ry.int;exact k _ H (.pure s (h _ _ _))
theorem Fg [∀i j,Decidable (C i j)] (h:∀i j H,RD K H (gd i j) (gv i j)):OpD K false (dIC C gd) (cIC C gv):=by
 intro H0 H x y d e z Q s rx ry ho k;cases d<;>simp only [dIC] at ho<;>first | cases ho | skip
 cases e<;>simp only [dIC] at ho<;>first | cases ho | skip
 cases rx.int;cases ry.int;split at ho
 . rename_i hcc;cases ho;exact ⟨hcc,k _ H (.pure s (h _ _ _))⟩
 . cases ho
instance (i j:Int):Decidable (CMul i j):=by unfold CMul;infer_instance
instance (i j:Int):Decidable (R9 i j):=by unfold R9;infer_instance
instance (i j:Int):Decidable (O1 i j):=by unfold O1;infer_instance
def w4:D->D->Option D:=dI fun i j=>.int (i+j)
def t7:D->D->Option D:=dI fun i j=>.int (i - j)
def W2:D->D->Option D:=dIC CMul fun i j=>.int (i * j)
def v5:D->D->Option D:=dIC R9 fun i j=>.int (i / j)
def n6:D->D->Option D:=dIC (fun _ j=>0<j) fun i j=>.int (i % j)
def N8:D->D->Option D:=dIC O1 fun i j=>.int (i ^ j.toNat)
def J7:D->D->Option D:=dI fun i j=>.bl (decide (i<j))
def dLe:D->D->Option D:=dI fun i j=>.bl (decide (i<=j))
def S0:D->D->Option D:=dI fun i j=>.bl (decide (j<i))
def dGe:D->D->Option D:=dI fun i j=>.bl (decide (j<=i))
theorem B8:OpD K false w4 (cI fun i j=>.int (i+j)):=W3 fun _ _ _=>.mkInt _
theorem y3:OpD K false t7 (cI fun i j=>.int (i - j)):=W3 fun _ _ _=>.mkInt _
theorem Kg:OpD K false W2 (cIC CMul fun i j=>.int (i * j)):=Fg fun _ _ _=>.mkInt _
theorem J9:OpD K false v5 (cIC R9 fun i j=>.int (i / j)):=Fg fun _ _ _=>.mkInt _
theorem v8:OpD K false n6 (cIC (fun _ j=>0<j) fun i j=>.int (i % j)):=Fg fun _ _ _=>.mkInt _
theorem Kf:OpD K false N8 (cIC O1 fun i j=>.int (i ^ j.toNat)):=Fg fun _ _ _=>.mkInt _
theorem T4:OpD K false J7 (cI fun i j=>.bl (decide (i<j))):=W3 fun _ _ _=>.mkBl _
theorem Zj:OpD K false dLe (cI fun i j=>.bl (decide (i<=j))):=W3 fun _ _ _=>.mkBl _
theorem Df:OpD K false S0 (cI fun i j=>.bl (decide (j<i))):=W3 fun _ _ _=>.mkBl _
theorem Zi:OpD K false dGe (cI fun i j=>.bl (decide (j<=i))):=W3 fun _ _ _=>.mkBl _
noncomputable def D5:D->Option D
 | .int i=>some (.int (-i))
 | _=>none
theorem P5:UnD K false D5 (cU fun i=>.int (-i)):=by
 intro H0 H x d z Q s rx ho k;cases d<;>simp only [D5] at ho<;>first | cases ho | skip
 cases rx.int;exact k _ H (.pure s (.mkInt _))
noncomputable def A6:D->D->Option D
 | .lst ds,.lst es=>if ds.length+es.length<=100000 then some (.lst (ds++es)) else none
 | _,_=>none
theorem En (h:n<=100000):n<=sizeLine:=Nat.le_trans h (by decide)
theorem Y8:OpD K true A6 Yh:=by
 intro H0 H x y d e z Q s rx ry ho k;cases d<;>simp only [A6] at ho<;>first | cases ho | skip
 cases e<;>simp only [A6] at ho<;>first | cases ho | skip
 split at ho<;>cases ho;rename_i hl;obtain ⟨a,xs,rfl,ha,ra⟩:=rx.lst;obtain ⟨b,ys,rfl,hb,rb⟩:=ry.lst;refine ⟨a,b,xs,ys,rfl,rfl,s _ _ ha,s _ _ hb,by rw [<-ra.length,<-rb.length];exact En hl,fun p hp=>k _ _ (.new s hp fun H' hH=>?_)⟩;simp only [OB];exact ⟨_,hH,ra.append rb⟩
end
def dEq:D->D->Option D:=fun d e=>if d.pl=true/\e.pl=true/\d.dep<=20 then some (.bl (eqD d e)) else none
def dNe:D->D->Option D:=fun d e=>if d.pl=true/\e.pl=true/\d.dep<=20 then some (.bl (!eqD d e)) else none
def Xu (K:Frag):R2:=fun x y H Q=>∃d e,RD K H d x/\RD K H e y/\d.pl=true/\e.pl=true/\d.dep<=20/\Q (.bl (eqD d e)) H
def Xs (K:Frag):R2:=fun x y H Q=>∃d e,RD K H d x/\RD K H e y/\d.pl=true/\e.pl=true/\d.dep<=20/\Q (.bl (!eqD d e)) H
def R7 (neg:Bool):D->D->Option D:=fun d c=>match c with
 | .lst es=>if d.pl=true/\pls es=true/\o4 es<=20 then some (.bl (if neg then !(es.any fun e=>eqD e d) else es.any fun e=>eqD e d)) else none
 | .tup es=>if d.pl=true/\pls es=true/\o4 es<=20 then some (.bl (if neg then !(es.any fun e=>eqD e d) else es.any fun e=>eqD e d)) else none
 | _=>none
def Em (K:Frag) (neg:Bool):R2:=fun x y H Q=>∃p xs d es,y=.ref p/\(H p=some (.lst xs)\/H p=some (.tup xs))/\RD K H d x/\RDs K H es xs/\d.pl=true/\pls es=true/\o4 es<=20/\Q (.bl (if neg then !(es.any fun e=>eqD e d) else es.any fun e=>eqD e d)) H
section
variable {X:Cx} {K:Frag}
theorem M3 (hu:X.A.units+64<cLine):OpR X (compareOp .Eq) (Xu X.K):=by intro pins s U H x y v u Q I rx ry h;obtain ⟨d,e,h1,h2,p1,p2,h3,q⟩:=h;exact (Qn (n:=20) I p1 p2 h3 (by lia) h1 h2 rx ry).1 X.prog X.w X.xe _ ⟨.bl _,H,I,rfl,q⟩
theorem Zh (hu:X.A.units+64<cLine):OpR X (compareOp .NotEq) (Xs X.K):=by intro pins s U H x y v u Q I rx ry h;obtain ⟨d,e,h1,h2,p1,p2,h3,q⟩:=h;exact (Qn (n:=20) I p1 p2 h3 (by lia) h1 h2 rx ry).2 X.prog X.w X.xe _ ⟨.bl _,H,I,rfl,q⟩
theorem M2:OpD K false dEq (Xu K):=by intro H0 H x y d e z Q s rx ry ho k;unfold dEq at ho;split at ho<;>cases ho;rename_i h;exact ⟨d,e,rx.mono s,ry.mono s,h.1,h.2.1,h.2.2,k _ H (.pure s (.mkBl _))⟩
theorem Zg:OpD K false dNe (Xs K):=by intro H0 H x y d e z Q s rx ry ho k;unfold dNe at ho;split at ho<;>cases ho;rename_i h;exact ⟨d,e,rx.mono s,ry.mono s,h.1,h.2.1,h.2.2,k _ H (.pure s (.mkBl _))⟩
theorem Zf (hu:X.A.units+64<cLine):OpR X (compareOp .In) (Em X.K false):=by
 intro pins s U H x y v u Q I rx ry h;obtain ⟨p,xs,d,es,rfl,hp,hx,hes,pd,pe,hd,q⟩:=h;cases ry;rcases hp with hq | hq
 . obtain ⟨its,rv,pl,_⟩:=I.list (.of hq);refine SeqAt.in_listAt (hitD X.K H d) pl.isList (fun y hy=>Dp (A:=X.A) I (by lia) pd hx rx pe hes rv hd y (by simpa using hy)) ⟨.bl _,H,I,rfl,?_⟩;rw [show its.toArray.any (hitD X.K H d)=its.any (hitD X.K H d) by simp,Dw pe hes rv];simpa using q
 . obtain ⟨its,rv,pl,_⟩:=I.tuple (.of hq);refine SeqAt.in_tupleAt (hitD X.K H d) pl (fun y hy=>Dp (A:=X.A) I (by lia) pd hx rx pe hes rv hd y (by simpa using hy)) ⟨.bl _,H,I,rfl,?_⟩;rw [show its.toArray.any (hitD X.K H d)=its.any (hitD X.K H d) by simp,Dw pe hes rv];simpa using q
theorem wU (hu:X.A.units+64<cLine):OpR X (compareOp .NotIn) (Em X.K true):=by
 intro pins s U H x y v u Q I rx ry h;obtain ⟨p,xs,d,es,rfl,hp,hx,hes,pd,pe,hd,q⟩:=h;cases ry;rcases hp with hq | hq
 . obtain ⟨its,rv,pl,_⟩:=I.list (.of hq);refine SeqAt.notIn_listAt (hitD X.K H d) pl.isList (fun y hy=>Dp (A:=X.A) I (by lia) pd hx rx pe hes rv hd y (by simpa using hy)) ⟨.bl _,H,I,rfl,?_⟩;rw [show its.toArray.any (hitD X.K H d)=its.any (hitD X.K H d) by simp,Dw pe hes rv];simpa using q
 . obtain ⟨its,rv,pl,_⟩:=I.tuple (.of hq);refine SeqAt.notIn_tupleAt (hitD X.K H d) pl (fun y hy=>Dp (A:=X.A) I (by lia) pd hx rx pe hes rv hd y (by simpa using hy)) ⟨.bl _,H,I,rfl,?_⟩;rw [show its.toArray.any (hitD X.K H d)=its.any (hitD X.K H d) by simp,Dw pe hes rv];simpa using q
theorem od_inS:OpD K false (R7 neg) (Em K neg):=by
 intro H0 H x y d e z Q s rx ry ho k;unfold R7 at ho;cases e<;>dsimp only at ho<;>first | cases ho | skip
 . split at ho<;>cases ho;rename_i es h;obtain ⟨a,xs,rfl,ha,ra⟩:=ry.tup;exact ⟨a,xs,d,es,rfl,.inr (s _ _ ha),rx.mono s,ra.mono s,h.1,h.2.1,h.2.2,k _ H (.pure s (.mkBl _))⟩
 . split at ho<;>cases ho;rename_i es h;obtain ⟨a,xs,rfl,ha,ra⟩:=ry.lst;exact ⟨a,xs,d,es,rfl,.inl (s _ _ ha),rx.mono s,ra.mono s,h.1,h.2.1,h.2.2,k _ H (.pure s (.mkBl _))⟩
end
noncomputable def Bz:D->Option Key
 | .int i=>some (.inl i)
 | .str x=>some (.inr x)
 | _=>none
def X8:List D->Option (List Key)
 | []=>some []
 | d::ds=>match Bz d,X8 ds with
  | some k,some ks=>some (k::ks)
  | _,_=>none
theorem Sw {K:Frag} {H:Hp} {d:D} {k:Key} {v:V} (h:Bz d=some k) (r:RD K H d v):v=kV k:=by
 cases d<;>simp only [Bz] at h<;>first | cases h | skip
 . cases r.int;rfl
 . cases r.str;rfl
theorem Uc {K:Frag} {H:Hp}:∀{ds:List D} {ks:List Key} {xs:List V},X8 ds=some ks->RDs K H ds xs->xs=ks.map kV
 | [],ks,xs,h,r=>by simp only [X8] at h;cases h;simp only [RDs] at r;subst r;rfl
 | d::ds,ks,xs,h,r=>by simp only [RDs] at r;obtain ⟨x,xs,rfl,r1,r2⟩:=r;simp only [X8] at h;split at h<;>cases h;rename_i k ks h1 h2;rw [Sw h1 r1,Uc h2 r2];rfl
def ROp (K:Frag) (H:Hp):Option D->Option V->Prop
 | some z,w=>∃v,w=some v/\RD K H z v
 | none,w=>w=none
section
variable {κ:Type} [DecidableEq κ]
noncomputable def S7 (ks:List κ) (ds:List D) (k:κ):Option D:=((ks.zip ds).find? fun kv=>decide (kv.1=k)).map (·.2)
theorem Kw {K:Frag} {H:Hp} (k:κ):∀{ks:List κ} {ds:List D} {xs:List V},ks.length=xs.length->RDs K H ds xs->ROp K H (S7 ks ds k) (C3 (ks.zip xs) k)
 | [],ds,xs,_,_=>by simp [S7,C3,ROp]
 | k'::ks,[],xs,h,r=>by simp only [RDs] at r;subst r;simp at h
 | k'::ks,d::ds,xs,h,r=>by
  simp only [RDs] at r;obtain ⟨x,xs,rfl,r1,r2⟩:=r;have ih:=Kw k (by simpa using h) r2 (ks:=ks);simp only [S7,C3,List.zip_cons_cons,List.find?_cons] at ih ⊢;by_cases e:k'=k
  . simp only [e,decide_true];exact ⟨x,rfl,r1⟩
  . simp only [e,decide_false];exact ih
end
def S6:D->D->Option (Option D)
 | .dk ks ds,k=>(Bz k).map fun k=>S7 ks ds k
 | .dt ks ds,.tup es=>(X8 es).map fun k=>S7 ks ds k
 | _,_=>none
theorem Sv {K:Frag} {H:Hp} {d k:D} {x y:V} {o:Option D} (h:S6 d k=some o) (rx:RD K H d x) (ry:RD K H k y) :
  ∃a w,x=.ref a/\DGet H a y w/\ROp K H o w:=by
 cases d<;>simp only [S6] at h<;>first | cases h | skip
 . rename_i ks ds;obtain ⟨a,xs,rfl,ha,hl,rs⟩:=rx.dk;cases hk:Bz k with
   | none=>rw [hk] at h;cases h
   | some k'=>
    rw [hk] at h
    have h:S7 ks ds k'=o:=by simpa using h
    subst h
    cases Sw hk ry
    exact ⟨a,_,rfl,DGet.k ha,Kw k' hl rs⟩
 . rename_i ks ds;cases k<;>simp only [S6] at h<;>first | cases h | skip
   rename_i es;obtain ⟨a,xs,rfl,ha,hl,rs⟩:=rx.dt;obtain ⟨b,ys,rfl,hb,rb⟩:=ry.tup;cases hk:X8 es with
   | none=>rw [hk] at h;cases h
   | some k'=>
    rw [hk] at h
    have h:S7 ks ds k'=o:=by simpa using h
    subst h
    have e:=Uc hk rb
    subst e
    exact ⟨a,_,rfl,DGet.t ha hb,Kw k' hl rs⟩
def Gy (neg:Bool):D->D->Option D:=fun k d=>(S6 d k).map fun o=>.bl (if neg then !o.isSome else o.isSome)
noncomputable def El (neg:Bool):R2:=fun y x H Q=>∃a w,x=.ref a/\DGet H a y w/\Q (.bl (if neg then !w.isSome else w.isSome)) H
def Gx:D->D->Option D:=fun d k=>(S6 d k).bind id
noncomputable def Gw:R2:=fun x y H Q=>∃a w,x=.ref a/\DGet H a y (some w)/\Q w H
def z5:D->D->Option D
 | .lst ds,.int i=>atI ds i
 | .tup ds,.int i=>atI ds i
 | .scr ns,.int i=>(atI ns i).map D.int
 | .str z,.int i=>if z.length<=100000 then (atI z.cps.toList i).map fun c=>D.str ⟨#[c]⟩ else none
 | _,_=>none
theorem RDs.atI {K:Frag} {H:Hp} {ds:List D} {xs:List V} {i:Int} {d:D} (r:RDs K H ds xs) (h:L2.atI ds i=some d):∃v,L2.atI xs i=some v/\RD K H d v:=by
 unfold L2.atI at h ⊢;rw [<-r.length];cases q:ixN ds.length i with
 | none=>rw [q] at h;cases h
 | some j=>
  rw [q] at h
  exact r.get' h
theorem vA (f:α->β) (xs:List α) (i:Int):atI (xs.map f) i=(atI xs i).map f:=by
 unfold atI;rw [List.length_map];cases ixN xs.length i with
 | none=>rfl
 | some j=>simp
section
variable {X:Cx} {K:Frag}
theorem Ze (hu:X.A.units+64<cLine):OpR X (compareOp .In) (El false):=by intro pins s U H x y v u Q I rx ry h;obtain ⟨a,w,rfl,g,q⟩:=h;cases ry;exact y23 (by omega) I g rx fun s' I'=>⟨.bl w.isSome,H,I',rfl,by simpa using q⟩
theorem wT (hu:X.A.units+64<cLine):OpR X (compareOp .NotIn) (El true):=by intro pins s U H x y v u Q I rx ry h;obtain ⟨a,w,rfl,g,q⟩:=h;cases ry;exact vS (by omega) I g rx fun s' I'=>⟨.bl (!w.isSome),H,I',rfl,by simpa using q⟩
theorem kC:OpD K false (Gy neg) (El neg):=by
 intro H0 H x y d e z Q s rx ry ho k;unfold Gy at ho;cases ho':S6 e d with
 | none=>rw [ho'] at ho;cases ho
 | some o=>
  rw [ho'] at ho;cases ho
  obtain ⟨a,w,rfl,g,m⟩:=Sv ho' (ry.mono s) (rx.mono s)
  refine ⟨a,w,rfl,g,k _ H ?_⟩
  have e:w.isSome=o.isSome:=by
   cases o with
   | none=>rw [show w=none from m];rfl
   | some z=>obtain ⟨v,e,_⟩:=m;rw [e];rfl
  rw [e]
  exact .pure s (.mkBl _)
def dIn (neg:Bool):D->D->Option D:=dOr (R7 neg) (Gy neg)
def Gv (K:Frag) (neg:Bool):R2:=fun x y H Q=>Em K neg x y H Q\/El neg x y H Q
theorem Ff (hu:X.A.units+64<cLine):OpR X (compareOp .In) (Gv X.K false):=(Zf hu).or (Ze hu)
theorem Lo (hu:X.A.units+64<cLine):OpR X (compareOp .NotIn) (Gv X.K true):=(wU hu).or (wT hu)
theorem S5:OpD K false (dIn neg) (Gv K neg):=od_inS.or kC
theorem vz (hu:X.A.units+64<cLine):IxR X Gw:=by intro value slice pins s U H x y v u Q I rx ry h hs;obtain ⟨a,w,rfl,g,q⟩:=h;cases rx;exact tail_any (ops:=[.ref a,u]) (yV I g) PySem.F.slot_dict_getitem.lookup (ye (by lia) I g ry fun w' s3 I3 rw'=>⟨w,H,I3,rw',q⟩) hs
theorem kB:OpD K false Gx Gw:=by
 intro H0 H x y d e z Q s rx ry ho k;unfold Gx at ho;cases ho':S6 d e with
 | none=>rw [ho'] at ho;cases ho
 | some o=>
  rw [ho'] at ho
  have ho:o=some z:=ho
  subst ho
  obtain ⟨a,w,e0,g,m⟩:=Sv ho' rx ry
  obtain ⟨v,rfl,rv⟩:=m
  subst e0
  refine ⟨a,v,rfl,?_,k _ H (.pure s rv)⟩
  rcases g with ⟨kvs,kk,e1,e2,e3⟩ | ⟨kvs,kk,b,e1,e2,e3,e4⟩
  . refine .inl ⟨kvs,kk,?_,e2,e3⟩;rcases e1 with e1 | ⟨o,e1⟩
    . exact .inl (s _ _ e1)
    . exact .inr ⟨o,s _ _ e1⟩
  . refine .inr ⟨kvs,kk,b,?_,e2,s _ _ e3,e4⟩;rcases e1 with e1 | ⟨o,e1⟩
    . exact .inl (s _ _ e1)
    . exact .inr ⟨o,s _ _ e1⟩
theorem od_ixS:OpD K false z5 (rIx K):=by
 intro H0 H x y d e z Q s rx ry ho k;cases d<;>simp only [z5] at ho<;>first | cases ho | skip
 . -- a text
   cases e<;>simp only [z5] at ho<;>first | cases ho | skip
   cases rx.str;cases ry.int;split at ho
   . rename_i z' i hl;cases hc:atI z'.cps.toList i with
     | none=>rw [hc] at ho;cases ho
     | some c=>
      rw [hc] at ho;cases ho
      exact .inr (.inr ⟨z',i,c,rfl,rfl,En hl,hc,k _ H (.pure s (.mkStr _))⟩)
   . cases ho
 . cases e<;>simp only [z5] at ho<;>first | cases ho | skip
   obtain ⟨a,xs,rfl,ha,ra⟩:=rx.tup;cases ry.int;obtain ⟨v,hv,rv⟩:=ra.atI ho;exact .inr (.inl ⟨a,xs,_,v,rfl,rfl,.of (s _ _ ha),hv,k _ H (.pure s rv)⟩)
 . cases e<;>simp only [z5] at ho<;>first | cases ho | skip
   obtain ⟨a,xs,rfl,ha,ra⟩:=rx.lst;cases ry.int;obtain ⟨v,hv,rv⟩:=ra.atI ho;exact .inl ⟨a,xs,_,v,rfl,rfl,.of (s _ _ ha),hv,k _ H (.pure s rv)⟩
 . cases e<;>simp only [z5] at ho<;>first | cases ho | skip
   rename_i ns i;cases ry.int;obtain ⟨a,rfl,ha⟩:=(rx.mono s).scr;cases hc:atI ns i with
   | none=>rw [hc] at ho;cases ho
   | some c=>
    rw [hc] at ho;cases ho
    exact .inl ⟨a,_,i,.int c,rfl,rfl,ha,by rw [vA,hc];rfl,k _ H (.pure s (.mkInt _))⟩
def dIx:D->D->Option D:=dOr z5 Gx
def Xr (K:Frag):R2:=fun x y H Q=>rIx K x y H Q\/Gw x y H Q
theorem y2j (hu:X.A.units+64<cLine):IxR X (Xr X.K):=ix_seq.or (vz hu)
theorem Zd:OpD K false dIx (Xr K):=od_ixS.or kB
end
structure QE (X:Cx) (EX:XW) (fr:Bool) (e:Expr) (f:DE->R D):Prop where
 h:PE X e (TEd X.K EX fr f)
structure QT (X:Cx) (EX:XW) (e:Expr) (t:DE->R Bool):Prop where
 h:PT X e (TTd X.K EX t)
structure QW (X:Cx) (EX:XW) (e:Expr) (t:DE->R Bool):Prop where
 h:PW X e (TTd X.K EX t)
structure QA (X:Cx) (EX:XW) (es:List Expr) (f:DE->R (List D)):Prop where
 h:PA X es (TAd X.K EX f)
structure QI (X:Cx) (EX:XW) (kp:Bool) (tg e:Expr) (f:DE->R (List D)):Prop where
 h:PI X tg e (TId X.K EX kp f)
structure QG (X:Cx) (tg:Expr) (t:Tg):Prop where
 h:PG X tg (TGd X.K t)
structure QGs (X:Cx) (ts:List Expr) (is:List Nat):Prop where
 h:PGs X ts (Fs is)
structure QS (X:Cx) (EX:XW) (fr:Bool) (st:Stmt) (g:DS->SR):Prop where
 h:PS X st (TSd X.K EX fr g)
structure QB (X:Cx) (EX:XW) (fr:Bool) (sts:List Stmt) (g:DS->SR):Prop where
 h:PSs X sts (TSd X.K EX fr g)
section
variable {X:Cx} {EX:XW} {fr:Bool} {a b c e:Expr} {es rest:List Expr} {fa fb:DE->R D} {fs:DE->R (List D)} {t u:DE->R Bool} {pos p:Pos} {x:Str}
theorem PA.imp {es:List Expr} {t t':TA} (h:PA X es t) (hi:∀U H Q,t' U H Q->t U H Q):PA X es t':=fun pos pins s U H Q I q=>h pos pins s U H Q I (hi U H Q q)
theorem PW.imp {e:Expr} {t t':TT} (h:PW X e t) (hi:∀U H Q,t' U H Q->t U H Q):PW X e t':=fun wh pins s U H Q I q=>h wh pins s U H Q I (hi U H Q q)
theorem PI.imp {tg e:Expr} {t t':TI} (h:PI X tg e t) (hi:∀U H Q,t' U H Q->t U H Q):PI X tg e t':=fun pins s U H Q I q=>h pins s U H Q I (hi U H Q q)
theorem PS.imp {st:Stmt} {t t':TS} (h:PS X st t) (hi:∀D U H,t' D U H->t D U H):PS X st t':=fun pins s U H D I q=>h pins s U H D I (hi D U H q)
theorem PSs.imp {st:List Stmt} {t t':TS} (h:PSs X st t) (hi:∀D U H,t' D U H->t D U H):PSs X st t':=fun pins s U H D I q=>h pins s U H D I (hi D U H q)
theorem QE.wk (h:QE X EX true e f):QE X EX false e f:=⟨h.h.imp fun _ _ _ q=>q.weak⟩
theorem qv (i:Nat) (hN:X.N[i]?=some x:=by rfl) (hv:Vis X.env.scope x:=by first | exact .inl rfl | exact .inr (.inl rfl) | exact .inr (.inr rfl)) (hd:(x==("__debug__":Str))=false:=by decide)
 (hcd:(x==("__classdict__":Str))=false:=by decide):QE X EX false (.Name x pos) (d6 i):=⟨(Dj hN hv hd hcd).imp fun U H Q q=>Zt q⟩
theorem e8:QE X EX false (.Constant (.int i) j pos) (eC (.int i)):=⟨pe_int.imp fun U H Q q=>Gd (fun _=>.mkInt i) q⟩
theorem Ek:QE X EX false (.Constant (.bool i) j pos) (eC (.bl i)):=⟨pe_bl.imp fun U H Q q=>Gd (fun _=>.mkBl i) q⟩
theorem Hw:QE X EX false (.Constant .none j pos) (eC .non):=⟨pe_non.imp fun U H Q q=>Gd (fun _=>.mkNon) q⟩
theorem Cp:QE X EX false (.Constant (.str i) j pos) (eC (.str i)):=⟨pe_str.imp fun U H Q q=>Gd (fun _=>.mkStr i) q⟩
theorem g9 (ho:OpR X (binaryOp op) r) (od:OpD X.K fr o r) (ha:QE X EX false a fa) (hb:QE X EX false b fb):QE X EX fr (.BinOp a op b pos) (eOp o fa fb):=⟨(jc ho ha.h hb.h).imp fun _ _ _ q=>Eo od q⟩
theorem N7 (ho:UnR X (unaryOp op) r) (od:UnD X.K fr o r) (ha:QE X EX false a fa):QE X EX fr (.UnaryOp op a pos) (eUn o fa):=⟨(jb ho ha.h).imp fun _ _ _ q=>y28 od q⟩
theorem C6 (ho:OpR X (compareOp op) r) (od:OpD X.K false o r) (ha:QE X EX false a fa) (hb:QE X EX false b fb) (hm:behindInMarks op b=false) :
 QE X EX false (.Compare a [op] [b] pos) (eOp o fa fb):=⟨(wa ho ha.h hb.h hm).imp fun _ _ _ q=>Eo od q⟩
theorem y2k (ho:IxR X r) (od:OpD X.K false o r) (ha:QE X EX false a fa) (hb:QE X EX false b fb) (hs:Lc b:=by exact fun _ _=>rfl):QE X EX false (.Subscript a b pos) (eOp o fa fb):=⟨(Zz ho ha.h hb.h hs).imp fun _ _ _ q=>Eo od q⟩
theorem e9:QA X EX [] d9:=⟨pa_nil.imp fun _ _ _ q=>Hx q⟩
theorem d8 (ha:QE X EX false e fa) (hr:QA X EX es fs) (hs:starEach (e::es) X.env=(false,eval e X.env)::starEach es X.env:=by rfl):QA X EX (e::es) (d7 fa fs):=⟨(G8 ha.h hr.h hs).imp fun _ _ _ q=>Dh q⟩
theorem t5 (h:QA X EX es fs):QE X EX false (.Tuple es x1 pos) (p7 fs):=⟨(kU h.h).imp fun _ _ _ q=>Zs q⟩
theorem y8 (h:QA X EX es fs):QE X EX true (.List es pos) (t8 fs):=⟨(kT h.h).imp fun _ _ _ q=>Zr q⟩
theorem Zc (hc:QT X EX c t) (ha:QE X EX fr a fa) (hb:QE X EX fr b fb):QE X EX fr (.IfExp c a b pos) (eIf t fa fb):=⟨(xB hc.h ha.h hb.h).imp fun _ _ _ q=>y29 q⟩
theorem O6 (ha:QE X EX false a fa) (hb:QE X EX false (.BoolOp .And (b::rest) pos) fb):QE X EX false (.BoolOp .And (a::b::rest) pos) (D6 fa fb):=⟨(vP ha.h hb.h).imp fun _ _ _ q=>Zp q⟩
theorem Ej (ha:QE X EX false a fa) (hb:QE X EX false (.BoolOp .Or (b::rest) pos) fb):QE X EX false (.BoolOp .Or (a::b::rest) pos) (eOr fa fb):=⟨(kP ha.h hb.h).imp fun _ _ _ q=>y2d q⟩
theorem M1 (h:QE X EX false a fa):QE X EX false (.BoolOp op [a] pos) fa:=⟨qa h.h⟩
noncomputable def v4:D->Option Bool
 | .bl b=>some b
 | .int i=>some (i != 0)
 | .non=>some false
 | .str z=>if z.length<=100000 then some ((z.length:Int) != 0) else none
 | .lst ds=>some (!ds.isEmpty)
 | .tup ds=>some (!ds.isEmpty)
 | .dk ks _=>some (!ks.isEmpty)
 | _=>none
theorem Mp {α β:Type} {xs:List α} {ys:List β} (h:xs.length=ys.length):xs.isEmpty=ys.isEmpty:=by cases xs<;>cases ys<;>first | rfl | simp at h
theorem Ql {K:Frag}:Ha K v4 O7:=by
 intro H0 H x d b Q s rx ht q;cases d<;>simp only [v4] at ht<;>first | cases ht | skip
 . cases rx.non;exact q
 . cases rx.bl;exact q
 . cases rx.int;exact q
 . split at ht<;>cases ht;rename_i h;cases rx.str;exact ⟨En h,q⟩
 . obtain ⟨p,xs,rfl,hp,r⟩:=rx.tup;unfold O7;dsimp only;rw [Uw (s _ _ hp)];rw [Mp r.length] at q;exact q
 . obtain ⟨p,xs,rfl,hp,r⟩:=rx.lst;unfold O7;dsimp only;rw [Ux (s _ _ hp)];rw [Mp r.length] at q;exact q
 . rename_i ks es;obtain ⟨p,xs,rfl,hp,hl,r⟩:=rx.dk;unfold O7;dsimp only;have e:E5 H p=none:=by unfold E5;rw [s _ _ hp]
   rw [e];dsimp only;rw [s _ _ hp];dsimp only;rw [Mp (show ks.length=(List.zip ks xs).length by rw [List.length_zip,<-hl,Nat.min_self])] at q;exact q
theorem kA (ha:QE X EX false a fa):QE X EX false (.UnaryOp .Not a pos) (eUn (fun d=>(v4 d).map fun b=>.bl (!b)) fa):=⟨(vO ha.h).imp fun _ _ _ q=>kH Ql q⟩
theorem S4 (ha:QE X EX false a fa) (he:∀whole,isTrue a X.env whole=(do let v <-whole;standAt a.pos;holding [v] (truthy v)):=by intro _;rfl):QT X EX a (i6 v4 fa):=⟨(kQ ha.h he).imp fun _ _ _ q=>Zo Ql q⟩
theorem x4 (ho:OpR X (compareOp op) r) (od:OpD X.K false o r) (ha:QE X EX false a fa) (hb:QE X EX false b fb) (hm:behindInMarks op b=false) :
 QT X EX (.Compare a [op] [b] pos) (i6 asB (eOp o fa fb)):=⟨(vQ ho ha.h hb.h hm).imp fun _ _ _ q=>Zn od q⟩
theorem QW.pt (h:QW X EX a t):QT X EX a t:=⟨h.h.pt⟩
theorem Co (ha:QT X EX a t):QT X EX (.UnaryOp .Not a pos) (C4 t):=⟨(qb ha.h).imp fun _ _ _ q=>kI q⟩
theorem Y7 (ha:QT X EX a t):QW X EX (.BoolOp .And [a] pos) t:=⟨wc ha.h⟩
theorem Fe (ha:QT X EX a t):QW X EX (.BoolOp .Or [a] pos) t:=⟨qe ha.h⟩
theorem S3 (ha:QT X EX a t) (hb:QW X EX (.BoolOp .And (b::rest) pos) u):QW X EX (.BoolOp .And (a::b::rest) pos) (G3 t u):=⟨(qc ha.h hb.h).imp fun _ _ _ q=>kJ q⟩
theorem W1 (ha:QT X EX a t) (hb:QW X EX (.BoolOp .Or (b::rest) pos) u):QW X EX (.BoolOp .Or (a::b::rest) pos) (bOr t u):=⟨(jd ha.h hb.h).imp fun _ _ _ q=>Zq q⟩
theorem A5 {id:String} {rr:List V->Hp->VK->Prop} {m:List D->Option D} (hc:CallR X (.builtin id) rr) (od:A7 X.K fr m rr) (hg:Gl X x) (hm:X.mg x=none) (hv:bootBuiltins x=some (.builtin id)) (ha:QA X EX (e::es) fs) (hn:x≠"__name__":=by decide) (hdb:(x==("__debug__":Str))=false:=by decide)
 (he:starEach (e::es) X.env=(false,eval e X.env)::starEach es X.env:=by rfl) (hpl:(backTo pos (starEach es X.env)).any (·.1)=false:=by rfl):QE X EX fr (.Call (.Name x p) (e::es) [] pos) (eCB m fs):=⟨(Lx hc hg hm hv ha.h hn hdb he hpl).imp fun _ _ _ q=>Gz od q⟩
theorem G6 (hc:CallR X (.type T) rr) (od:A7 X.K fr m rr) (hg:Gl X x) (hm:X.mg x=none) (hv:bootBuiltins x=some (.type T)) (ha:QA X EX (e::es) fs) (hn:x≠"__name__":=by decide) (hdb:(x==("__debug__":Str))=false:=by decide)
 (he:starEach (e::es) X.env=(false,eval e X.env)::starEach es X.env:=by rfl) (hpl:(backTo pos (starEach es X.env)).any (·.1)=false:=by rfl):QE X EX fr (.Call (.Name x p) (e::es) [] pos) (eCB m fs):=⟨(yf hc hg hm hv ha.h hn hdb he hpl).imp fun _ _ _ q=>Gz od q⟩
theorem n9 (L:Lnd X EX) (G:i0 X.prog X.w X.K X.mg X.base x ps k (spD X.K X.mg fr (mOf fr n kk gg) n)) (hr:Room j X.A) (hg:Gl X x) (ha:QA X EX (e::es) fs) (hkj:k<=j:=by omega) (hdb:(x==("__debug__":Str))=false:=by decide)
 (he:starEach (e::es) X.env=(false,eval e X.env)::starEach es X.env:=by rfl) (hpl:(backTo pos (starEach es X.env)).any (·.1)=false:=by rfl):QE X EX fr (.Call (.Name x p) (e::es) [] pos) (i7 (mOf fr n kk gg) fs):=⟨(Sx G L.on hr hg ha.h hkj hdb he hpl).imp fun _ _ _ q=>kE P9 (fun x H z=>by obtain ⟨C,hC⟩:=L.nm x H z;exact ⟨C,hC,fun od xf=>⟨x,z,hC,xf⟩⟩) q⟩
end
noncomputable def D8:D->String
 | .non=>"NoneType"
 | .bl _=>"bool"
 | .int _=>"int"
 | .str _=>"str"
 | .tup _=>"tuple"
 | .lst _=>"list"
 | .dk _ _=>"dict"
 | .dt _ _=>"dict"
 | .dn _ _=>"?"
 | .scr _=>"?"
 | .exc _ _=>"?"
 | .obj _ _=>"?"
 | .dp _ _=>"?"
def r8 (c:String):D->Option D:=fun d=>if G7 c=true/\D8 d≠"?" then some (.bl (G0 (D8 d) c)) else none
theorem vy {K:Frag} {H:Hp} {d:D} {v:V} (h:D8 d≠"?") (r:RD K H d v):M4 H v=some (D8 d):=by
 cases d
 . cases r.non;rfl
 . cases r.bl;rfl
 . cases r.int;rfl
 . cases r.str;rfl
 . obtain ⟨a,xs,rfl,ha,_⟩:=r.tup;simp only [M4,ha,D8]
 . obtain ⟨a,xs,rfl,ha,_⟩:=r.lst;simp only [M4,ha,D8]
 . obtain ⟨a,xs,rfl,ha,_⟩:=r.dk;simp only [M4,ha,D8]
 . obtain ⟨a,xs,rfl,ha,_⟩:=r.dt;simp only [M4,ha,D8]
 all_goals exact absurd rfl h
theorem Zb {K:Frag} {EX:XW} {U:St} {H:Hp} {Q:VK} {c:String} {f:DE->R D} (h:TEd K EX false (eUn (r8 c) f) U H Q):tCB Er (J8 (TEd K EX false f) (J8 (tC (.ty c)) O0)) U H Q:=by
 obtain ⟨sx,ρ,H0,s,e,h⟩:=h;unfold eUn at h;rw [Rk.bind] at h;refine TEd.go sx s e h fun d h v H1 H1' s1 e1 r1=>?_
 obtain ⟨z,hz,h⟩:=h.of;unfold r8 at hz;split at hz<;>cases hz;rename_i hc;show Er [v,.ty c] H1 Q;rw [kM];refine ⟨hc.1,?_⟩;rw [vy hc.2 (r1.mono e1.2.1)];exact h _ H1 (.val s1 e1 (.mkBl _))
theorem Cm (hg:Gl X x) (hm:X.mg x=none) (hv:bootBuiltins x=some (.builtin "isinstance")) (ha:QE X EX false a f) (hb:PE X b (tC (.ty c))) (hn:x≠"__name__":=by decide) (hdb:(x==("__debug__":Str))=false:=by decide)
 (he:starEach [a,b] X.env=(false,eval a X.env)::starEach [b] X.env:=by rfl) (hpl:(backTo pos (starEach [b] X.env)).any (·.1)=false:=by rfl) (hs:starEach [b] X.env=(false,eval b X.env)::starEach [] X.env:=by rfl) :
 QE X EX false (.Call (.Name x p) [a,b] [] pos) (eUn (r8 c) f):=⟨(Lx Zv hg hm hv (G8 ha.h (G8 hb pa_nil hs) he) hn hdb he hpl).imp fun _ _ _ q=>Zb q⟩
noncomputable def x6:List D->Option (List Int)
 | []=>some []
 | .int i::ds=>(x6 ds).map (i::·)
 | _::_=>none
noncomputable def M9:List D->Option (List Bool)
 | []=>some []
 | .bl i::ds=>(M9 ds).map (i::·)
 | _::_=>none
theorem Ml:∀(ns:List Int),x6 (ns.map D.int)=some ns
 | []=>rfl
 | n::ns=>by simp [x6,Ml ns]
theorem Al {K:Frag} {H:Hp}:∀{ds:List D} {ns:List Int} {xs:List V},x6 ds=some ns->RDs K H ds xs->xs=ns.map V.int
 | [],ns,xs,h,r=>by simp only [x6] at h;cases h;simp only [RDs] at r;subst r;rfl
 | d::ds,ns,xs,h,r=>by
  simp only [RDs] at r;obtain ⟨x,xs,rfl,r1,r2⟩:=r;cases d<;>simp only [x6] at h<;>first | cases h | skip
  cases q:x6 ds with
  | none=>rw [q] at h;cases h
  | some ms=>
   rw [q] at h;cases h
   cases r1.int
   rw [Al q r2];rfl
theorem Vv {K:Frag} {H:Hp}:∀{ds:List D} {ns:List Bool} {xs:List V},M9 ds=some ns->RDs K H ds xs->xs=ns.map V.bl
 | [],ns,xs,h,r=>by simp only [M9] at h;cases h;simp only [RDs] at r;subst r;rfl
 | d::ds,ns,xs,h,r=>by
  simp only [RDs] at r;obtain ⟨x,xs,rfl,r1,r2⟩:=r;cases d<;>simp only [M9] at h<;>first | cases h | skip
  cases q:M9 ds with
  | none=>rw [q] at h;cases h
  | some ms=>
   rw [q] at h;cases h
   cases r1.bl
   rw [Vv q r2];rfl
noncomputable def p8:List D->Option D
 | [.lst ds]=>some (.int ds.length)
 | [.tup ds]=>some (.int ds.length)
 | [.dk ks _]=>some (.int ks.length)
 | [.scr ns]=>some (.int ns.length)
 | [.str z]=>if z.length<=100000 then some (.int z.length) else none
 | _=>none
def J4:List D->Option D
 | [.lst ds]=>(x6 ds).map fun ns=>.int ns.sum
 | [.tup ds]=>(x6 ds).map fun ns=>.int ns.sum
 | _=>none
def R6:List D->Option D
 | [.lst ds]=>(M9 ds).map fun bs=>.bl (bs.all id)
 | _=>none
noncomputable def Jm:List D->Option D
 | [.int i,.int j]=>some (.int (if j > i then j else i))
 | _=>none
noncomputable def Jl:List D->Option D
 | [.int i,.int j]=>some (.int (if j<i then j else i))
 | _=>none
noncomputable def W0:List D->Option D
 | [.int i]=>some (.int i)
 | [.bl b]=>some (.int (if b then 1 else 0))
 | _=>none
noncomputable def O5:List D->Option D
 | [.lst ds]=>some (.lst ds)
 | [.tup ds]=>some (.lst ds)
 | [.scr ns]=>some (.lst (ns.map .int))
 | _=>none
noncomputable def E6:List D->Option D
 | [.lst ds]=>some (.tup ds)
 | [.tup ds]=>some (.tup ds)
 | _=>none
section
variable {X:Cx} {K:Frag}
theorem RDs.uno (h:RDs K H [d] xs):∃x,xs=[x]/\RD K H d x:=by simp only [RDs] at h;obtain ⟨x,r,rfl,h1,rfl⟩:=h;exact ⟨x,rfl,h1⟩
theorem RDs.duo (h:RDs K H [d,e] xs):∃x y,xs=[x,y]/\RD K H d x/\RD K H e y:=by simp only [RDs] at h;obtain ⟨x,r,rfl,h1,y,r',rfl,h2,rfl⟩:=h;exact ⟨x,y,rfl,h1,h2⟩
def Nv (K:Frag):List V->Hp->VK->Prop:=fun xs H Q=>(∃p ys,xs=[.ref p]/\(SqL K H p ys\/SqT K H p ys)/\Q (.int ys.length) H)\/(∃a kvs,xs=[V.ref a]/\H a=some (.dK kvs)/\Q (.int kvs.length) H)\/∃z,xs=[.str z]/\z.length<=sizeLine/\Q (.int z.length) H
theorem kz:CallR X (.builtin "len") (Nv X.K):=call_len_seq.or (call_lenD.or zy)
theorem ku:A7 K false p8 (Nv K):=by
 intro H0 H xs ds z Q s r ho k;unfold p8 at ho;split at ho<;>first | cases ho | skip
 . obtain ⟨x,rfl,q1⟩:=r.uno;obtain ⟨a,ys,rfl,ha,ra⟩:=q1.lst;exact .inl ⟨a,ys,rfl,.inl (.of (s _ _ ha)),by rw [<-ra.length];exact k _ H (.pure s (.mkInt _))⟩
 . obtain ⟨x,rfl,q1⟩:=r.uno;obtain ⟨a,ys,rfl,ha,ra⟩:=q1.tup;exact .inl ⟨a,ys,rfl,.inr (.of (s _ _ ha)),by rw [<-ra.length];exact k _ H (.pure s (.mkInt _))⟩
 . obtain ⟨x,rfl,q1⟩:=r.uno;obtain ⟨a,ys,rfl,ha,hl,ra⟩:=q1.dk;refine .inr (.inl ⟨a,_,rfl,s _ _ ha,?_⟩);rw [List.length_zip,<-hl,Nat.min_self];exact k _ H (.pure s (.mkInt _))
 . obtain ⟨x,rfl,q1⟩:=r.uno;obtain ⟨a,rfl,ha⟩:=(q1.mono s).scr;exact .inl ⟨a,_,rfl,.inl ha,by rw [List.length_map];exact k _ H (.pure s (.mkInt _))⟩
 . split at ho<;>cases ho;rename_i h;obtain ⟨x,rfl,q1⟩:=r.uno;cases q1.str;exact .inr (.inr ⟨_,rfl,En h,k _ H (.pure s (.mkInt _))⟩)
theorem Qk:A7 K false J4 Jb:=by
 intro H0 H xs ds z Q s r ho k;unfold J4 at ho;split at ho<;>first | cases ho | skip
 . obtain ⟨x,rfl,q1⟩:=r.uno;obtain ⟨a,ys,rfl,ha,ra⟩:=q1.lst;rename_i es;cases q:x6 es with
   | none=>rw [q] at ho;cases ho
   | some ns=>
    rw [q] at ho;cases ho
    rw [Te]
    exact ⟨ns,by rw [<-Al q ra];exact Ux (s _ _ ha),k _ H (.pure s (.mkInt _))⟩
 . obtain ⟨x,rfl,q1⟩:=r.uno;obtain ⟨a,ys,rfl,ha,ra⟩:=q1.tup;rename_i es;cases q:x6 es with
   | none=>rw [q] at ho;cases ho
   | some ns=>
    rw [q] at ho;cases ho
    rw [Te]
    exact ⟨ns,by rw [<-Al q ra];exact Uw (s _ _ ha),k _ H (.pure s (.mkInt _))⟩
theorem kr:A7 K false R6 Ja:=by
 intro H0 H xs ds z Q s r ho k;unfold R6 at ho;split at ho<;>first | cases ho | skip
 obtain ⟨x,rfl,q1⟩:=r.uno;obtain ⟨a,ys,rfl,ha,ra⟩:=q1.lst;rename_i es;cases q:M9 es with
 | none=>rw [q] at ho;cases ho
 | some ns=>
  rw [q] at ho;cases ho
  rw [vJ]
  exact ⟨ns,by rw [<-Vv q ra];exact .inl (s _ _ ha),k _ H (.pure s (.mkBl _))⟩
theorem vx:A7 K false Jm Hz:=by
 intro H0 H xs ds z Q s r ho k;unfold Jm at ho;split at ho<;>first | cases ho | skip
 obtain ⟨x,y,rfl,r1,r2⟩:=r.duo;cases r1.int;cases r2.int;rw [vI];exact k _ H (.pure s (.mkInt _))
theorem vw:A7 K false Jl Hy:=by
 intro H0 H xs ds z Q s r ho k;unfold Jl at ho;split at ho<;>first | cases ho | skip
 obtain ⟨x,y,rfl,r1,r2⟩:=r.duo;cases r1.int;cases r2.int;rw [vH];exact k _ H (.pure s (.mkInt _))
theorem Qj:A7 K false W0 Od:=by
 intro H0 H xs ds z Q s r ho k;unfold W0 at ho;split at ho<;>first | cases ho | skip
 . obtain ⟨x,rfl,q1⟩:=r.uno;cases q1.int;exact k _ H (.pure s (.mkInt _))
 . obtain ⟨x,rfl,q1⟩:=r.uno;cases q1.bl;exact k _ H (.pure s (.mkInt _))
def Qi (K:Frag):List V->Hp->VK->Prop:=fun xs H Q=>∃p ys,xs=[.ref p]/\(SqL K H p ys\/SqT K H p ys)/\∀l,H l=none->Q (.ref l) (upd H l (.lst ys))
theorem Su:CallR X (.type "list") (Qi X.K):=zx
theorem Ss:A7 K true O5 (Qi K):=by
 intro H0 H xs ds z Q s r ho k;have fin:∀{p:Addr} {ys:List V} {es:List D},RDs K H0 es ys->z=.lst es->H p=none->Q (.ref p) (upd H p (.lst ys)):=fun {p ys es} re e hp=>by subst e;refine k _ _ (.new s hp fun H' hH=>?_);simp only [OB];exact ⟨_,hH,re⟩
 unfold O5 at ho;split at ho<;>first | cases ho | skip
 . obtain ⟨x,rfl,q1⟩:=r.uno;obtain ⟨a,ys,rfl,ha,ra⟩:=q1.lst;exact ⟨a,ys,rfl,.inl (.of (s _ _ ha)),fun l hl=>fin ra rfl hl⟩
 . obtain ⟨x,rfl,q1⟩:=r.uno;obtain ⟨a,ys,rfl,ha,ra⟩:=q1.tup;exact ⟨a,ys,rfl,.inr (.of (s _ _ ha)),fun l hl=>fin ra rfl hl⟩
 . obtain ⟨x,rfl,q1⟩:=r.uno;obtain ⟨a,rfl,ha⟩:=(q1.mono s).scr;exact ⟨a,_,rfl,.inl ha,fun l hl=>fin (RDs.ofInts _) rfl hl⟩
def Sr (K:Frag):List V->Hp->VK->Prop:=fun xs H Q=>∃p ys,xs=[.ref p]/\((SqL K H p ys/\∀l,H l=none->Q (.ref l) (upd H l (.tup ys)))\/(SqT K H p ys/\Q (.ref p) H))
theorem U8:CallR X (.type "tuple") (Sr X.K):=zI
theorem U7:A7 K false E6 (Sr K):=by
 intro H0 H xs ds z Q s r ho k;unfold E6 at ho;split at ho<;>first | cases ho | skip
 . obtain ⟨x,rfl,q1⟩:=r.uno;obtain ⟨a,ys,rfl,ha,ra⟩:=q1.lst;refine ⟨a,ys,rfl,.inl ⟨.of (s _ _ ha),fun l hl=>k _ _ (.val (Same.upd_new hl) (.new s hl) (.mkTup u8 (ra.mono (Same.upd_new (s.none hl)))))⟩⟩
 . obtain ⟨x,rfl,q1⟩:=r.uno;obtain ⟨a,ys,rfl,ha,ra⟩:=q1.tup;exact ⟨a,ys,rfl,.inr ⟨.of (s _ _ ha),k _ H (.pure s (.mkTup ha ra))⟩⟩
end
noncomputable def x8 {α:Type} (xs:List α) (lo hi:Option Int):List α:=(xs.drop (HT.sIx xs.length 0 lo)).take (HT.sIx xs.length xs.length hi - HT.sIx xs.length 0 lo)
def dSl:D->Option Int->Option Int->Option D
 | .lst ds,lo,hi=>some (.lst (x8 ds lo hi))
 | .scr ns,lo,hi=>some (.lst ((x8 ns lo hi).map .int))
 | _,_,_=>none
noncomputable def TOd (K:Frag) (EX:XW) (f:DE->R (Option Int)):TO:=fun U H Q=>Same EX.hb H/\∃ρ H0,Same H0 H/\RE K H0 ρ U/\Rk EX.at (f ρ) fun o=>∀H',Same H H'->Q o H'
noncomputable def oNo:DE->R (Option Int):=fun _=>.ok none
def oSo (f:DE->R D):DE->R (Option Int):=fun ρ=>(f ρ).bind fun d=>R.of (match d with | .int i=>some (some i) | _=>none)
def eSl (o:D->Option Int->Option Int->Option D) (f:DE->R D) (fl fh:DE->R (Option Int)):DE->R D:=fun ρ=>(f ρ).bind fun d=>(fl ρ).bind fun lo=>(fh ρ).bind fun hi=>R.of (o d lo hi)
def SlD (K:Frag) (fr:Bool) (o:D->Option Int->Option Int->Option D) (r:V->Option Int->Option Int->Hp->VK->Prop):Prop:=∀(H0 H:Hp) (x:V) (d z:D) (lo hi:Option Int) (Q:VK),Same H0 H->RD K H0 d x->o d lo hi=some z->(∀v H',Out K fr H0 H z v H'->Q v H')->r x lo hi H Q
section
variable {X:Cx} {K:Frag} {EX:XW} {fr:Bool} {U:St} {H:Hp} {Q:VK}
structure QO (X:Cx) (EX:XW) (e:Option Expr) (f:DE->R (Option Int)):Prop where
 h:PO X e (TOd X.K EX f)
theorem PO.imp (h:PO X e t) (hi:∀U H Q,t' U H Q->t U H Q):PO X e t':=fun pins s U H Q I q=>h pins s U H Q I (hi U H Q q)
theorem V9 (he:QE X EX false e f):QO X EX (some e) (oSo f):=⟨(vU he.h).imp fun U H Q ⟨sx,ρ,H0,s,e,h⟩=>by
 unfold oSo at h;rw [Rk.bind] at h;refine TEd.go sx s e h fun d h v H1 H1' s1 e1 r1=>?_
 obtain ⟨o,ho,h⟩:=h.of;cases d<;>dsimp only at ho<;>first | cases ho | skip
 cases r1.int;exact ⟨_,rfl,h H1 s1⟩⟩
theorem y2l (hs:SlD K fr o r) (h:TEd K EX fr (eSl o f fl fh) U H Q):tSl r (TEd K EX false f) (TOd K EX fl) (TOd K EX fh) U H Q:=by
 obtain ⟨sx,ρ,H0,s,e,h⟩:=h;unfold eSl at h;rw [Rk.bind] at h;refine TEd.go sx s e h fun d h v H1 H1' s1 e1 r1=>?_
 rw [Rk.bind] at h;refine ⟨sx.trans s1,ρ,H1',e1.2.1,e.mono e1.1,h.mono fun lo h H2 s2=>?_⟩;rw [Rk.bind] at h;refine ⟨(sx.trans s1).trans s2,ρ,H1',e1.2.1.trans s2,e.mono e1.1,h.mono fun hi h H3 s3=>?_⟩;obtain ⟨z,hz,h⟩:=h.of;exact hs H1' H3 v d z lo hi Q (e1.2.1.trans (s2.trans s3)) r1 hz fun w H4 o=>h w H4 (o.after (s1.trans (s2.trans s3)) (e1.grow (s2.trans s3)))
theorem RDs.cut (r:RDs K H ds xs) (lo hi:Option Int):RDs K H (x8 ds lo hi) (W5 xs lo hi):=by unfold x8 W5;rw [<-r.length];exact (r.drop _).take _
theorem Kv:SlD K true dSl (Yi K):=by
 intro H0 H x d z lo hi Q s r ho k;cases d<;>simp only [dSl] at ho<;>first | cases ho | skip
 . obtain ⟨a,xs,rfl,ha,ra⟩:=r.lst;refine ⟨a,xs,rfl,.of (s _ _ ha),fun p hp=>k _ _ (.new s hp fun H' hH=>?_)⟩;simp only [OB];exact ⟨_,hH,ra.cut lo hi⟩
 . rename_i ns;obtain ⟨a,rfl,ha⟩:=(r.mono s).scr;refine ⟨a,_,rfl,ha,fun p hp=>k _ _ (.new s hp fun H' hH=>?_)⟩;simp only [OB];have e:=(RDs.ofInts (K:=K) (H:=H0) ns).cut lo hi;refine ⟨_,hH,?_⟩;have e2:∀ns:List Int,x8 (ns.map D.int) lo hi=(x8 ns lo hi).map D.int:=fun ns=>by unfold x8;rw [List.length_map,List.map_take,List.map_drop]
   rw [e2] at e;exact e
theorem Gu {o:D->Option Int->Option Int->Option D} {r:V->Option Int->Option Int->Hp->VK->Prop} {e:Expr} {lo hi:Option Expr} {pos p2:Pos} {f:DE->R D} {fl fh:DE->R (Option Int)} (hr:SlR X r) (hs:SlD X.K fr o r) (he:QE X EX false e f) (hl:QO X EX lo fl) (hu:QO X EX hi fh) :
 QE X EX fr (.Subscript e (.Slice lo hi none p2) pos) (eSl o f fl fh):=⟨(xr hr he.h hl.h hu.h).imp fun _ _ _ q=>y2l hs q⟩
end
def iL (f:DE->R D):DE->R (List D):=fun ρ=>(f ρ).bind fun d=>R.of (items d)
noncomputable def zD (lo:Int) (n:Nat):List D:=(List.range n).map fun (i:Nat)=>D.int (lo+i)
def R5 (fs:DE->R (List D)):DE->R (List D):=fun ρ=>(fs ρ).bind fun ds=>R.of (match ds with
 | [.int j]=>if -(2 ^ 62)<=j/\j<2 ^ 62 then some (zD 0 j.toNat) else none
 | _=>none)
section
variable {X:Cx} {K:Frag} {EX:XW} {H0:Hp}
theorem Ke (hS:∀H,Same H0 H->S H) (r:RDs K H0 ds xs):Ca K (ItS S xs) H0 ds:=by have hl:=r.length;refine ⟨fun i d e H H1 s1 s2=>⟨⟨hS H (s1.trans s2),by rw [<-hl];exact (List.getElem?_eq_some_iff.mp e).1⟩,fun x H' ⟨e1,e2⟩=>?_⟩,fun H s=>⟨hS H s,by rw [hl];exact η _⟩⟩;subst e1;obtain ⟨x',q1,q2⟩:=r.get' e;rw [q1] at e2;cases e2;exact ⟨Same.refl _,H1,.refl s2,q2.mono s1⟩
theorem Za (lo:Int) (n:Nat):RDs K H0 (zD lo n) (J5 lo n):=by
 have:∀l:List Nat,RDs K H0 (l.map fun (i:Nat)=>D.int (lo+i)) (l.map fun (i:Nat)=>V.int (lo+i)):=by
  intro l;induction l with
  | nil=>simp [RDs]
  | cons a l ih=>exact .cons (.mkInt _) ih
 exact this _
theorem z7 (hl:QE X EX false l f):QI X EX false tg l (iL f):=⟨(kN hl.h).imp fun U H Q ⟨sx,ρ,H0,s,e,h⟩=>by
 unfold iL at h;rw [Rk.bind] at h;refine TEd.go sx s e h fun d h v H1 H1' s1 e1 r1=>?_
 obtain ⟨ds,hd,h⟩:=h.of;cases d<;>simp only [items] at hd<;>first | cases hd | skip
 . obtain ⟨a,xs,rfl,ha,ra⟩:=r1.tup;exact xk (e1.2.1 _ _ ha) (h _ H1 H1' s1 e1 (Ke (fun H s=>s _ _ ha) ra))
 . obtain ⟨a,xs,rfl,ha,ra⟩:=r1.lst;exact xl (.inl (e1.2.1 _ _ ha)) (h _ H1 H1' s1 e1 (Ke (fun H s=>.inl (s _ _ ha)) ra))⟩
theorem Gs (hg:Gl X "range") (hm:X.mg "range"=none) (ha:QA X EX [a] fs) (hs:starEach [a] X.env=[(false,eval a X.env)]:=by rfl):QI X EX true tg (.Call (.Name "range" p) [a] [] pos) (R5 fs):=⟨(Zw hg hm ha.h hs).imp fun U H Q ⟨sx,ρ,H0,s,e,h⟩=>by
 unfold R5 at h;rw [Rk.bind] at h;refine TAd.go sx s e h fun ds h vs H1 H1' s1 e1 r1=>?_
 obtain ⟨es,hd,h⟩:=h.of;split at hd<;>first | cases hd | skip
 obtain ⟨x,rfl,q1⟩:=r1.uno;cases q1.int;split at hd<;>cases hd;rename_i hb;exact ⟨hb,h _ H1 H1' s1 e1 (Ke (fun _ _=>trivial) (Za _ _))⟩⟩
end
section
variable {X:Cx} {sc:Scope} {caps:List Str} {ix:List Nat} {elt iter:Expr} {ifs:List Expr} {pos px py tpos:Pos} {x y:Str} {kt:Nat} {kp:Bool} {EX:XW} {fi:DE->R (List D)} {t:DE->R Bool} {f:DE->R D}
noncomputable def A4:DE->R Bool:=fun _=>.ok true
inductive PTq (X:Cx) (sc:Scope) (N:List Str):List Expr->(DE->R Bool)->Prop where
 | nil:PTq X sc N [] A4
 | one {c:Expr} {t:DE->R Bool} (h:∀fp s H,QT (r6 X sc N fp s H) F0 c t):PTq X sc N [c] t
theorem PTq.run (h:PTq X sc N ifs t):∃tt,(∀fp s H,PTs (r6 X sc N fp s H) ifs tt)/\∀U H Q,TTd X.K F0 t U H Q->tt U H Q:=by
 cases h with
 | nil=>exact ⟨_,fun _ _ _=>.nil,fun U H Q ⟨sx,ρ,H0,s,e,h⟩=>h H (Same.refl _)⟩
 | one h=>exact ⟨_,fun fp s H=>.one (h fp s H).h,fun _ _ _ q=>q⟩
theorem By (C:CompOk X sc caps ix) (hN:([x]++caps).Nodup) (hx:sc.names.lookup x=some .local) (hi:QI X EX kp (.Name x px) iter fi) (ht:PTq X sc ([x]++caps) ifs t) (he:∀fp s H,QE (r6 X sc ([x]++caps) fp s H) F0 false elt f)
  (hs:∀x,foldedSetIterable iter X.env x=pure x:=by intro _;rfl):QE X EX true (.ListComp elt [⟨.Name x px,iter,ifs,0⟩] sc pos) (t9 fi b1 ix t f):=by
 obtain ⟨tt,h1,h2⟩:=ht.run
 refine ⟨(xj C hN hx hi.h h1 (fun fp s H=>(he fp s H).h) hs).imp fun _ _ _ q=>Fq Xw h2 q⟩
theorem y2m (C:CompOk X sc caps ix) (hN:([x,y]++caps).Nodup) (hx:sc.names.lookup x=some .local) (hy:sc.names.lookup y=some .local) (hi:QI X EX kp (.Tuple [.Name x px,.Name y py] kt tpos) iter fi) (ht:PTq X sc ([x,y]++caps) ifs t)
  (he:∀fp s H,QE (r6 X sc ([x,y]++caps) fp s H) F0 false elt f) (hs:∀x,foldedSetIterable iter X.env x=pure x:=by intro _;rfl):QE X EX true (.ListComp elt [⟨.Tuple [.Name x px,.Name y py] kt tpos,iter,ifs,0⟩] sc pos) (t9 fi (bT 2) ix t f):=by
 obtain ⟨tt,h1,h2⟩:=ht.run
 refine ⟨(xh C hN hx hy hi.h h1 (fun fp s H=>(he fp s H).h) hs).imp fun _ _ _ q=>Fq Xv h2 q⟩
theorem Uu (h:∀U H Q,te' U H Q->te U H Q) (q:O2 te' g De U H):O2 te g De U H:=h _ _ _ q
theorem R4 {fr:Bool} {m:List Bool} {v:Str} {k:Nat} {spos pv:Pos} (hNX:X.N.Nodup) (hk:X.N[k]?=some v) (hv:X.env.scope.names.lookup v=some .local) (C:CompOk X sc caps ix) (hN:([x]++caps).Nodup) (hx:sc.names.lookup x=some .local) (hi:QI X EX kp (.Name x px) iter fi)
  (ht:PTq X sc ([x]++caps) ifs t) (he:∀fp s H,QE (r6 X sc ([x]++caps) fp s H) F0 false elt f)
  (hsw:swapsWith (.ListComp elt [⟨.Name x px,iter,ifs,0⟩] sc pos) (some (.Name v pv)) spos.line X.env=pure true:=by rfl) (hs:∀x,foldedSetIterable iter X.env x=pure x:=by intro _;rfl) :
  QS X EX fr (.Assign [.Name v pv] (.ListComp elt [⟨.Name x px,iter,ifs,0⟩] sc pos) spos) (h9 true k m (t9 fi b1 ix t f)):=by
 obtain ⟨tt,h1,h2⟩:=ht.run
 refine ⟨(xi hNX hk hv C hN hx hi.h h1 (fun fp s H=>(he fp s H).h) hsw hs).imp fun _ _ _ q=>Uu (fun _ _ _ q=>Fq Xw h2 q) (Fh q)⟩
theorem y2n {fr:Bool} {m:List Bool} {v:Str} {k:Nat} {spos pv:Pos} (hNX:X.N.Nodup) (hk:X.N[k]?=some v) (hv:X.env.scope.names.lookup v=some .local) (C:CompOk X sc caps ix) (hN:([x,y]++caps).Nodup) (hx:sc.names.lookup x=some .local) (hy:sc.names.lookup y=some .local)
  (hi:QI X EX kp (.Tuple [.Name x px,.Name y py] kt tpos) iter fi) (ht:PTq X sc ([x,y]++caps) ifs t) (he:∀fp s H,QE (r6 X sc ([x,y]++caps) fp s H) F0 false elt f)
  (hsw:swapsWith (.ListComp elt [⟨.Tuple [.Name x px,.Name y py] kt tpos,iter,ifs,0⟩] sc pos) (some (.Name v pv)) spos.line X.env=pure true:=by rfl) (hs:∀x,foldedSetIterable iter X.env x=pure x:=by intro _;rfl) :
  QS X EX fr (.Assign [.Name v pv] (.ListComp elt [⟨.Tuple [.Name x px,.Name y py] kt tpos,iter,ifs,0⟩] sc pos) spos) (h9 true k m (t9 fi (bT 2) ix t f)):=by
 obtain ⟨tt,h1,h2⟩:=ht.run
 refine ⟨(xb hNX hk hv C hN hx hy hi.h h1 (fun fp s H=>(he fp s H).h) hsw hs).imp fun _ _ _ q=>Uu (fun _ _ _ q=>Fq Xv h2 q) (Fh q)⟩
end
section
variable {X:Cx} {EX:XW} {fr fr':Bool} {st:Stmt} {sts:List Stmt} {a c e:Expr} {es:List Expr} {f:DE->R D} {fs:DE->R (List D)} {t:DE->R Bool} {g g1 g2:DS->SR} {pos p:Pos} {m:List Bool}
theorem E4:QB X EX fr [] sNx:=⟨pss_nil.imp fun _ _ _ q=>Xx q⟩
theorem j8 (h:QS X EX fr st g):QB X EX fr [st] g:=⟨Tj h.h⟩
theorem i8 (h1:QS X EX fr st g1) (h2:QB X EX fr sts g2):QB X EX fr (st::sts) (g8 g1 g2):=⟨(Lz h1.h h2.h).imp fun _ _ _ q=>Ny q⟩
theorem E2 (hc:QT X EX c t) (ha:QB X EX fr x g1) (hb:QB X EX fr y g2):QS X EX fr (.If c x y pos) (sIf t g1 g2):=⟨(Op hc.h ha.h hb.h).imp fun _ _ _ q=>Nw q⟩
theorem n8 (he:QE X EX fr e f):QS X EX fr (.Return (some e) pos) (j9 m f):=⟨(Kh he.h).imp fun _ _ _ q=>Zm q⟩
theorem kq (hN:X.N[i]?=some x:=by rfl) (hv:Vis X.env.scope x:=by first | exact .inl rfl | exact .inr (.inl rfl) | exact .inr (.inr rfl)) (hd:(x==("__debug__":Str))=false:=by decide)
 (hcd:(x==("__classdict__":Str))=false:=by decide):QS X EX true (.Return (some (.Name x p)) pos) (Fk i):=⟨(Kh (pw i hN hv hd hcd)).imp fun _ _ _ q=>kG q⟩
theorem Qh (he:QE X EX false e f) (hs:swapsWith e none pos.line X.env=pure false:=by rfl):QS X EX fr (.Expr e pos) (Cw f):=⟨(Lf he.h hs).imp fun _ _ _ q=>kF q⟩
theorem Yz (hN:X.N.Nodup) (hi:X.N[i]?=some x) (hx:Loc X.env.scope x) (he:QE X EX fr' e f) (hs:swapsWith e (some (.Name x pos')) pos.line X.env=pure false:=by rfl) (hf:X.fn x=true\/X.env.scope.names.lookup x=some .local) :
 QS X EX fr (.Assign [.Name x pos'] e pos) (h9 fr' i m f):=⟨(Qu hN hi hx he.h hs hf).imp fun _ _ _ q=>Fh q⟩
theorem g_n (hN:X.N.Nodup) (hi:X.N[i]?=some x) (hx:Loc X.env.scope x) (hf:X.fn x=true\/X.env.scope.names.lookup x=some .local:=by exact .inl rfl):QG X (.Name x pos) (.n i):=⟨(Le hN hi hx hf).imp fun _ _ _ _ q=>y2f q⟩
theorem ko:QGs X [] []:=⟨wZ⟩
theorem Sq (hN:X.N.Nodup) (hi:X.N[i]?=some x) (hx:Loc X.env.scope x) (hr:QGs X ts is) (hf:X.fn x=true\/X.env.scope.names.lookup x=some .local:=by exact .inl rfl)
 (hs:(assignEach (.Name x pos::ts) X.env).map (·.2)=assign (.Name x pos) X.env::(assignEach ts X.env).map (·.2):=by rfl):QGs X (.Name x pos::ts) (i::is):=⟨xY (Le hN hi hx hf) hr.h hs⟩
theorem g_t (hc:X.calm=true) (h:QGs X ts is) (hn:(assignEach ts X.env).length=is.length:=by rfl) (hst:(assignEach ts X.env).findIdx? (·.1)=none:=by rfl):QG X (.Tuple ts k pos) (.t is):=⟨(vK hc h.h hn hst).imp fun _ _ _ _ q=>y2g q⟩
theorem Cl (hp:PassesOwn (model X.prog X.w) X.A X.env X.xe) (hc:X.calm=true) (hi:QI X EX kp tg iter fi) (hg:QG X tg tt) (hb:QB X EX fr body g)
 (hs:∀x,foldedSetIterable iter X.env x=pure x:=by intro _;rfl):QS X EX fr (.For tg iter body [] pos) (L9 kp m fi tt g):=⟨(vM hp hc hi.h hg.h hb.h hs).imp fun _ _ _ q=>Zk q⟩
theorem vv (hp:PassesOwn (model X.prog X.w) X.A X.env X.xe) (hc:QT X EX c t) (hb:QB X EX fr body g):QS X EX fr (.While c body [] pos) (Dg n t g):=⟨(xA hp hc.h hb.h).imp fun _ _ _ q=>vD q⟩
noncomputable def A3:D->List D->Option D
 | .lst ds,[d]=>if ds.length<100000 then some (.lst (ds++[d])) else none
 | _,_=>none
theorem U1 {K:Frag}:TyD K "list":=fun H0 H a d ob h=>by cases d<;>simp [isT] at h;simp only [OB] at ob;obtain ⟨xs,hx,_⟩:=ob;exact .inl ⟨rfl,xs,.of hx⟩
theorem Y6 {K:Frag}:Cb K A3 Ti:=by
 intro H0 H a d d' ds vs Q s h0 ob r hm k;unfold A3 at hm;split at hm<;>first | cases hm | skip
 split at hm<;>cases hm;rename_i es e hl;simp only [OB] at ob;obtain ⟨xs,hx,rx⟩:=ob;obtain ⟨y,rfl,q1⟩:=r.uno;refine ⟨a,xs,y,rfl,rfl,hx,by rw [<-rx.length];exact Mf hl,k _ _ ?_⟩;simp only [OB];exact ⟨_,u8,rx.append (.one q1)⟩
theorem X7 {T id:String} {name:Str} {i:Nat} {x:Str} {xp apos cpos:Pos} {mt:D->List D->Option D} {rr:V->List V->Hp->VK->Prop} (pa:PlainAttrs T) (slot:Slot T name id) (hty:typeOf (.builtin id)=pure (.type "method_descriptor")) (hm:MtM X id rr) (od:Cb X.K mt rr) (hT:TyD X.K T)
 (ho:PE X (.Name x xp) (w8 i)) (ha:QA X EX (e::es) fs)
 (hbase:attributeBase (.Name x xp) name X.env (eval (.Name x xp) X.env)=eval (.Name x xp) X.env:=by rfl)
 (hfew:((backTo cpos (starEach (e::es) X.env)).all (fun x=>!x.1)&&(backToKw cpos (keywordEach [] X.env)).all (fun x=>x.1.isSome)
  && decide ((e::es).length+([]:List Keyword).length+(if ([]:List Keyword).isEmpty then 0 else 1)<30))=true:=by rfl)
 (hline:(apos.endLine==cpos.line)=true:=by rfl) (hs:starEach (e::es) X.env=(false,eval e X.env)::starEach es X.env:=by rfl) (hplain:(backTo cpos (starEach es X.env)).any (·.1)=false:=by rfl)
 (hsw:swapsWith (.Call (.Attribute (.Name x xp) name apos) (e::es) [] cpos) none pos.line X.env=pure false:=by rfl) :
 QS X EX fr (.Expr (.Call (.Attribute (.Name x xp) name apos) (e::es) [] cpos) pos) (G2 T mt i m fs):=⟨(Lf (Om pa slot hty hm ho ha.h hbase hfew hline hs hplain) hsw).imp fun _ _ _ q=>Zl od hT q⟩
end
theorem fnD {P:Program} {w:World} {K:Frag} {mg:Str->Option Value} {base:Heap} {x qual:Str} {st:Stmt} {f:Addr} {fd:FuncData} {N ps:List Str} {k n kk:Nat} {fr:Bool} {g:DS->SR} (F:Fun K x qual st f fd) (S:FnScope N ps (g7 st)) (hps:ps.length=n) (hN:N.length=n+kk)
  (hbody:∀(cdv:Value) (A:Around) (outer:List Env) (s:Shared) (H:Hp) (E:XK),Room k (A.deeper (envOfC qual (g7 st) s.heap.objs.size f cdv)) ->
   QB (E3 (CX1 P w) P w K mg base N qual (g7 st) f cdv A outer s H E) ⟨H,xNm K mg E⟩ fr (j7 st) g):FnOk P w K mg base (CX1 P w) (k+1) f fd ps (spD K mg fr (mOf fr n kk g) n):=by
 have hlen:∀{vs:List V} {H:Hp} {Q:VK} {E:XK},spD K mg fr (mOf fr n kk g) n vs H Q E->vs.length=n:=fun {vs H Q E} h=>by obtain ⟨ds,H0,s,r,hn,_⟩:=h;rw [<-r.length];exact hn
 refine F.okX S (fun vs H Q E h=>by rw [hlen h,hps]) (fun cdv A outer s H vs Q E hr h=>⟨_,(hbody cdv A outer s H E hr).h,?_⟩)
 have e:z8 N vs=vs.map some++List.replicate kk none:=by unfold z8;rw [hlen h,hN,Nat.add_sub_cancel_left]
 rw [e]
 exact Qm h
noncomputable def spL (K:Frag) (fr:Bool) (m:List D->R D) (n:Nat):Sp:=fun vs H Q _=>∃ds H0,Same H0 H/\RDs K H0 ds vs/\ds.length=n/\Rk (fun _=>False) (m ds) fun d=>∀v H',Out K fr H0 H d v H'->Q v H'
theorem spL.spD {K:Frag} {fr:Bool} {m:List D->R D} {n:Nat} {vs:List V} {H:Hp} {Q:VK} {E:XK} {mg:Str->Option Value} (h:spL K fr m n vs H Q E):L2.spD K mg fr m n vs H Q E:=by
 obtain ⟨ds,H0,s,r,hn,h⟩:=h;refine ⟨ds,H0,s,r,hn,?_⟩;cases q:m ds with
 | ok d=>rw [q] at h;exact h
 | er x=>rw [q] at h;exact h.elim
 | st=>rw [q] at h;exact h.elim
theorem km {K:Frag} {H:Hp} {a:Addr} {ns:List Int} {m:List D->R D} {fr:Bool} (hO:Et H) (hS:SqL K H a (ns.map V.int)) (h:m [.scr ns]=.ok (.bl true)):spL K fr m 1 [.ref a] H (fun v _=>v=.bl true) fun _ _ _=>False:=by
 refine ⟨[.scr ns],H,Same.refl _,.one ?_,rfl,?_⟩
 . simp only [RD];refine ⟨a,rfl,?_⟩;rcases hS with (hS | hS) | hS
   . rcases hO a with z | ⟨o,xs,z⟩<;>rw [z] at hS<;>cases hS
   . exact .inl hS
   . exact .inr hS
 . rw [h];exact fun v H' o=>by obtain ⟨_,H0',_,r⟩:=o.weak.rd;exact r.bl
end L2
namespace L2
open PySem PySem.Spec PyProof.Rows
open PySem.W (KasT kas_sort kas_rev kas_asc kas_desc kas_tail3 kas_descPart kas_count kas_place kas_bin)
section
variable {p:Array Nat}
abbrev g (p:Array Nat) (i:Nat):Nat:=p.getD i 0
end
end L2
namespace L2
open PySem PySem.Spec PyProof.Rows
open PySem.W (KasT kas_sort)
mutual
noncomputable def D.oi:D->Bool
 | .int _=>true
 | .tup ds=>ois ds
 | _=>false
noncomputable def ois:List D->Bool
 | []=>true
 | d::ds=>d.oi&&ois ds
end
mutual
noncomputable def ltT:D->D->Bool
 | .int i,.int j=>decide (i<j)
 | .int _,.tup _=>true
 | .tup ds,.tup es=>u5 ds es
 | _,_=>false
noncomputable def u5:List D->List D->Bool
 | [],[]=>false
 | [],_::_=>true
 | _::_,[]=>false
 | d::ds,e::es=>if eqD d e=true then u5 ds es else ltT d e
end
mutual
noncomputable def j6:D->D->Option Bool
 | .int i,.int j=>some (decide (i<j))
 | .tup ds,.tup es=>v9 ds es
 | _,_=>none
noncomputable def v9:List D->List D->Option Bool
 | [],[]=>some false
 | [],_::_=>some true
 | _::_,[]=>some false
 | d::ds,e::es=>if eqD d e=true then v9 ds es else j6 d e
end
mutual
theorem Qg:∀{d e:D} {b:Bool},j6 d e=some b->b=ltT d e
 | .int i,.int j,b,h=>by simp only [j6,Option.some.injEq] at h;simp only [ltT];exact h.symm
 | .tup ds,.tup es,b,h=>by simp only [j6] at h;simp only [ltT];exact So h
 | .non,e,b,h=>by simp [j6] at h
 | .bl _,e,b,h=>by simp [j6] at h
 | .str _,e,b,h=>by simp [j6] at h
 | .lst _,e,b,h=>by simp [j6] at h
 | .dk _ _,e,b,h=>by simp [j6] at h
 | .dt _ _,e,b,h=>by simp [j6] at h
 | .dn _ _,e,b,h=>by simp [j6] at h
 | .scr _,e,b,h=>by simp [j6] at h
 | .exc _ _,e,b,h=>by simp [j6] at h
 | .obj _ _,e,b,h=>by simp [j6] at h
 | .dp _ _,e,b,h=>by simp [j6] at h
 | .int _,.non,b,h=>by simp [j6] at h
 | .int _,.bl _,b,h=>by simp [j6] at h
 | .int _,.str _,b,h=>by simp [j6] at h
 | .int _,.lst _,b,h=>by simp [j6] at h
 | .int _,.tup _,b,h=>by simp [j6] at h
 | .int _,.dk _ _,b,h=>by simp [j6] at h
 | .int _,.dt _ _,b,h=>by simp [j6] at h
 | .int _,.dn _ _,b,h=>by simp [j6] at h
 | .int _,.scr _,b,h=>by simp [j6] at h
 | .int _,.exc _ _,b,h=>by simp [j6] at h
 | .int _,.obj _ _,b,h=>by simp [j6] at h
 | .int _,.dp _ _,b,h=>by simp [j6] at h
 | .tup _,.non,b,h=>by simp [j6] at h
 | .tup _,.bl _,b,h=>by simp [j6] at h
 | .tup _,.int _,b,h=>by simp [j6] at h
 | .tup _,.str _,b,h=>by simp [j6] at h
 | .tup _,.lst _,b,h=>by simp [j6] at h
 | .tup _,.dk _ _,b,h=>by simp [j6] at h
 | .tup _,.dt _ _,b,h=>by simp [j6] at h
 | .tup _,.dn _ _,b,h=>by simp [j6] at h
 | .tup _,.scr _,b,h=>by simp [j6] at h
 | .tup _,.exc _ _,b,h=>by simp [j6] at h
 | .tup _,.obj _ _,b,h=>by simp [j6] at h
 | .tup _,.dp _ _,b,h=>by simp [j6] at h
theorem So:∀{ds es:List D} {b:Bool},v9 ds es=some b->b=u5 ds es
 | [],[],b,h=>by simp only [v9,Option.some.injEq] at h;simp only [u5];exact h.symm
 | [],_::_,b,h=>by simp only [v9,Option.some.injEq] at h;simp only [u5];exact h.symm
 | _::_,[],b,h=>by simp only [v9,Option.some.injEq] at h;simp only [u5];exact h.symm
 | d::ds,e::es,b,h=>by
  simp only [v9] at h;simp only [u5];split at h
  . rename_i q;rw [ζ q];exact So h
  . rename_i q;rw [ξ q];exact Qg h
end
mutual
theorem X6:∀{d e:D},d.oi=true->eqD d e=true->e.oi=true->d=e
 | .int i,.int j,_,h,_=>by simp only [eqD,beq_iff_eq] at h;rw [h]
 | .tup ds,.tup es,p,h,q=>by simp only [eqD] at h;simp only [D.oi] at p q;rw [Qf p h q]
 | .int i,.tup _,_,h,_=>by simp [eqD] at h
 | .tup _,.int _,_,h,_=>by simp [eqD] at h
 | .int _,.non,_,_,q=>by simp [D.oi] at q
 | .int _,.bl _,_,_,q=>by simp [D.oi] at q
 | .int _,.str _,_,_,q=>by simp [D.oi] at q
 | .int _,.lst _,_,_,q=>by simp [D.oi] at q
 | .int _,.dk _ _,_,_,q=>by simp [D.oi] at q
 | .int _,.dt _ _,_,_,q=>by simp [D.oi] at q
 | .int _,.dn _ _,_,_,q=>by simp [D.oi] at q
 | .int _,.scr _,_,_,q=>by simp [D.oi] at q
 | .int _,.exc _ _,_,_,q=>by simp [D.oi] at q
 | .int _,.obj _ _,_,_,q=>by simp [D.oi] at q
 | .int _,.dp _ _,_,_,q=>by simp [D.oi] at q
 | .tup _,.non,_,_,q=>by simp [D.oi] at q
 | .tup _,.bl _,_,_,q=>by simp [D.oi] at q
 | .tup _,.str _,_,_,q=>by simp [D.oi] at q
 | .tup _,.lst _,_,_,q=>by simp [D.oi] at q
 | .tup _,.dk _ _,_,_,q=>by simp [D.oi] at q
 | .tup _,.dt _ _,_,_,q=>by simp [D.oi] at q
 | .tup _,.dn _ _,_,_,q=>by simp [D.oi] at q
 | .tup _,.scr _,_,_,q=>by simp [D.oi] at q
 | .tup _,.exc _ _,_,_,q=>by simp [D.oi] at q
 | .tup _,.obj _ _,_,_,q=>by simp [D.oi] at q
 | .tup _,.dp _ _,_,_,q=>by simp [D.oi] at q
 | .non,_,p,_,_=>by simp [D.oi] at p
 | .bl _,_,p,_,_=>by simp [D.oi] at p
 | .str _,_,p,_,_=>by simp [D.oi] at p
 | .lst _,_,p,_,_=>by simp [D.oi] at p
 | .dk _ _,_,p,_,_=>by simp [D.oi] at p
 | .dt _ _,_,p,_,_=>by simp [D.oi] at p
 | .dn _ _,_,p,_,_=>by simp [D.oi] at p
 | .scr _,_,p,_,_=>by simp [D.oi] at p
 | .exc _ _,_,p,_,_=>by simp [D.oi] at p
 | .obj _ _,_,p,_,_=>by simp [D.oi] at p
 | .dp _ _,_,p,_,_=>by simp [D.oi] at p
theorem Qf:∀{ds es:List D},ois ds=true->r9 ds es=true->ois es=true->ds=es
 | [],[],_,_,_=>rfl
 | [],_::_,_,h,_=>by simp [r9] at h
 | _::_,[],_,h,_=>by simp [r9] at h
 | d::ds,e::es,p,h,q=>by simp only [r9,Bool.and_eq_true] at h;simp only [ois,Bool.and_eq_true] at p q;rw [X6 p.1 h.1 q.1,Qf p.2 h.2 q.2]
end
mutual
theorem Fz:∀{d:D},d.oi=true->eqD d d=true
 | .int i,_=>by simp [eqD]
 | .tup ds,p=>by simp only [eqD];exact Ub (by simpa only [D.oi] using p)
 | .non,p=>by simp [D.oi] at p
 | .bl _,p=>by simp [D.oi] at p
 | .str _,p=>by simp [D.oi] at p
 | .lst _,p=>by simp [D.oi] at p
 | .dk _ _,p=>by simp [D.oi] at p
 | .dt _ _,p=>by simp [D.oi] at p
 | .dn _ _,p=>by simp [D.oi] at p
 | .scr _,p=>by simp [D.oi] at p
 | .exc _ _,p=>by simp [D.oi] at p
 | .obj _ _,p=>by simp [D.oi] at p
 | .dp _ _,p=>by simp [D.oi] at p
theorem Ub:∀{ds:List D},ois ds=true->r9 ds ds=true
 | [],_=>rfl
 | d::ds,p=>by simp only [ois,Bool.and_eq_true] at p;simp only [r9,Fz p.1,Ub p.2,Bool.and_self]
end
mutual
theorem Fp:∀{d e:D},d.oi=true->e.oi=true->ltT d e=false->ltT e d=false->d=e
 | .int i,.int j,_,_,h,h'=>by
  simp only [ltT,decide_eq_false_iff_not] at h h';have:i=j:=by lia
  rw [this]
 | .tup ds,.tup es,p,q,h,h'=>by simp only [ltT] at h h';simp only [D.oi] at p q;rw [Sn p q h h']
 | .int _,.tup _,_,_,h,_=>by simp [ltT] at h
 | .tup _,.int _,_,_,_,h=>by simp [ltT] at h
 | .int _,.non,_,q,_,_=>by simp [D.oi] at q
 | .int _,.bl _,_,q,_,_=>by simp [D.oi] at q
 | .int _,.str _,_,q,_,_=>by simp [D.oi] at q
 | .int _,.lst _,_,q,_,_=>by simp [D.oi] at q
 | .int _,.dk _ _,_,q,_,_=>by simp [D.oi] at q
 | .int _,.dt _ _,_,q,_,_=>by simp [D.oi] at q
 | .int _,.dn _ _,_,q,_,_=>by simp [D.oi] at q
 | .int _,.scr _,_,q,_,_=>by simp [D.oi] at q
 | .int _,.exc _ _,_,q,_,_=>by simp [D.oi] at q
 | .int _,.obj _ _,_,q,_,_=>by simp [D.oi] at q
 | .int _,.dp _ _,_,q,_,_=>by simp [D.oi] at q
 | .tup _,.non,_,q,_,_=>by simp [D.oi] at q
 | .tup _,.bl _,_,q,_,_=>by simp [D.oi] at q
 | .tup _,.str _,_,q,_,_=>by simp [D.oi] at q
 | .tup _,.lst _,_,q,_,_=>by simp [D.oi] at q
 | .tup _,.dk _ _,_,q,_,_=>by simp [D.oi] at q
 | .tup _,.dt _ _,_,q,_,_=>by simp [D.oi] at q
 | .tup _,.dn _ _,_,q,_,_=>by simp [D.oi] at q
 | .tup _,.scr _,_,q,_,_=>by simp [D.oi] at q
 | .tup _,.exc _ _,_,q,_,_=>by simp [D.oi] at q
 | .tup _,.obj _ _,_,q,_,_=>by simp [D.oi] at q
 | .tup _,.dp _ _,_,q,_,_=>by simp [D.oi] at q
 | .non,_,p,_,_,_=>by simp [D.oi] at p
 | .bl _,_,p,_,_,_=>by simp [D.oi] at p
 | .str _,_,p,_,_,_=>by simp [D.oi] at p
 | .lst _,_,p,_,_,_=>by simp [D.oi] at p
 | .dk _ _,_,p,_,_,_=>by simp [D.oi] at p
 | .dt _ _,_,p,_,_,_=>by simp [D.oi] at p
 | .dn _ _,_,p,_,_,_=>by simp [D.oi] at p
 | .scr _,_,p,_,_,_=>by simp [D.oi] at p
 | .exc _ _,_,p,_,_,_=>by simp [D.oi] at p
 | .obj _ _,_,p,_,_,_=>by simp [D.oi] at p
 | .dp _ _,_,p,_,_,_=>by simp [D.oi] at p
theorem Sn:∀{ds es:List D},ois ds=true->ois es=true->u5 ds es=false->u5 es ds=false->ds=es
 | [],[],_,_,_,_=>rfl
 | [],_::_,_,_,h,_=>by simp [u5] at h
 | _::_,[],_,_,_,h=>by simp [u5] at h
 | d::ds,e::es,p,q,h,h'=>by
  simp only [ois,Bool.and_eq_true] at p q;simp only [u5] at h h';by_cases w:eqD d e=true
  . have:=X6 p.1 w q.1;subst this;rw [ζ w] at h;rw [ζ w] at h';rw [Sn p.2 q.2 h h']
  . have w':¬eqD e d=true:=fun z=>w (by rw [X6 q.1 z p.1];exact Fz p.1)
    rw [ξ w] at h;rw [ξ w'] at h';have:=Fp p.1 q.1 h h';subst this;exact absurd (Fz p.1) w
end
mutual
theorem Kd:∀{d:D},d.oi=true->ltT d d=false
 | .int i,_=>by simp [ltT]
 | .tup ds,p=>by simp only [ltT];exact Sm (by simpa only [D.oi] using p)
 | .non,p=>by simp [D.oi] at p
 | .bl _,p=>by simp [D.oi] at p
 | .str _,p=>by simp [D.oi] at p
 | .lst _,p=>by simp [D.oi] at p
 | .dk _ _,p=>by simp [D.oi] at p
 | .dt _ _,p=>by simp [D.oi] at p
 | .dn _ _,p=>by simp [D.oi] at p
 | .scr _,p=>by simp [D.oi] at p
 | .exc _ _,p=>by simp [D.oi] at p
 | .obj _ _,p=>by simp [D.oi] at p
 | .dp _ _,p=>by simp [D.oi] at p
theorem Sm:∀{ds:List D},ois ds=true->u5 ds ds=false
 | [],_=>rfl
 | d::ds,p=>by simp only [ois,Bool.and_eq_true] at p;simp only [u5];rw [ζ (Fz p.1)];exact Sm p.2
end
mutual
theorem Fd:∀{d e f:D},d.oi=true->e.oi=true->f.oi=true->ltT d e=true->ltT e f=true->ltT d f=true
 | .int i,.int j,.int k,_,_,_,h,h'=>by
  simp only [ltT,decide_eq_true_eq] at h h' ⊢
  lia
 | .int i,.int j,.tup _,_,_,_,h,h'=>by simp only [ltT]
 | .int i,.tup _,.tup _,_,_,_,h,h'=>by simp only [ltT]
 | .tup ds,.tup es,.tup fs,p,q,r,h,h'=>by simp only [ltT] at h h' ⊢;simp only [D.oi] at p q r;exact Qe p q r h h'
 | .int i,.tup _,.int _,_,_,_,h,h'=>by simp [ltT] at h'
 | .tup _,.int _,_,_,_,_,h,h'=>by simp [ltT] at h
 | .tup _,.tup _,.int _,_,_,_,h,h'=>by simp [ltT] at h'
 | .non,_,_,p,_,_,_,_=>by simp [D.oi] at p
 | .bl _,_,_,p,_,_,_,_=>by simp [D.oi] at p
 | .str _,_,_,p,_,_,_,_=>by simp [D.oi] at p
 | .lst _,_,_,p,_,_,_,_=>by simp [D.oi] at p
 | .dk _ _,_,_,p,_,_,_,_=>by simp [D.oi] at p
 | .dt _ _,_,_,p,_,_,_,_=>by simp [D.oi] at p
 | .dn _ _,_,_,p,_,_,_,_=>by simp [D.oi] at p
 | .scr _,_,_,p,_,_,_,_=>by simp [D.oi] at p
 | .exc _ _,_,_,p,_,_,_,_=>by simp [D.oi] at p
 | .obj _ _,_,_,p,_,_,_,_=>by simp [D.oi] at p
 | .dp _ _,_,_,p,_,_,_,_=>by simp [D.oi] at p
 | _,.non,_,_,p,_,_,_=>by simp [D.oi] at p
 | _,.bl _,_,_,p,_,_,_=>by simp [D.oi] at p
 | _,.str _,_,_,p,_,_,_=>by simp [D.oi] at p
 | _,.lst _,_,_,p,_,_,_=>by simp [D.oi] at p
 | _,.dk _ _,_,_,p,_,_,_=>by simp [D.oi] at p
 | _,.dt _ _,_,_,p,_,_,_=>by simp [D.oi] at p
 | _,.dn _ _,_,_,p,_,_,_=>by simp [D.oi] at p
 | _,.scr _,_,_,p,_,_,_=>by simp [D.oi] at p
 | _,.exc _ _,_,_,p,_,_,_=>by simp [D.oi] at p
 | _,.obj _ _,_,_,p,_,_,_=>by simp [D.oi] at p
 | _,.dp _ _,_,_,p,_,_,_=>by simp [D.oi] at p
 | _,_,.non,_,_,p,_,_=>by simp [D.oi] at p
 | _,_,.bl _,_,_,p,_,_=>by simp [D.oi] at p
 | _,_,.str _,_,_,p,_,_=>by simp [D.oi] at p
 | _,_,.lst _,_,_,p,_,_=>by simp [D.oi] at p
 | _,_,.dk _ _,_,_,p,_,_=>by simp [D.oi] at p
 | _,_,.dt _ _,_,_,p,_,_=>by simp [D.oi] at p
 | _,_,.dn _ _,_,_,p,_,_=>by simp [D.oi] at p
 | _,_,.scr _,_,_,p,_,_=>by simp [D.oi] at p
 | _,_,.exc _ _,_,_,p,_,_=>by simp [D.oi] at p
 | _,_,.obj _ _,_,_,p,_,_=>by simp [D.oi] at p
 | _,_,.dp _ _,_,_,p,_,_=>by simp [D.oi] at p
theorem Qe:∀{ds es fs:List D},ois ds=true->ois es=true->ois fs=true->u5 ds es=true->u5 es fs=true->u5 ds fs=true
 | [],_,_::_,_,_,_,_,_=>by simp only [u5]
 | _,[],[],_,_,_,_,h=>by simp [u5] at h
 | _::_,[],_,_,_,_,h,_=>by simp [u5] at h
 | _,_::_,[],_,_,_,_,h=>by simp [u5] at h
 | d::ds,e::es,f::fs,p,q,r,h,h'=>by
  simp only [ois,Bool.and_eq_true] at p q r;simp only [u5] at h h' ⊢;by_cases w:eqD d e=true
  . have:=X6 p.1 w q.1;subst this;rw [ζ w] at h;by_cases w2:eqD d f=true
    . rw [ζ w2] at h' ⊢;exact Qe p.2 q.2 r.2 h h'
    . rw [ξ w2] at h' ⊢;exact h'
  . rw [ξ w] at h;by_cases w2:eqD e f=true
    . have:=X6 q.1 w2 r.1;subst this;rw [ξ w];exact h
    . rw [ξ w2] at h';have h3:=Fd p.1 q.1 r.1 h h';by_cases w3:eqD d f=true
      . have:=X6 p.1 w3 r.1;subst this;rw [Kd p.1] at h3;cases h3
      . rw [ξ w3];exact h3
end
theorem Ku:∀{ds:List D} {i:Nat},ois ds=true->(ds.getD i (.int 0)).oi=true
 | [],i,_=>by simp [D.oi]
 | d::ds,0,h=>by simp only [ois,Bool.and_eq_true] at h;simpa using h.1
 | d::ds,i+1,h=>by simp only [ois,Bool.and_eq_true] at h;simpa using Ku (i:=i) h.2
def ltI (ds:List D) (i j:Nat):Bool:=ltT (ds.getD i (.int 0)) (ds.getD j (.int 0))
def L0 (d:D):List D->List D
 | []=>[d]
 | e::r=>if ltT e d=true then e::L0 d r else d::e::r
def y6:List D->List D
 | []=>[]
 | d::r=>L0 d (y6 r)
theorem Me (d:D):∀l:List D,(L0 d l).Perm (d::l)
 | []=>.refl _
 | e::r=>by
  unfold L0;split
  . exact ((Me d r).cons e).trans (.swap d e r)
  . exact .refl _
theorem Q2:∀l:List D,(y6 l).Perm l
 | []=>.refl _
 | d::r=>(Me d (y6 r)).trans ((Q2 r).cons d)
theorem ois_mem:∀{ds:List D},ois ds=true↔∀d∈ds,d.oi=true
 | []=>by simp [ois]
 | d::ds=>by simp [ois,ois_mem (ds:=ds)]
def Srt (l:List D):Prop:=l.Pairwise fun a b=>ltT b a=false
theorem Ua:∀{l:List D},d.oi=true->ois l=true->Srt l->Srt (L0 d l)
 | [],_,_,_=>by simp [L0,Srt]
 | e::r,hd,hl,hs=>by
  simp only [ois,Bool.and_eq_true] at hl;obtain ⟨h1,h2⟩:=List.pairwise_cons.mp hs;unfold L0;split
  . rename_i hlt;refine List.pairwise_cons.mpr ⟨fun x hx=>?_,Ua hd hl.2 h2⟩;rcases List.mem_cons.mp ((Me d r).mem_iff.mp hx) with rfl | hx
    . cases hq:ltT x e with
      | false=>rfl
      | true=>
       have:=Fd hl.1 hd hl.1 hlt hq
       rw [Kd hl.1] at this;cases this
    . exact h1 x hx
  . rename_i hlt;have hlt:ltT e d=false:=by simpa using hlt
    refine List.pairwise_cons.mpr ⟨fun x hx=>?_,hs⟩;rcases List.mem_cons.mp hx with rfl | hx
    . exact hlt
    . have hxo:=(ois_mem.mp hl.2) x hx;cases hq:ltT x d with
      | false=>rfl
      | true=>
       have h3:=h1 x hx
       cases hy:ltT d e with
       | true=>rw [Fd hxo hd hl.1 hq hy] at h3;cases h3
       | false=>
        rw [Fp hd hl.1 hy hlt] at hq
        rw [hq] at h3;cases h3
theorem Gh (p:l.Perm l') (h:ois l'=true):ois l=true:=ois_mem.mpr fun d hd=>(ois_mem.mp h) d (p.mem_iff.mp hd)
theorem Dy:∀{l:List D},ois l=true->Srt (y6 l)
 | [],_=>.nil
 | d::r,h=>by simp only [ois,Bool.and_eq_true] at h;exact Ua h.1 (Gh (Q2 r) h.2) (Dy h.2)
theorem Gg:∀{l l':List D},ois l=true->l.Perm l'->Srt l->Srt l'->l=l'
 | [],l',_,p,_,_=>by rw [p.nil_eq]
 | a::r,[],_,p,_,_=>by have:=p.length_eq;simp at this
 | a::r,b::r',h,p,s,s'=>by
  have h':=h;simp only [ois,Bool.and_eq_true] at h;obtain ⟨h1,h2⟩:=List.pairwise_cons.mp s;obtain ⟨h3,h4⟩:=List.pairwise_cons.mp s';have hb:b∈a::r:=p.mem_iff.mpr List.mem_cons_self;have ha:a∈b::r':=p.mem_iff.mp List.mem_cons_self;have hbo:=(ois_mem.mp h') b hb;have e:a=b:=by
   rcases List.mem_cons.mp hb with z | z
   . exact z.symm
   . rcases List.mem_cons.mp ha with w | w
     . exact w
     . exact Fp h.1 hbo (h3 a w) (h1 b z)
  subst e;rw [Gg h.2 (List.perm_cons a |>.mp p) h2 h4]
end L2
namespace L2
open PySem PySem.Spec PyProof.Rows
open PySem.W (KasT kas_sort kas_rev kas_asc kas_desc kas_tail3 kas_descPart kas_count kas_place kas_bin)
def InP {α:Type} (n:Nat) (P:α->Prop):KasT α->Prop
 | .ret a=>P a
 | .ask i j k=>i<n/\j<n/\∀b,InP n P (k b)
theorem InP.bind:∀{t:KasT α},InP n P t->(∀a,P a->InP n P' (f a))->InP n P' (t.bind f)
 | .ret a,h,hf=>hf a h
 | .ask i j k,h,hf=>⟨h.1,h.2.1,fun b=>InP.bind (h.2.2 b) hf⟩
def RcLt (A:Around) (s:Shared) (x y:Value) (b:Bool):Prop:=∀(prog:Program) (w:World) (E:Value->Shared->Prop) (Q:Value->Shared->Prop),Q (.bool b) s->wpAny (model prog w) A (richCompare .Lt x y) Q E s
inductive LexR (A:Around) (s:Shared):List Value->List Value->Bool->Prop
 | nn:LexR A s [] [] false
 | nc {w ws}:LexR A s [] (w::ws) true
 | cn {v vs}:LexR A s (v::vs) [] false
 | eq {v w vs ws b} (h:SeqAt.EqAt A s v w true) (r:LexR A s vs ws b):LexR A s (v::vs) (w::ws) b
 | lt {v w vs ws b} (h:SeqAt.EqAt A s v w false) (r:RcLt A s v w b):LexR A s (v::vs) (w::ws) b
section
open PySem.SeqAt
open PySem.AutoSeq1 (wpAny_loadPart')
open PySem.MeetsSeq PySem.MeetsSeq2 PySem.MeetsSeq3
theorem yy (l b:Addr) (items items2:Array Value) (n n2:Nat) (dd dd2:Option Addr) (sl sl2:Array (Option Value)) (r:Bool) :
  Meets (Builtin.«tuple.__lt__» ⟨[.ref l,.ref b],[]⟩)
   (fun A R s=>s.heap.get? l=some { cls:=.type "tuple",dict:=dd,data:=.seq items n,slots:=sl }/\s.heap.get? b=some { cls:=.type "tuple",dict:=dd2,data:=.seq items2 n2,slots:=sl2 } /\
    LexR A.in1 s items.toList items2.toList r/\R (.ok (.ret (.bool r))) s):=
 .of_wp fun prog w A R s h=>by
  obtain ⟨hp,g,d,tk,os⟩:=s;obtain ⟨hl,hb,hL,h⟩:=h;have f2:=AutoSeq1.sub_tuple_tuple
  wp_walk using wpAny_loadPart' hl,wpAny_loadPart' hb,wpAny_forIn_list _ (fun rest b s'=>b.1=none/\s'=⟨hp,g,d,tk,os⟩/\∃(vs ws:List Value) (r':Bool),rest=vs.zip ws /\
   LexR A.in1 ⟨hp,g,d,tk,os⟩ vs ws r'/\vs.length+items2.size=ws.length+items.size/\R (.ok (.ret (.bool r'))) ⟨hp,g,d,tk,os⟩) _
  case turn=>
   rintro ⟨y,x⟩ rest b s' ⟨hb',rfl,vs,ws,r',hz,hL',hlen,hR⟩
   cases hL' with
   | nn=>rw [List.zip_nil_left] at hz;cases hz
   | nc=>rw [List.zip_nil_left] at hz;cases hz
   | cn=>rw [List.zip_nil_right] at hz;cases hz
   | eq he hr=>
    rw [List.zip_cons_cons] at hz
    injection hz with hyx hrest
    injection hyx with hy hx
    subst hy hx
    simp only [List.length_cons] at hlen
    refine δ (he prog w _ _ ?_)
    wp_walk
    exact ⟨rfl,rfl,_,_,_,hrest,hr,by lia,hR⟩
   | lt he hr=>
    rw [List.zip_cons_cons] at hz
    injection hz with hyx hrest
    injection hyx with hy hx
    subst hy hx
    refine δ (he prog w _ _ ?_)
    have hri:=hr prog w
    wp_walk using hri
    exact ⟨_,rfl,by simpa using hR⟩
  case fin=>
   rintro ⟨b1,b2⟩ s' ⟨hb',rfl,vs,ws,r',hz,hL',hlen,hR⟩
   simp only at hb'
   subst hb'
   have hv:r'=decide (items.size<items2.size):=by
    cases hL' with
    | nn=>simp only [List.length_nil] at hlen;exact (decide_eq_false (by lia)).symm
    | nc=>simp only [List.length_nil,List.length_cons] at hlen;exact (decide_eq_true (by lia)).symm
    | cn=>simp only [List.length_nil,List.length_cons] at hlen;exact (decide_eq_false (by lia)).symm
    | eq _ _=>rw [List.zip_cons_cons] at hz;cases hz
    | lt _ _=>rw [List.zip_cons_cons] at hz;cases hz
   rw [hv] at hR
   wp_walk
   exact ⟨_,rfl,by simpa [Builtin.Tuple.tupleCompareSizes] using hR⟩
  case h=>exact ⟨rfl,rfl,items.toList,items2.toList,r,rfl,hL,by simp;lia,h⟩
theorem RcLt.tuples {A:Around} {s:Shared} {l b:Addr} {items items2:Array Value} {r:Bool} (hl:s.heap.IsTuple l items) (hb:s.heap.IsTuple b items2) (hL:LexR A.in1 s items.toList items2.toList r) (hu:A.units<cLine):RcLt A s (.ref l) (.ref b) r:=fun prog w E Q h=>by
 obtain ⟨⟨cls,dd,data,sl⟩,ho,hc,n,hd⟩:=id hl;obtain ⟨⟨cls2,dd2,data2,sl2⟩,ho2,hc2,n2,hd2⟩:=id hb;simp only at hc hd hc2 hd2;subst hc hd hc2 hd2;exact richCompare_meets_room (op:=.Lt) ⟨_,ho,rfl⟩ ⟨_,ho2,rfl⟩ PySem.F.slot_tuple_lt PySem.F.entry_tuple_lt (PySem.F.args_tuple_lt_2 _ _) (yy l b items items2 n n2 dd dd2 sl sl2 r)
  ⟨ho,ho2,hL,show Value.bool r≠Value.notImplemented/\Q (.bool r) s from ⟨(fun x=>nomatch x),h⟩⟩ hu
end
mutual
theorem Ck:∀{d:D},d.oi=true->d.pl=true
 | .int _,_=>rfl
 | .tup ds,h=>by simp only [D.pl];exact Qd (by simpa only [D.oi] using h)
 | .non,p=>by simp [D.oi] at p
 | .bl _,p=>by simp [D.oi] at p
 | .str _,p=>by simp [D.oi] at p
 | .lst _,p=>by simp [D.oi] at p
 | .dk _ _,p=>by simp [D.oi] at p
 | .dt _ _,p=>by simp [D.oi] at p
 | .dn _ _,p=>by simp [D.oi] at p
 | .scr _,p=>by simp [D.oi] at p
 | .exc _ _,p=>by simp [D.oi] at p
 | .obj _ _,p=>by simp [D.oi] at p
 | .dp _ _,p=>by simp [D.oi] at p
theorem Qd:∀{ds:List D},ois ds=true->pls ds=true
 | [],_=>rfl
 | d::ds,h=>by simp only [ois,Bool.and_eq_true] at h;simp only [pls,Ck h.1,Qd h.2,Bool.and_self]
end
section
variable {X:Cx} {pins:List (Addr×Obj)} {U:St} {H:Hp} {s:Shared}
theorem Qc (I:Inv X pins U H s) (hu:A.units+n<cLine) (lt:∀{d e:D} {x y:V} {u v:Value} {b:Bool},d.oi=true->e.oi=true->d.dep<=n->RD X.K H d x->RD X.K H e y->RelV x u->RelV y v->j6 d e=some b->RcLt A s u v b) :
  ∀{ds es:List D} {xs ys:List V} {us vs:List Value} {b:Bool},ois ds=true->ois es=true->o4 ds<=n->RDs X.K H ds xs->RDs X.K H es ys->Vals xs us->Vals ys vs->v9 ds es=some b->LexR A s us vs b
 | [],[],_,_,_,_,b,_,_,_,r1,r2,q1,q2,h=>by simp only [RDs] at r1 r2;subst r1;subst r2;cases q1;cases q2;simp only [v9,Option.some.injEq] at h;subst h;exact .nn
 | [],e::es,_,_,_,_,b,_,_,_,r1,r2,q1,q2,h=>by simp only [RDs] at r1 r2;subst r1;obtain ⟨y,ys,rfl,_,_⟩:=r2;cases q1;cases q2;simp only [v9,Option.some.injEq] at h;subst h;exact .nc
 | d::ds,[],_,_,_,_,b,_,_,_,r1,r2,q1,q2,h=>by simp only [RDs] at r1 r2;subst r2;obtain ⟨y,ys,rfl,_,_⟩:=r1;cases q1;cases q2;simp only [v9,Option.some.injEq] at h;subst h;exact .cn
 | d::ds,e::es,_,_,_,_,b,p1,p2,hd,r1,r2,q1,q2,h=>by
  simp only [RDs] at r1 r2;obtain ⟨x,xs,rfl,rx,rxs⟩:=r1;obtain ⟨y,ys,rfl,ry,rys⟩:=r2;simp only [ois,Bool.and_eq_true] at p1 p2;simp only [o4] at hd;cases q1 with
  | cons a1 a2=>
   cases q2 with
   | cons b1 b2=>
    have eq:=Ft (A:=A) I n (Ck p1.1) (Ck p2.1) (by lia) hu rx ry a1 b1
    simp only [v9] at h
    split at h
    . rename_i w;rw [w] at eq;exact .eq eq (Qc I hu lt p1.2 p2.2 (by lia) rxs rys a2 b2 h)
    . rename_i w;rw [show eqD d e=false by simpa using w] at eq;exact .lt eq (lt p1.1 p2.1 (by lia) rx ry a1 b1 h)
theorem Ut (h:j6 d e=some b):(∃i j,d=.int i/\e=.int j/\b=decide (i<j))\/∃ds es,d=.tup ds/\e=.tup es/\v9 ds es=some b:=by
 cases d with
 | int i=>cases e with
  | int j=>exact .inl ⟨_,_,rfl,rfl,(Option.some.inj h).symm⟩
  | _=>exact nomatch h
 | tup ds=>cases e with
  | tup es=>exact .inr ⟨_,_,rfl,rfl,h⟩
  | _=>exact nomatch h
 | _=>exact nomatch h
theorem kj (I:Inv X pins U H s):∀(n:Nat) {A:Around} {d e:D} {x y:V} {u v:Value} {b:Bool},A.units+n<cLine->d.oi=true->e.oi=true->d.dep<=n->RD X.K H d x->RD X.K H e y->RelV x u->RelV y v->j6 d e=some b->RcLt A s u v b:=by
 intro n;induction n with
 | zero=>
  intro A d e x y u v b hu p1 p2 hd rx ry ru rv h
  rcases Ut h with ⟨i,j,rfl,rfl,rfl⟩ | ⟨ds,es,rfl,rfl,h⟩
  . cases rx.int;cases ry.int;obtain ⟨t,rfl⟩:=ru;obtain ⟨t',rfl⟩:=rv;exact fun prog w E Q q=>HT.rcLt_int A s _ _ _ _ prog w E Q q
  . simp only [D.dep] at hd;lia
 | succ n ih=>
  intro A d e x y u v b hu p1 p2 hd rx ry ru rv h
  rcases Ut h with ⟨i,j,rfl,rfl,rfl⟩ | ⟨ds,es,rfl,rfl,h⟩
  . cases rx.int;cases ry.int;obtain ⟨t,rfl⟩:=ru;obtain ⟨t',rfl⟩:=rv;exact fun prog w E Q q=>HT.rcLt_int A s _ _ _ _ prog w E Q q
  . obtain ⟨a,xs,rfl,ha,ra⟩:=rx.tup;obtain ⟨c,ys,rfl,hc,rc⟩:=ry.tup;cases ru;cases rv;obtain ⟨its,r1,t1⟩:=I.tupA ha;obtain ⟨its2,r2,t2⟩:=I.tupA hc;simp only [D.dep] at hd;simp only [D.oi] at p1 p2;have hu1:A.in1.units+n<cLine:=by show A.units+1+n<cLine;lia
    exact RcLt.tuples t1 t2 (Qc I hu1 (fun {d e x y u v b} q1 q2 q3 q4 q5 q6 q7 q8=>ih hu1 q1 q2 q3 q4 q5 q6 q7 q8) p1 p2 (by lia) ra rc r1 r2 h) (by lia)
end
end L2
namespace L2
open PySem PySem.Spec PyProof.Rows
section
variable {prog:Program} {w:World} {A:Around} {E:Value->Shared->Prop} {s:Shared}
theorem yx (ho:s.heap.get? a=some (seqObj "list" vs.toArray n)) (hs:vs.length<2)
  (h:P (.done (.ret .none)) { s with heap:=sortedHeap s.heap a vs ((pairsOf vs).map (·.2)) }):wpAny (model prog w) A (Builtin.«list.sort» ⟨[.ref a],[]⟩) P E s:=by
 rw [list_sort_plain]
 have ha:a<s.heap.objs.size:=π ho
 refine δ (listItems_at ho rfl ?_)
 refine δ (listUpdate_at ho rfl ?_)
 obtain ⟨e1,ho1⟩:∃e1,(s.heap.update a (Obj.mapSeq fun _=>#[])).get? a=some (seqObj "list" #[] e1):=⟨_,get?_update_seq ho (fun _=>#[])⟩
 refine δ (seqEpoch_at ho1 rfl ?_)
 refine δ (wpAny_newTuple ?_)
 refine δ (wpAny_newList ?_)
 refine wpAny_holding ?_
 have ho6:(((s.heap.update a (Obj.mapSeq fun _=>#[])).push (seqObj "tuple" vs.toArray 0)).push (seqObj "list" #[] 0)).get? a=some (seqObj "list" #[] e1):=by rw [Heap.get?_push_ne _ _ _ (by rw [size_push',Heap.size_update];exact Nat.ne_of_lt (Nat.lt_succ_of_lt ha)),Heap.get?_push_ne _ _ _ (by rw [Heap.size_update];exact Nat.ne_of_lt ha)];exact ho1
 show wpAny (model prog w) A _ P E { s with heap:=((s.heap.update a (Obj.mapSeq fun _=>#[])).push (seqObj "tuple" vs.toArray 0)).push (seqObj "list" #[] 0) }
 dsimp only
 have hsz:vs.toArray.size=vs.length:=by simp
 have h2:vs.toArray.size<2:=by rw [hsz];exact hs
 rw [ζ h2,ζ h2]
 refine δ (ω ?_)
 rw [StateT.run_pure]
 refine δ (ω ?_)
 dsimp only
 refine δ (seqEpoch_at ho6 rfl ?_)
 refine δ (listUpdate_at ho6 rfl ?_ (hsz2:=by rw [Array.size_map];show (pairsOf vs).size<=_;rw [pairsOf_size,sizeLine_eq];lia))
 simp only [bne_self_eq_false,Bool.false_eq_true,if_false]
 exact ω h
theorem zu (hl:s.heap.IsList l vs.toArray) (hs:vs.length<2)
  (h:Q (.ref (s.heap.objs.size+1)) { s with heap:=sortedAll s.heap vs ((pairsOf vs).map (·.2)) }):wpAny (model prog w) A (call (.builtin "sorted") [.ref l]) Q E s:=by
 refine Calls.call_function_entry kind_sorted plain_sorted entry_sorted (args_sorted1 _) ?_
 unfold Builtin.«sorted»
 refine δ (m:=checkCount "sorted" 1 1 _) (ω ?_)
 refine δ (collect_list hl ?_ (by rw [sizeLine_eq];omega))
 refine δ (wpAny_newList ?_ (by rw [sizeLine_eq];omega))
 have hsz:((s.heap.push (seqObj "list" #[] 0)).update s.heap.objs.size (Obj.mapSeq (·++vs.toArray))).objs.size=s.heap.objs.size+1:=by rw [Heap.size_update,size_push']
 have hoL:(((s.heap.push (seqObj "list" #[] 0)).update s.heap.objs.size (Obj.mapSeq (·++vs.toArray))).push (seqObj "list" vs.toArray 0)).get? (s.heap.objs.size+1)=some (seqObj "list" vs.toArray 0):=by rw [<-hsz];exact Ψ _ rfl
 show wpAny _ _ _ _ _ { s with heap:=((s.heap.push (seqObj "list" #[] 0)).update s.heap.objs.size (Obj.mapSeq (·++vs.toArray))).push (seqObj "list" vs.toArray 0) }
 rw [hsz]
 refine δ (wpAny_holding (wpAny_call_entry slot_list_sort ⟨_,hoL,rfl⟩ entry_list_sort (yx hoL hs ⟨_,rfl,?_⟩) (args_list_sort _)))
 exact ω ⟨_,rfl,h⟩
end
noncomputable def isI:D->Bool
 | .int _=>true
 | _=>false
noncomputable def E1:D->Bool
 | .tup (.int _::_)=>true
 | _=>false
noncomputable def N6:D->Bool
 | .tup (.tup _::_)=>true
 | _=>false
def T1 (ds:List D):Bool:=decide (ds.length<64)&&ois ds&&decide (o4 ds<=20)&&ds.all (fun d=>ds.all fun e=>(j6 d e).isSome)&&(ds.all isI||ds.all E1||ds.all N6)
def Z9:List D->Option D
 | [.lst ds]=>if T1 ds=true then some (.lst (y6 ds)) else none
 | _=>none
theorem RDs.pick {K:Frag} {H:Hp} {ds:List D} {ys:List V} (r:RDs K H ds ys):∀{is:List Nat},(∀i∈is,i<ys.length)->RDs K H (is.map fun i=>ds.getD i (.int 0)) (is.map fun i=>ys.getD i .non)
 | [],_=>by simp [RDs]
 | i::is,h=>by
  have hi:=h i List.mem_cons_self;have hy:ys[i]?=some ys[i]:=by simp [hi]
  obtain ⟨d,h1,h2⟩:=r.get hy;simp only [List.map_cons];refine .cons ?_ (RDs.pick r fun j hj=>h j (List.mem_cons_of_mem _ hj));rw [List.getD_eq_getElem?_getD,List.getD_eq_getElem?_getD,h1,hy];exact h2
section
variable {X:Cx} {pins:List (Addr×Obj)} {U:St} {H:Hp} {s:Shared}
theorem Vals.pick (r:Vals ys its):∀{is:List Nat},(∀i∈is,i<ys.length)->Vals (is.map fun i=>ys.getD i .non) (is.map fun i=>its.getD i Value.none)
 | [],_=>.nil
 | i::is,h=>by
  have hi:=h i List.mem_cons_self;have hy:ys[i]?=some ys[i]:=by simp [hi]
  obtain ⟨u,h1,h2⟩:=r.get hy;simp only [List.map_cons];refine .cons ?_ (Vals.pick r fun j hj=>h j (List.mem_cons_of_mem _ hj));rw [List.getD_eq_getElem?_getD,List.getD_eq_getElem?_getD,h1,hy];exact h2
theorem Sk (I:Inv X pins U H s) (hu:A.units+20<cLine) (q:Q r s) :
  ∀{ds es:List D} {xs ys:List V} {us vs:List Value} (i:Nat),(b=true->i=0->(∃k r,ds=.int k::r)/\∃k r,es=.int k::r)->ois ds=true->ois es=true->o4 ds<=20->RDs X.K H ds xs->RDs X.K H es ys->Vals xs us->Vals ys vs->v9 ds es=some r ->
   fin=decide (us.length<vs.length)->PySem.W.KatLex X.prog X.w A b fin Q (us.zip vs) i s
 | [],[],_,_,_,_,i,_,_,_,_,r1,r2,q1,q2,h,hf=>by simp only [RDs] at r1 r2;subst r1;subst r2;cases q1;cases q2;simp only [v9,Option.some.injEq] at h;subst h;simp at hf;subst hf;exact q
 | [],e::es,_,_,_,_,i,_,_,_,_,r1,r2,q1,q2,h,hf=>by simp only [RDs] at r1 r2;subst r1;obtain ⟨y,ys,rfl,_,_⟩:=r2;cases q1;cases q2;simp only [v9,Option.some.injEq] at h;subst h;simp at hf;subst hf;exact q
 | d::ds,[],_,_,_,_,i,_,_,_,_,r1,r2,q1,q2,h,hf=>by simp only [RDs] at r1 r2;subst r2;obtain ⟨y,ys,rfl,_,_⟩:=r1;cases q1;cases q2;simp only [v9,Option.some.injEq] at h;subst h;simp at hf;subst hf;exact q
 | d::ds,e::es,_,_,_,_,i,hb,p1,p2,hd,r1,r2,q1,q2,h,hf=>by
  simp only [RDs] at r1 r2;obtain ⟨x,xs,rfl,rx,rxs⟩:=r1;obtain ⟨y,ys,rfl,ry,rys⟩:=r2;simp only [ois,Bool.and_eq_true] at p1 p2;simp only [o4] at hd;cases q1 with
  | cons a1 a2=>
   cases q2 with
   | cons b1 b2=>
    have eq:=Ft (A:=A) I 20 (Ck p1.1) (Ck p2.1) (by lia) hu rx ry a1 b1
    rw [List.zip_cons_cons]
    refine PySem.W.kat_cons (eq X.prog X.w _ _ ?_)
    simp only [v9] at h
    simp only [List.length_cons,Nat.add_lt_add_iff_right] at hf
    split at h
    . rename_i w;rw [w];exact PySem.W.kat_yes (Sk I hu q (i+1) (fun _ z=>by lia) p1.2 p2.2 (by lia) rxs rys a2 b2 h hf)
    . rename_i w;rw [show eqD d e=false by simpa using w];refine PySem.W.kat_no ?_;by_cases hbi:(b&&i==0)=true
      . rw [hbi];simp only [Bool.and_eq_true,beq_iff_eq] at hbi;obtain ⟨⟨k1,s1,e1⟩,k2,s2,e2⟩:=hb hbi.1 hbi.2;cases e1;cases e2;cases rx.int;cases ry.int;obtain ⟨t,rfl⟩:=a1;obtain ⟨t',rfl⟩:=b1;refine oneLt_int ?_;simp only [j6,Option.some.injEq] at h;rw [h];exact q
      . rw [show (b&&i==0)=false by simpa using hbi];exact PySem.W.kat_one _ _ (kj I 20 hu p1.1 p2.1 (by lia) rx ry a1 b1 h X.prog X.w _ _ q)
theorem Qb (I:Inv X pins U H s) (T:Bool):∀{ds:List D} {xs:List V} {us:List Value},(∀d∈ds,(if T=true then N6 d else E1 d)=true)->RDs X.K H ds xs->Vals xs us ->
  ∃fs:List Value,PySem.W.KatTups s.heap us fs/\fs.length=ds.length/\∀v∈fs,Looks M s.heap (typeOf v) (.type (if T=true then "tuple" else "int"))
 | [],_,_,_,r,q=>by simp only [RDs] at r;subst r;cases q;exact ⟨[],trivial,rfl,fun v hv=>by cases hv⟩
 | d::ds,_,_,h,r,q=>by
  simp only [RDs] at r;obtain ⟨x,xs,rfl,rx,rxs⟩:=r;cases q with
  | cons q1 q2=>
   obtain ⟨fs,h1,h2,h3⟩:=Qb (M:=M) I T (fun d hd=>h d (List.mem_cons_of_mem _ hd)) rxs q2
   have hd:=h d List.mem_cons_self
   cases T with
   | false=>
    rw [ξ θ] at hd
    cases d<;>simp only [E1] at hd<;>first | cases hd | skip
    rename_i es
    cases es with
    | nil=>simp at hd
    | cons e es=>
     cases e<;>simp at hd
     obtain ⟨a,ys,rfl,ha,ra⟩:=rx.tup
     cases q1
     obtain ⟨its,rv,t⟩:=I.tupA ha
     simp only [RDs] at ra
     obtain ⟨y,ys,rfl,ry,rys⟩:=ra
     cases ry.int
     cases rv with
     | cons v1 v2=>
      obtain ⟨tk,rfl⟩:=v1
      obtain ⟨o,ho,hc,n,hdt⟩:=t
      refine ⟨_::fs,PySem.W.KatTups.cons ho hc hdt rfl h1,by simp [h2],fun v hv=>?_⟩
      rcases List.mem_cons.mp hv with rfl | hv
      . exact .now
      . exact h3 v hv
   | true=>
    rw [ζ rfl] at hd
    cases d<;>simp only [N6] at hd<;>first | cases hd | skip
    rename_i es
    cases es with
    | nil=>simp at hd
    | cons e es=>
     cases e<;>simp at hd
     obtain ⟨a,ys,rfl,ha,ra⟩:=rx.tup
     cases q1
     obtain ⟨its,rv,t⟩:=I.tupA ha
     simp only [RDs] at ra
     obtain ⟨y,ys,rfl,ry,rys⟩:=ra
     obtain ⟨a2,ys2,rfl,ha2,ra2⟩:=ry.tup
     cases rv with
     | cons v1 v2=>
      cases v1
      obtain ⟨its2,rv2,o2,ho2,hc2,_⟩:=I.tupA ha2
      obtain ⟨o,ho,hc,n,hdt⟩:=t
      refine ⟨_::fs,PySem.W.KatTups.cons ho hc hdt rfl h1,by simp [h2],fun v hv=>?_⟩
      rcases List.mem_cons.mp hv with rfl | hv
      . have lk:Looks M s.heap (typeOf (.ref a2)) o2.cls:=(PySem.W.Looks.ld ho2).andThen .now;rw [hc2] at lk;exact lk
      . exact h3 v hv
theorem Vals.getD (r:Vals ys its) (h:i<ys.length):RelV (ys.getD i .non) (its.getD i Value.none):=by
 have hy:ys[i]?=some ys[i]:=by simp [h]
 obtain ⟨u,h1,h2⟩:=r.get hy;rw [List.getD_eq_getElem?_getD,List.getD_eq_getElem?_getD,h1,hy];exact h2
theorem RDs.getD (r:RDs X.K H ds ys) (h:i<ys.length):RD X.K H (ds.getD i (.int 0)) (ys.getD i .non):=by
 have hy:ys[i]?=some ys[i]:=by simp [h]
 obtain ⟨d,h1,h2⟩:=r.get hy;rw [List.getD_eq_getElem?_getD,List.getD_eq_getElem?_getD,h1,hy];exact h2
theorem Q1 {α:Type} {l:List α} {i:Nat} {d:α} (h:i<l.length):l.getD i d∈l:=by rw [List.getD_eq_getElem?_getD,List.getElem?_eq_getElem h];exact List.getElem_mem h
end
noncomputable def Bx (n:Nat) (x:Int):Nat:=if x<0 then (x+(n:Int)).toNat else min x.toNat n
def C5 {α:Type} (xs:List α) (x:Int) (y:α):List α:=xs.take (Bx xs.length x)++y::xs.drop (Bx xs.length x)
def Sj:V->List V->Hp->VK->Prop:=fun o vs H Q=>∃l xs i y,o=.ref l/\vs=[.int i,y]/\H l=some (.lst xs)/\-(2 ^ 63)<=i/\i<2 ^ 63/\xs.length<sizeLine/\Q .non (upd H l (.lst (C5 xs i y)))
theorem Vals.ins (r:Vals xs its) (ru:RelV y u) (i:Int):Vals (C5 xs i y) (C5 its i u):=by unfold C5;rw [r.length];exact (r.take _).append (.cons ru (r.drop _))
theorem zt (xs:List α) (i:Int) (y:α):(C5 xs i y).length=xs.length+1:=by unfold C5;rw [χ,List.length_take,List.length_cons,List.length_drop];omega
section
variable {X:Cx} {K:Frag}
theorem xV:MtM X "list.insert" Sj:=by intro pins s U H x vs v us Q I rx rv h;obtain ⟨l,xs,i,y,rfl,rfl,hH,h1,h2,hz,q⟩:=h;cases rx;obtain ⟨u,w,rfl,ru,rw'⟩:=rv.two;obtain ⟨t,rfl⟩:=ru;obtain ⟨z,its,n,r,hl,e⟩:=I.lstM hH;refine call_meets PySem.F.slot_list_insert ⟨_,e,rfl⟩ PySem.F.entry_list_insert (PySem.F.args_list_insert_3 _ _ _) (PySem.AutoSeq1.list_insert_list_int_val_1 l its.toArray n i t w (by simp [fitsIndex_both h1 h2]) (by rw [List.size_toArray];lia)) ⟨e,?_⟩;refine ⟨.non,_,I.lset (its':=C5 its i w) hH e ?_ (r.ins rw' i) (by rw [zt];lia),rfl,q⟩;show ((its.toArray.extract 0 (Bx its.toArray.size i)).push w++its.toArray.extract (Bx its.toArray.size i))=(C5 its i w).toArray;unfold C5;apply Array.toList_inj.mp;simp;exact List.take_of_length_le (by simp)
def Q9:D->List D->Option D
 | .lst ds,[.int i,d]=>if -(2 ^ 63)<=i/\i<2 ^ 63/\ds.length<100000 then some (.lst (C5 ds i d)) else none
 | _,_=>none
theorem RDs.ins (r:RDs K H ds xs) (ry:RD K H d y) (i:Int):RDs K H (C5 ds i d) (C5 xs i y):=by unfold C5;rw [<-r.length];exact (r.take _).append (.cons ry (r.drop _))
theorem ki:Cb K Q9 Sj:=by
 intro H0 H a d d' ds vs Q s h0 ob r hm k;unfold Q9 at hm;split at hm<;>first | cases hm | skip
 split at hm<;>cases hm;rename_i es i e hl;simp only [OB] at ob;obtain ⟨xs,hx,rx⟩:=ob;obtain ⟨y,z,rfl,q1,q2⟩:=r.duo;cases q1.int;refine ⟨a,xs,_,z,rfl,rfl,hx,hl.1,hl.2.1,by rw [<-rx.length];exact Mf hl.2.2,k _ _ ?_⟩;simp only [OB];exact ⟨_,u8,rx.ins q2 _⟩
noncomputable def Q8:D->D->Option D
 | .non,.non=>some (.bl true)
 | .scr _,.non=>none
 | _,.non=>some (.bl false)
 | _,_=>none
theorem xU (r:RD K H d x) (h:d≠.non):x≠.non:=by intro e;subst e;cases d<;>simp only [RD] at r<;>first | exact h rfl | (cases r;done) | (obtain ⟨a,z,_⟩:=r;cases z;done) | (obtain ⟨a,xs,z,_⟩:=r;cases z;done) | (obtain ⟨a,qs,xs,z,_⟩:=r;cases z;done) | (obtain ⟨a,qs,xs,o,z,_⟩:=r;cases z)
theorem Qa:OpD K false Q8 (fun x y H Q=>y=.non/\Q (.bl (decide (x=.non))) H):=by
 intro H0 H x y d e z Q s rx ry ho k;unfold Q8 at ho;split at ho<;>cases ho
 . cases rx.non;exact ⟨ry.non,k _ H (.pure s (.mkBl _))⟩
 . rename_i hn hs;refine ⟨ry.non,?_⟩;rw [decide_eq_false (xU rx hn)];exact k _ H (.pure s (.mkBl _))
noncomputable def D4 (n:Int) (ns:List Int):Int:=ns.foldl (fun a b=>if b > a then b else a) n
noncomputable def E9 (n:Int) (ns:List Int):Int:=ns.foldl (fun a b=>if b<a then b else a) n
theorem Z8:∀(ns:List Int) (n:Int),D4 n ns∈n::ns/\∀a∈n::ns,a<=D4 n ns
 | [],n=>by simp [D4]
 | b::ns,n=>by
  have ih:=Z8 ns (if b > n then b else n);show D4 (if b > n then b else n) ns∈_/\∀a∈_,a<=D4 (if b > n then b else n) ns;generalize D4 (if b > n then b else n) ns=M at ih;obtain ⟨h1,h2⟩:=ih;constructor
  . rcases List.mem_cons.mp h1 with z | z
    . rw [z];split<;>simp
    . simp [z]
  . intro a ha;have h3:=h2 _ List.mem_cons_self;rcases List.mem_cons.mp ha with rfl | ha
    . split at h3<;>lia
    . rcases List.mem_cons.mp ha with rfl | ha
      . split at h3<;>lia
      . exact h2 a (List.mem_cons_of_mem _ ha)
theorem Si:∀(ns:List Int) (n:Int),E9 n ns∈n::ns/\∀a∈n::ns,E9 n ns<=a
 | [],n=>by simp [E9]
 | b::ns,n=>by
  have ih:=Si ns (if b<n then b else n);show E9 (if b<n then b else n) ns∈_/\∀a∈_,E9 (if b<n then b else n) ns<=a;generalize E9 (if b<n then b else n) ns=M at ih;obtain ⟨h1,h2⟩:=ih;constructor
  . rcases List.mem_cons.mp h1 with z | z
    . rw [z];split<;>simp
    . simp [z]
  . intro a ha;have h3:=h2 _ List.mem_cons_self;rcases List.mem_cons.mp ha with rfl | ha
    . split at h3<;>lia
    . rcases List.mem_cons.mp ha with rfl | ha
      . split at h3<;>lia
      . exact h2 a (List.mem_cons_of_mem _ ha)
def Cj:List D->Option D
 | [.lst ds]=>match x6 ds with
  | some (n::ns)=>some (.int (D4 n ns))
  | _=>none
 | _=>none
def Ci:List D->Option D
 | [.lst ds]=>match x6 ds with
  | some (n::ns)=>some (.int (E9 n ns))
  | _=>none
 | _=>none
def Nu:List V->Hp->VK->Prop:=fun xs H Q=>∃p n ns,xs=[.ref p]/\H p=some (.lst ((n::ns).map V.int))/\Q (.int (D4 n ns)) H
def Nt:List V->Hp->VK->Prop:=fun xs H Q=>∃p n ns,xs=[.ref p]/\H p=some (.lst ((n::ns).map V.int))/\Q (.int (E9 n ns)) H
theorem kh (hc:X.calm=true):CallR X (.builtin "max") Nu:=by
 intro pins s U H xs us Q I r h;obtain ⟨p,n,ns,rfl,hp,q⟩:=h;obtain ⟨u,rfl,ru⟩:=A9 r;cases ru;obtain ⟨its,rv,pl,_⟩:=I.list (.of hp);obtain ⟨m,hn,_⟩:=id I.loc;refine max_list_N (I.ok.hd hc) (Att.fr_all hn) (Dx (g:=Att.noObjs s.heap) (L:=X.env.locals)) pl.isList (Gn rv) (by simp) fun h' M t tk F N hM hle=>?_
 obtain ⟨a1,a2⟩:=Z8 ns n;have e:M=D4 n ns:=Int.le_antisymm (a2 M hM) (hle _ a1);exact ⟨.int M,H,I.frn hn F N,⟨t,rfl⟩,by rw [e];exact q⟩
theorem kg (hc:X.calm=true):CallR X (.builtin "min") Nt:=by
 intro pins s U H xs us Q I r h;obtain ⟨p,n,ns,rfl,hp,q⟩:=h;obtain ⟨u,rfl,ru⟩:=A9 r;cases ru;obtain ⟨its,rv,pl,_⟩:=I.list (.of hp);obtain ⟨m,hn,_⟩:=id I.loc;refine min_list_N (I.ok.hd hc) (Att.fr_all hn) (Dx (g:=Att.noObjs s.heap) (L:=X.env.locals)) pl.isList (Gn rv) (by simp) fun h' M t tk F N hM hle=>?_
 obtain ⟨a1,a2⟩:=Si ns n;have e:M=E9 n ns:=Int.le_antisymm (hle _ a1) (a2 M hM);exact ⟨.int M,H,I.frn hn F N,⟨t,rfl⟩,by rw [e];exact q⟩
theorem vt:A7 K false Cj Nu:=by
 intro H0 H xs ds z Q s r ho k;unfold Cj at ho;split at ho<;>first | cases ho | skip
 split at ho<;>cases ho;rename_i es n ns hq;obtain ⟨x,rfl,q1⟩:=r.uno;obtain ⟨a,ys,rfl,ha,ra⟩:=q1.lst;have e:=Al hq ra;subst e;exact ⟨a,n,ns,rfl,s _ _ ha,k _ H (.pure s (.mkInt _))⟩
theorem vq:A7 K false Ci Nt:=by
 intro H0 H xs ds z Q s r ho k;unfold Ci at ho;split at ho<;>first | cases ho | skip
 split at ho<;>cases ho;rename_i es n ns hq;obtain ⟨x,rfl,q1⟩:=r.uno;obtain ⟨a,ys,rfl,ha,ra⟩:=q1.lst;have e:=Al hq ra;subst e;exact ⟨a,n,ns,rfl,s _ _ ha,k _ H (.pure s (.mkInt _))⟩
end
theorem Sh {K:Frag} {h:Heap} {C:Addr} {bmB:List Value} {newId:String} (X:K.In h) (q:PySem.W.excIn K C bmB newId=true) :
  ∃bm N nm qn bs hdct sn sub ab col dd k0 k1 k2 k3 k5 mN,h.get? C=some (excClassObj nm qn C N bs bm hdct sn sub ab col dd k0 k1 k2 k3 k5 newId)/\h.Ns N mN/\mN "__init__"=none/\OwnTail h bmB bm:=by
 unfold PySem.W.excIn at q
 split at q<;>try cases q
 rename_i dd cd sl ho
 split at q<;>try cases q
 rename_i C' bm k0 k1 k2 k3 n k5 hm hs
 simp only [Bool.and_eq_true,beq_iff_eq,Bool.not_eq_true'] at q
 obtain ⟨⟨⟨⟨⟨e1,e2⟩,hdel⟩,ht⟩,hok⟩,hni⟩:=q
 subst e1 e2
 have ho:=X _ _ ho
 cases cd
 dsimp only at hm hdel hok hni
 subst hm hdel
 have hsl:sl=#[k0,k1,k2,k3,some (.builtin n),k5]:=by cases sl;simp only at hs;rw [hs]
 rw [hsl] at ho
 exact ⟨bm,_,_,_,_,_,_,_,_,_,dd,k0,k1,k2,k3,k5,_,ho,.of_isNs (PySem.W.isNs_of_in X hok),PySem.W.nsMap_none_of_in X hok hni,PySem.W.tail_of_in X ht⟩
noncomputable def Kc (K:Frag) (C:Addr) (bmB:List Value) (newId:String):Bool:=match K.lookup C with
 | some ⟨.type "type",_,.cls cd,sl⟩=>(match cd.mro,sl.toList with
  | .ref C'::bm,[_,_,_,_,some (.builtin n),_]=>C'==C&&n==newId&&!cd.hasDel&&PySem.W.tailIn K bmB bm&&cd.hasDict
  | _,_=>false)
 | _=>false
theorem wS {K:Frag} {h:Heap} {C:Addr} {bmB:List Value} {newId:String} (X:K.In h) (q:Kc K C bmB newId=true) :
  ∃bm N nm qn bs sn sub ab col dd k0 k1 k2 k3 k5,h.get? C=some (excClassObj nm qn C N bs bm true sn sub ab col dd k0 k1 k2 k3 k5 newId)/\OwnTail h bmB bm:=by
 unfold Kc at q
 split at q<;>try cases q
 rename_i dd cd sl ho
 split at q<;>try cases q
 rename_i C' bm k0 k1 k2 k3 n k5 hm hs
 simp only [Bool.and_eq_true,beq_iff_eq,Bool.not_eq_true'] at q
 obtain ⟨⟨⟨⟨e1,e2⟩,hdel⟩,ht⟩,hdc⟩:=q
 subst e1 e2
 have ho:=X _ _ ho
 cases cd
 dsimp only at hm hdel hdc
 subst hm hdel hdc
 have hsl:sl=#[k0,k1,k2,k3,some (.builtin n),k5]:=by cases sl;simp only at hs;rw [hs]
 rw [hsl] at ho
 exact ⟨bm,_,_,_,_,_,_,_,_,dd,k0,k1,k2,k3,k5,ho,PySem.W.tail_of_in X ht⟩
def XCl (K:Frag) (C:Addr) (bmB:List Value) (newId:String):Prop:=PySem.W.excIn K C bmB newId=true\/Kc K C bmB newId=true
theorem Sg {K:Frag} {h:Heap} {C:Addr} {bmB:List Value} {newId:String} (X:K.In h) (q:XCl K C bmB newId) :
  ∃bm N nm qn bs hdct sn sub ab col dd k0 k1 k2 k3 k5,h.get? C=some (excClassObj nm qn C N bs bm hdct sn sub ab col dd k0 k1 k2 k3 k5 newId)/\OwnTail h bmB bm:=by
 rcases q with q | q
 . obtain ⟨bm,N,nm,qn,bs,hdct,sn,sub,ab,col,dd,k0,k1,k2,k3,k5,mN,hC,_,_,T⟩:=Sh X q;exact ⟨bm,N,nm,qn,bs,hdct,sn,sub,ab,col,dd,k0,k1,k2,k3,k5,hC,T⟩
 . obtain ⟨bm,N,nm,qn,bs,sn,sub,ab,col,dd,k0,k1,k2,k3,k5,hC,T⟩:=wS X q;exact ⟨bm,N,nm,qn,bs,true,sn,sub,ab,col,dd,k0,k1,k2,k3,k5,hC,T⟩
section
variable {X:Cx} {x:Str} {C:Addr} {bmB:List Value} {B newId initId:String} {np cpos pos:Pos} {e:Expr} {es:List Expr} {t:TA} {EX:XW} {fr:Bool} {fs:DE->R (List D)}
theorem wR (FB:ExcBaseFacts B newId initId bmB) (hcalm:X.calm=true) (hg:Gl X x) (hm:X.mg x=some (.ref C)) (hq:PySem.W.excIn X.K C bmB newId=true) (ha:PA X (e::es) t) (E:Hp->Prop)
  (hE:∀(pins:List (Addr×Obj)) (U:St) (H:Hp) (s:Shared) (a:Addr) (s':Shared) (args:List Value),Inv X pins U H s->Heap.MadeExcOf s.heap s'.heap a (.ref C) args->s'.os=s.os->AllBare s'.gens->E H->X.xe (.ref a) s')
  (hdb:(x==("__debug__":Str))=false:=by decide) (he:starEach (e::es) X.env=(false,eval e X.env)::starEach es X.env:=by rfl) (hpl:(backTo cpos (starEach es X.env)).any (·.1)=false:=by rfl) :
  PS X (.Raise (some (.Call (.Name x np) (e::es) [] cpos)) none pos) (fun _ U H=>t U H fun vs H1=>vs.length<=sizeLine/\E H1):=by
 intro pins s U H D I h
 obtain ⟨bm,N,nm,qn,bs,hdct,sn,sub,ab,col,dd,k0,k1,k2,k3,k5,mN,hC,hN,hni,T⟩:=Sh I.ok.mod.kin hq
 refine wpAny_Raise_call_subT (C:=C) (nm:=nm) (q:=qn) (N:=N) (bs:=bs) (bm:=bm) (hdct:=hdct) (sn:=sn) (sub:=sub) (ab:=ab) (col:=col) (dd:=dd) (k0:=k0) (k1:=k1) (k2:=k2) (k3:=k3) (k5:=k5)
  FB (mN:=mN) (T.hasType FB.hasBase) (I.ok.hd hcalm) (by rw [he];show (false||(backTo cpos (starEach es X.env)).any (·.1))=false;rw [hpl];rfl) hni (U2 I hg hm ⟨rfl,?_⟩ hdb)
 have go:=ha cpos pins s U H _ I h
 rw [he] at go ⊢
 refine Calls.evalArgs_plain (wpAny_mono go (fun us s2 ⟨vs,H1,I1,r,hl,hE1⟩=>⟨rfl,by rw [<-r.length];exact hl,I1.bk _ _ hC,hN.keeps I1.bk,T.keeps I1.bk,fun h' a hx=>?_⟩) fun _ _ y=>y)
 exact hE pins U H1 s2 a _ us I1 hx rfl I1.bare hE1
def Dc (c:String) (fs:DE->R (List D)):DS->SR:=fun ρ=>(fs (see ρ)).toS fun ds=>if ds.length<=1000 then .er ⟨c,[]⟩ else .st
theorem vp {K:Frag} {De:Ends} {U:St} {H:Hp} {c:String} (h:TSd K EX fr (Dc c fs) De U H):TAd K EX fs U H fun vs H1=>vs.length<=sizeLine/\EX.p ⟨c,[]⟩ H1:=by
 obtain ⟨Hc,Hb,H0,ρ,sb,R,h⟩:=h;unfold Dc at h;rw [SK.toS] at h;refine ⟨sb.trans R.sb,see ρ,HeOf (List.replicate ρ.length true) ρ U H0 H,R.heH _,by rw [<-Do];exact R.re _,h.mono fun ds z vs H' H0' s e r=>?_⟩;split at z
 . rename_i hl;exact ⟨La (by rw [<-r.length];exact hl),z H' ((sb.trans R.sb).trans s)⟩
 . exact z.elim
theorem Sf {c:String} (L:Lnd X EX) (FB:ExcBaseFacts B newId initId bmB) (hcalm:X.calm=true) (hg:Gl X (c:Str)) (hm:X.mg (c:Str)=some (.ref C)) (hq:PySem.W.excIn X.K C bmB newId=true) (ha:QA X EX (e::es) fs)
  (hdb:(((c:Str))==("__debug__":Str))=false:=by decide) (he:starEach (e::es) X.env=(false,eval e X.env)::starEach es X.env:=by rfl) (hpl:(backTo cpos (starEach es X.env)).any (·.1)=false:=by rfl) :
  QS X EX fr (.Raise (some (.Call (.Name (c:Str) np) (e::es) [] cpos)) none pos) (Dc c fs):=
 ⟨(wR FB hcalm hg hm hq ha.h (fun H=>EX.p ⟨c,[]⟩ H) (fun pins U H s a s' args I hx ho hb hp=>L.md pins U H H s a C none s' ⟨c,[]⟩ I (.of hx) (I.hok.kept hx.keeps) (Un.kept hx.keeps) (I.hok.none hx.new) ho hb hm hp (.inl rfl)) hdb he hpl).imp fun _ _ _ q=>vp q⟩
end
theorem xT {M:Model} {A:Around} {E:Value->Shared->Prop} {nm nmD q qD:Str} {C N DD ND:Addr} {bs bm bsD bmD:List Value} {hdct hdctD:Bool} {sn snD:List Str} {sub subD:List Value} {ab abD:Bool} {col colD:Option Bool} {dd ddD:Option Addr} {k0 k1 k2 k3 k5 j0 j1 j2 j3 j5:Option Value} {newId newD:String}
  {h:Heap} {g:Array GenState} {d:Drawn} {t:Nat} {os:OsState} {e:Addr} {oe:Obj} {Q:Bool->Shared->Prop}
  (hC:h.get? C=some (excClassObj nm q C N bs bm hdct sn sub ab col dd k0 k1 k2 k3 k5 newId)) (hD:h.get? DD=some (excClassObj nmD qD DD ND bsD bmD hdctD snD subD abD colD ddD j0 j1 j2 j3 j5 newD)) (he:h.get? e=some oe) (hcls:oe.cls=.ref C)
  (hbase:bmD.contains (.type "BaseException")=true) (hq:Q ((Value.ref C::bm).contains (.ref DD)) ⟨h,g,d,t,os⟩):wpAny M A (excMatches (.ref e) (.ref DD)) Q E ⟨h,g,d,t,os⟩:=by
 have hcB:(Value.ref DD::bmD).contains (.type "BaseException")=true:=by rw [List.contains_cons,hbase,Bool.or_true]
 have f:=tc_notTuple
 unfold excMatches
 repeat (first | (with_reducible refine wpAny_loadPart_at he ?_;rw [hcls]) | with_reducible refine wpAny_loadPart_at hD ?_ | (with_reducible refine wpAny_isSubtype_exc hD ?_;rw [hcB]) | with_reducible refine wpAny_isSubtype_exc hC ?_ | wp_step)
 cases hb:(Value.ref C::bm).contains (.ref DD)<;>(rw [hb] at hq;wp_walk;exact hq)
section
variable {X:Cx} {pins:List (Addr×Obj)} {U:List (Option V)} {H1 H2:Hp} {s1 s2:Shared} {h' B:Heap} {C a T:Addr} {a0:Value} {od:Option Addr}
noncomputable def J3 (a C:Addr) (od:Option Addr):HO:=.ext fun h=>∃ob,h.get? a=some ob/\ob.cls=.ref C/\(∃vs,ob.data=.fields vs)/\ob.dict=od
theorem wQ (I:Inv X pins U H1 s1) (x:XOut X.prog X.w X.stack H1 s1 C a od H2 s2) (na:s1.heap.get? a=none) (nT:s1.heap.get? T=none) (ha:H2 a=none) (hT:H2 T=none)
  (keep:∀b o,s2.heap.get? b=some o->b≠a->b≠T->b∉frs X.stack->h'.get? b=some o) (up:s2.heap.UpToSlots h') (hfl:Heap.FlyingW B X.stack a (.ref C) a0 h') (hdc:x5 a od h') :
  Inv X pins U (upd H2 a (J3 a C od)) { s2 with heap:=h' }/\Same H2 (upd H2 a (J3 a C od)):=by
 have F2:=I.stack2 x.un
 have slotF:∀b∈frs X.stack,∀o,s2.heap.get? b=some o->∃sl,h'.get? b=some { o with slots:=sl }:=fun b hb o e=>by obtain ⟨_,o',ho',hd⟩:=F2.mem hb;rw [e] at ho';cases ho';exact up b o e hd
 have ne:∀b o,s1.heap.get? b=some o->b≠a/\b≠T:=fun b o e=>⟨fun z=>(by rw [z,na] at e;cases e),fun z=>(by rw [z,nT] at e;cases e)⟩
 have neH:∀b o,H2 b=some o->b≠a/\b≠T:=fun b o e=>⟨fun z=>(by rw [z,ha] at e;cases e),fun z=>(by rw [z,hT] at e;cases e)⟩
 have frFree:∀b∈frs X.stack,H2 b=none:=fun b hb=>by obtain ⟨_,o,ho,_⟩:=I.stack.mem hb;exact x.un.free b o ho (I.stkFree b hb) (by simp)
 obtain ⟨oe,vs,he,hc,hd,_⟩:=hfl.first
 have un:Un (frs X.stack) [] H1 (upd H2 a (J3 a C od)) s1.heap h':=by
  refine ⟨fun b o e n hb hx=>?_,fun b o e n hb hx=>?_,fun b o e n hx=>?_,fun b o e hx=>?_,fun b xs e=>?_,fun b o u e=>?_,fun b ps e=>?_⟩
  . exact keep b o (x.un.keep b o e n hb hx) (ne b o e).1 (ne b o e).2 hb
  . obtain ⟨sl,e1⟩:=x.un.slot b o e n hb hx;obtain ⟨sl2,e2⟩:=slotF b hb _ e1;exact ⟨sl2,e2⟩
  . rw [m9 (ne b o e).1];exact x.un.free b o e n hx
  . obtain ⟨o1,e1⟩:=x.un.there b o e hx;by_cases hb:b∈frs X.stack
    . obtain ⟨sl,e2⟩:=slotF b hb _ e1;exact ⟨_,e2⟩
    . exact ⟨o1,keep b o1 e1 (ne b o e).1 (ne b o e).2 hb⟩
  . have:=x.un.tups b xs e;rw [m9 (neH b _ this).1];exact this
  . have:=x.un.frzs b o u e;rw [m9 (neH b _ this).1];exact this
  . obtain ⟨m,this⟩:=x.un.tbls b ps e;exact ⟨m,by rw [m9 (neH b _ this).1];exact this⟩
 have hok:HOk X.prog X.w (upd H2 a (J3 a C od)) h':=fun b o e=>by
  by_cases hb:b=a
  . subst hb;rw [u8] at e;cases e;exact ⟨⟨oe,he,hc,⟨vs,hd⟩,hdc _ he⟩,⟨oe,he⟩,fun h1 h2 ⟨ob,z1,z2⟩ k=>⟨ob,k _ z1,z2⟩⟩
  . rw [m9 hb] at e;refine (x.hok b o e).stay (fun c v hc q=>?_) (fun c q=>by rw [m9 (neH c _ q).1];exact q) fun c xs q=>by rw [m9 (neH c _ q).1];exact q
    have hcH:H2 c≠none:=by
     rcases hc with rfl | hc
     . rw [e];exact fun z=>nomatch z
     . rw [hc];exact fun z=>nomatch z
    refine keep c v q (fun z=>hcH (z ▸ ha)) (fun z=>hcH (z ▸ hT)) fun z=>hcH (frFree c z)
 exact ⟨I.call' (s':={ s2 with heap:=h' }) (ch:=[]) x.os un hok x.bare (fun _ z=>nomatch z),Same.upd_new ha⟩
end
section
variable {X:Cx} {pins:List (Addr×Obj)} {U:List (Option V)} {H:Hp} {s:Shared}
abbrev Cx.held (X:Cx) (e:Value):Cx:={ X with A:=X.A.mark (some e),calm:=false,xe:=fun _ _=>False }
theorem Inv.held (I:Inv X pins U H s) (e:Value):Inv (X.held e) pins U H s:=
 ⟨⟨I.ok.mod,I.ok.kind,I.ok.glob,I.ok.blt,I.ok.above,I.ok.inj,I.ok.has,I.ok.cab,(fun z=>nomatch z),I.ok.frames,I.ok.stk,I.ok.exf,I.ok.bs,I.ok.bsz,I.ok.noex,I.ok.exfs,I.ok.funs,I.ok.frf⟩,I.os,I.bare,I.base,I.loc,I.cell,I.free,I.freeC,I.pin,I.hok,I.len⟩
theorem Inv.unheld (ok:X.Ok) (I:Inv (X.held e) pins U H s):Inv X pins U H s:=
 ⟨ok,I.os,I.bare,I.base,I.loc,I.cell,I.free,I.freeC,I.pin,I.hok,I.len⟩
theorem wP (G:i0 X.prog X.w X.K X.mg X.base x ps k sp) (hr:Room j X.A) (hg:Gl X x) (ha:PA X.nox (e::es) t) (I:Inv X pins U H s) (h:t U H fun vs H1=>Same H H1/\sp vs H1 Q E) (hkj:k<=j:=by omega) (hdb:(x==("__debug__":Str))=false:=by decide)
  (he:starEach (e::es) X.env=(false,eval e X.env)::starEach es X.env:=by rfl) (hpl:(backTo pos (starEach es X.env)).any (·.1)=false:=by rfl) :
  wpAny (model X.prog X.w) X.A (eval (.Call (.Name x p) (e::es) [] pos) X.env) (EP X pins U Q) (fun ev s'=>∃H1 s1,Same H H1/\Inv X pins U H1 s1/\CX1 X.prog X.w X.stack H1 s1 E ev s') s:=by
 obtain ⟨f,fd,F,b,m,kp⟩:=G
 refine wpAny_Call_Name_kw (U2 I hg m ?_ hdb)
 have I':Inv X.nox pins U H s:=⟨⟨I.ok.mod,I.ok.kind,I.ok.glob,I.ok.blt,I.ok.above,I.ok.inj,I.ok.has,I.ok.cab,I.ok.hd,I.ok.frames,I.ok.stk,I.ok.exf,I.ok.bs,I.ok.bsz,I.ok.noex,I.ok.exfs,I.ok.funs,I.ok.frf⟩,I.os,I.bare,I.base,I.loc,I.cell,I.free,I.freeC,I.pin,I.hok,I.len⟩
 refine callWith_K (h₀:=X.base) I.ok.mod.kin kp (wpAny_mono (ha pos pins s U H _ I' h) (fun us s1 ⟨vs,H1,I1,r,sH,q⟩=>⟨I1.kIn,?_⟩) fun _ _ z=>z.elim) he hpl
 have I1:Inv X pins U H1 s1:=⟨I.ok,I1.os,I1.bare,I1.base,I1.loc,I1.cell,I1.free,I1.freeC,I1.pin,I1.hok,I1.len⟩
 have hl:us.length=ps.length:=by rw [<-r.length];exact F.len _ _ _ _ q
 have hb:=b s1 us I1.kIn (by rw [List.append_nil];exact hl)
 rw [List.append_nil] at hb
 refine wpAny_call (codeAny_mono (F.run X.A X.stack s1 H1 ⟨us,[]⟩ us vs Q E (hr.mono hkj) I1.env0 hb r q) fun r s' hq=>?_)
 cases r with
 | error e=>exact ⟨H1,s1,sH,I1,hq⟩
 | ok fl=>
  cases fl with
  | ret u=>exact I1.after hq
  | next=>exact False.elim hq
  | brk=>exact False.elim hq
  | cont=>exact False.elim hq
end
structure Lnd5 (X:Cx) (pins:List (Addr×Obj)) (U:St) (H1:Hp) (s1:Shared) (C a:Addr) (od:Option Addr) (H2:Hp) (s2:Shared) (B:Heap) (T:Addr) (a0:Value) (h5:Heap):Prop where
 I:Inv X pins U H1 s1
 x:XOut X.prog X.w X.stack H1 s1 C a od H2 s2
 na:s1.heap.get? a=none
 nT:s1.heap.get? T=none
 ha:H2 a=none
 hT:H2 T=none
 keep:∀b o,s2.heap.get? b=some o->b≠a->b≠T->b∉frs X.stack->B.get? b=some o
 up:s2.heap.UpToSlots h5
 fl:Heap.FlyingW B X.stack a (.ref C) a0 h5
 dc:x5 a od h5
section
variable {X:Cx} {EX:XW} {fr:Bool} {pins:List (Addr×Obj)} {U:St} {H1 H2:Hp} {s1 s2:Shared} {C a T:Addr} {B h5:Heap} {a0:Value} {od:Option Addr}
theorem Lnd5.inv (L:Lnd5 X pins U H1 s1 C a od H2 s2 B T a0 h5):Inv X pins U (upd H2 a (J3 a C od)) { s2 with heap:=h5 }/\Same H2 (upd H2 a (J3 a C od)):=
 wQ L.I L.x L.na L.nT L.ha L.hT (fun b o e h1 h2 h3=>L.fl.1 b o (L.keep b o e h1 h2 h3)) L.up L.fl L.dc
theorem Lnd5.again (L:Lnd5 X pins U H1 s1 C a od H2 s2 B T a0 h5) (h:∀h6,Lnd5 X pins U H1 s1 C a od H2 s2 B T a0 h6->Q () { s2 with heap:=h6 }) :
  wpAny (model X.prog X.w) A (setFlight (.ref a) none) Q E { s2 with heap:=h5 }:=
 wpAny_mono (Gm (E:=E) (E':=E) (.flight _ _) (lands_againW (Q:=fun _ s=>∃h',s={ s2 with heap:=h' }/\Heap.FlyingW B X.stack a (.ref C) a0 h'/\h5.UpToSlots h') (s:={ s2 with heap:=h5 }) L.fl fun h' fl up=>⟨h',rfl,fl,up⟩) (Wi (s:={ s2 with heap:=h5 }) L.fl.2.2.2 L.dc)) (fun _ s ⟨⟨h',e,fl,up⟩,d⟩=>by subst e;exact h h' ⟨L.I,L.x,L.na,L.nT,L.ha,L.hT,L.keep,L.up.trans up,fl,d⟩) fun _ _ z=>z.1
theorem vo (I:Inv X pins U H1 s1) (hst:X.stack=X.env::X.outer) (hf:X.env.frame=some X.env.locals) (x:XOut X.prog X.w X.stack H1 s1 C a od H2 s2)
  (h:∀B T a0 h5,Lnd5 X pins U H1 s1 C a od H2 s2 B T a0 h5->Q () { s2 with heap:=h5 }):wpAny (model X.prog X.w) X.A (noteFrame (.ref a) X.env) (fun _ s'=>wpAny (model X.prog X.w) X.A (setFlight (.ref a) none) Q E s') E s2:=by
 obtain ⟨oe,vs,T,oT,ts,a0,he,hc,h0,hd,h1,hTe,hT,hdT,h3,na,nT,ha,hHT,hod,hnd⟩:=id x.fly
 have F2:=I.stack2 x.un
 have hin:∀env∈X.stack,∀b,env.frame=some b->b∈a::T::frs X.stack:=fun env he b hb=>List.mem_cons_of_mem _ (List.mem_cons_of_mem _ (List.mem_filterMap.mpr ⟨env,he,hb⟩))
 have hfr:X.A.frames=some (X.env::X.outer):=by rw [<-hst];exact I.ok.frames
 have hfl:Heap.FlyingW (hideAll s2.heap (a::T::frs X.stack)) (X.env::X.outer) a (.ref C) a0 s2.heap:=⟨fun b o q=>of_hideAll _ q,hideAll_none _ (.head _),hst ▸ PySem.W.funFrames_hide F2 hin,oe,vs,T,oT,ts,he,⟨hc,h0⟩,hd,h1,hideAll_none _ (.tail _ (.head _)),hTe,hT,hdT,h3⟩
 refine Sy (od:=od) hfr hf hfl (fun o ho=>by rw [he] at ho;cases ho;exact hod) fun h4 hh up4 d4=>?_
 refine Kx (s:={ s2 with heap:=h4 }) hh d4 fun h5 fl up5 d5=>h (hideAll s2.heap (a::T::frs X.stack)) T a0 h5 ⟨I,x,na,nT,ha,hHT,fun b o q h1 h2 h3=>hideAll_get _ q fun z=>?_,up4.trans up5,(by rw [<-hst] at fl;exact fl),d5⟩
 rcases List.mem_cons.mp z with rfl | z
 . exact h1 rfl
 . rcases List.mem_cons.mp z with rfl | z
   . exact h2 rfl
   . exact h3 z
theorem Nr (s:Same H H1) (e:H1 b=none):H b=none:=by
 cases q:H b with
 | none=>rfl
 | some o=>rw [s b o q] at e;cases e
theorem _root_.L2.Fly.newd (f:Fly h0 H' C a od h):∀dx,od=some dx->h0.get? dx=none:=by obtain ⟨_,_,_,_,_,_,_,_,_,_,_,_,_,_,_,_,_,_,_,_,h⟩:=f;exact h
abbrev HD:=Ex->DS->SR
structure QY (X:Cx) (fr:Bool) (sts:List Stmt) (g:DS->SR):Prop where
 h:∀(pins:List (Addr×Obj)) (s:Shared) (U:St) (H:Hp) (De:Ends) (Hc Hb H0:Hp) (ρ:DS) (P:Ex->Hp->Prop),Inv X pins U H s->RS X.K Hc Hb H0 ρ U H->SK X.K ⟨H,P⟩ fr Hc Hb De (g ρ) ->
  wpAny (model X.prog X.w) X.A (execs sts X.env) (SP X pins De) (fun ev s'=>∃H1 s1 x C a od H2,ev=.ref a/\Same H H1/\Inv X pins U H1 s1/\XOut X.prog X.w X.stack H1 s1 C a od H2 s'/\X.mg (Str.ofString (Ex.cls x))=some (.ref C)/\P x H2/\XFs X.K x od H2) s
structure QH (X:Cx) (EX:XW) (fr:Bool) (hs:List ExceptHandler) (hd:HD):Prop where
 h:∀(pins:List (Addr×Obj)) (U:St) (H1:Hp) (s1:Shared) (C a:Addr) (od:Option Addr) (H2:Hp) (s2:Shared) (B:Heap) (T:Addr) (a0:Value) (h5:Heap) (De:Ends) (Hc Hb H0:Hp) (ρ:DS) (x:Ex) (E:Value->Shared->Prop) (H:Hp),Same H H2->(∀dx,od=some dx->H dx=none)->XFs X.K x od H2->Lnd5 X pins U H1 s1 C a od H2 s2 B T a0 h5->X.mg (Str.ofString x.cls)=some (.ref C) ->
  RS X.K Hc Hb H0 ρ U H->SK X.K EX fr Hc Hb De (hd x ρ)->wpAny (model X.prog X.w) X.A (handleBy (.ref a) X.env hs) (SP X pins De) E { s2 with heap:=h5 }
noncomputable def Q7 (g:DS->SR) (hd:HD):DS->SR:=fun ρ=>match g ρ with
 | .er x=>hd x ρ
 | r=>r
theorem Yy {body:List Stmt} {h₀:ExceptHandler} {hs:List ExceptHandler} {g:DS->SR} {hd:HD} {pos:Pos} (hst:X.stack=X.env::X.outer) (hf:X.env.frame=some X.env.locals) (hb:QY X fr body g) (hh:QH X EX fr (h₀::hs) hd):QS X EX fr (.Try body (h₀::hs) [] [] pos) (Q7 g hd):=by
 refine ⟨fun pins s U H De I h=>?_⟩;obtain ⟨Hc,Hb,H0,ρ,sb,R,h⟩:=h;refine wpAny_Try_except (wpAny_mono (hb.h pins s U H De Hc Hb H0 ρ (fun x H'=>Same H H'/\SK X.K EX fr Hc Hb De (hd x ρ)) I R ?_) (fun f s₁ hq=>?_) fun ev s' ⟨H1,s1,x,C,a,od,H2,e,sH,I1,xo,hm,⟨sm,hk⟩,xf⟩=>?_)
 . unfold Q7 at h;cases q:g ρ with
   | nx ρ'=>rw [q] at h;exact h
   | bk ρ'=>rw [q] at h;exact h
   | ct ρ'=>rw [q] at h;exact h
   | rt d=>rw [q] at h;exact h
   | er x=>rw [q] at h;exact fun H' s'=>⟨s',h⟩
   | st=>rw [q] at h;exact h
 . cases f with
   | next=>exact wpAny_execs_nil hq
   | brk=>exact hq
   | cont=>exact hq
   | ret u=>exact hq
 . subst e;exact vo I1 hst hf xo fun B T a0 h5 L=>hh.h pins U H1 s1 C a od H2 s' B T a0 h5 De Hc Hb H0 ρ x X.xe H sm (fun dx e=>Nr sH (I1.hok.none (xo.fly.newd dx e))) xf L hm R hk
end
noncomputable def R.kn {α:Type} (k:String->Bool) (r:R α):R α:=match r with
 | .er x=>if k x.cls=true then .er x else .st
 | r=>r
def E8 (k:String->Bool) (m:List D->R D) (fs:DE->R (List D)):DE->R D:=fun ρ=>(fs ρ).noE.bind fun ds=>(m ds).kn k
theorem SK.ex {K:Frag} {EX EX':XW} {fr:Bool} {Hc Hb:Hp} {De:Ends} {r:SR} (h:SK K EX fr Hc Hb De r) (he:∀x,EX.at x->EX'.at x):SK K EX' fr Hc Hb De r:=by
 cases r with
 | er x=>exact he x h
 | nx ρ=>exact h
 | bk ρ=>exact h
 | ct ρ=>exact h
 | rt d=>exact h
 | st=>exact h
section
variable {X:Cx} {fr frc:Bool} {k:String->Bool} {fs:DE->R (List D)} {mm:List D->R D} {n:Nat} {m:List Bool}
theorem wO {K:Frag} {mg:Str->Option Value} {Hc Hb H0 H:Hp} {ρ:DS} {U:St} {P:Ex->Hp->Prop} {kk:D->Prop} {Q:VK} (hl:∀ds,ds.length≠n->mm ds=.st) (hk:∀c,k c=true->∃C,mg (Str.ofString c)=some (.ref C)) (R:RS K Hc Hb H0 ρ U H)
  (h:Rk (XW.at ⟨H,P⟩) (E8 k mm fs (vis m ρ)) kk) (hQ:∀d,kk d->∀v H',Out K frc (HeOf m ρ U H0 H) H d v H'->Q v H'):TAd K F0 fs U H fun vs H1=>Same H H1/\spD K mg frc mm n vs H1 Q (eOf K ⟨H,P⟩ mg):=by
 unfold E8 at h
 rw [Rk.bind] at h
 refine ⟨F0.same _,vis m ρ,HeOf m ρ U H0 H,R.heH m,R.re m,(Rk.noE h).mono fun ds h vs H1 H1' s1 e1 r1=>⟨s1,ds,H1',e1.2.1,r1,?_,?_⟩⟩
 . apply Classical.byContradiction;intro hn;rw [hl ds hn] at h;exact h
 . cases q:mm ds with
   | ok d=>rw [q] at h;exact fun v H' o=>hQ d h v H' (o.after s1 e1)
   | st=>rw [q] at h;exact h
   | er x=>
    rw [q] at h
    unfold L2.R.kn at h
    dsimp only at h
    split at h
    . rename_i hx;obtain ⟨C,hC⟩:=hk _ hx;exact fun H' s'=>⟨C,hC,fun od xf=>⟨x,h H' (s1.trans s'),hC,xf⟩⟩
    . exact h.elim
theorem wN (h:∃H1 s1,Same H H1/\Inv X pins U H1 s1/\CX1 X.prog X.w X.stack H1 s1 (eOf X.K ⟨H,P⟩ X.mg) ev s') :
  ∃H1 s1 x C a od H2,ev=.ref a/\Same H H1/\Inv X pins U H1 s1/\XOut X.prog X.w X.stack H1 s1 C a od H2 s'/\X.mg (Str.ofString (Ex.cls x))=some (.ref C)/\P x H2/\XFs X.K x od H2:=by
 obtain ⟨H1,s1,sH,I,C,a,od,H2,e,xo,x,hp,hm,xf⟩:=h
 exact ⟨H1,s1,x,C,a,od,H2,e,sH,I,xo,hm,hp,xf⟩
theorem Pz {pins:List (Addr×Obj)} {De:Ends} {st:Stmt} {s:Shared} {E:Value->Shared->Prop} (h:wpAny (model X.prog X.w) X.A (exec st X.env) (SP X pins De) E s):wpAny (model X.prog X.w) X.A (execs [st] X.env) (SP X pins De) E s:=by
 refine wpAny_execs_cons (thn h fun f s1 q=>?_);cases f with
 | next=>exact wpAny_execs_nil q
 | ret v=>exact q
 | brk=>exact q
 | cont=>exact q
variable {x:Str} {p cpos pos:Pos} {e:Expr} {es:List Expr} {ps:List Str} {kl j kk':Nat} {gg:DS->SR}
theorem Nq {i:Nat} {v:Str} {pv:Pos} (hk:∀c,k c=true->∃C,X.mg (Str.ofString c)=some (.ref C)) (hN:X.N.Nodup) (hi:X.N[i]?=some v) (hx:Loc X.env.scope v) (G:i0 X.prog X.w X.K X.mg X.base x ps kl (spD X.K X.mg frc (mOf frc n kk' gg) n)) (hr:Room j X.A) (hg:Gl X x) (ha:QA X.nox F0 (e::es) fs) (hkj:kl<=j:=by omega) (hdb:(x==("__debug__":Str))=false:=by decide)
  (he:starEach (e::es) X.env=(false,eval e X.env)::starEach es X.env:=by rfl) (hpl:(backTo cpos (starEach es X.env)).any (·.1)=false:=by rfl) (hs:swapsWith (.Call (.Name x p) (e::es) [] cpos) (some (.Name v pv)) pos.line X.env=pure false:=by rfl)
  (hf:X.fn v=true\/X.env.scope.names.lookup v=some .local:=by first | exact .inl rfl | exact .inr rfl | assumption) :
  QY X fr [.Assign [.Name v pv] (.Call (.Name x p) (e::es) [] cpos) pos] (h9 frc i m (E8 k (mOf frc n kk' gg) fs)):=by
 refine ⟨fun pins s U H De Hc Hb H0 ρ P I R h=>?_⟩
 unfold h9 at h
 rw [SK.toS] at h
 refine Pz (wpAny_Assign_Name (wpAny_mono (wP (Q:=fun u H'=>De.nx (U.set i (some u)) H') G hr hg ha.h I (wO P9 hk R h fun d z u H' o=>?_) hkj hdb he hpl) (fun u s1 ⟨y,H1,I1,r1,q1⟩=>?_) fun ev s' z=>wN z) hs)
 . obtain ⟨H0n,R',a⟩:=R.out o;exact z _ H' H0n (R'.put a i)
 . exact Ma I1 hN hi hx r1 (fun s2 I2=>⟨_,H1,I2,q1⟩) hf
theorem y2o {c:Expr} {b1 b2:List Stmt} {t:DE->R Bool} {g1 g2:DS->SR} (hc:QT X.nox F0 c t) (h1:QY X fr b1 g1) (h2:QY X fr b2 g2):QY X fr [.If c b1 b2 pos] (sIf (fun ρ=>(t ρ).noE) g1 g2):=by
 refine ⟨fun pins s U H De Hc Hb H0 ρ P I R h=>?_⟩;unfold sIf at h;rw [SK.toS] at h;have I':Inv X.nox pins U H s:=⟨⟨I.ok.mod,I.ok.kind,I.ok.glob,I.ok.blt,I.ok.above,I.ok.inj,I.ok.has,I.ok.cab,I.ok.hd,I.ok.frames,I.ok.stk,I.ok.exf,I.ok.bs,I.ok.bsz,I.ok.noex,I.ok.exfs,I.ok.funs,I.ok.frf⟩,I.os,I.bare,I.base,I.loc,I.cell,I.free,I.freeC,I.pin,I.hok,I.len⟩;refine Pz (wpAny_If (wpAny_mono (hc.h pins s U H (fun b H1=>Same H H1/\SK X.K ⟨H,P⟩ fr Hc Hb De (if b=true then g1 ρ else g2 ρ)) I' ?_) (fun b s1 ⟨H1,I1,sm,q1⟩=>?_) fun _ _ z=>z.elim))
 . refine ⟨F0.same _,see ρ,HeOf (List.replicate ρ.length true) ρ U H0 H,R.heH _,by rw [<-Do];exact R.re _,(Rk.noE h).mono fun b h H' s'=>⟨s',h⟩⟩
 . have I1:Inv X pins U H1 s1:=⟨I.ok,I1.os,I1.bare,I1.base,I1.loc,I1.cell,I1.free,I1.freeC,I1.pin,I1.hok,I1.len⟩;have q2:=q1.ex (EX':=⟨H1,P⟩) fun x z H' s'=>z H' (sm.trans s')
   cases b with
   | true=>exact wpAny_mono (h1.h pins s1 U H1 De Hc Hb H0 ρ P I1 (R.grow sm) q2) (fun _ _ z=>z) fun _ _ ⟨H2,s2,x,C,a,od,H3,e,s3,z⟩=>⟨H2,s2,x,C,a,od,H3,e,sm.trans s3,z⟩
   | false=>exact wpAny_mono (h2.h pins s1 U H1 De Hc Hb H0 ρ P I1 (R.grow sm) q2) (fun _ _ z=>z) fun _ _ ⟨H2,s2,x,C,a,od,H3,e,s3,z⟩=>⟨H2,s2,x,C,a,od,H3,e,sm.trans s3,z⟩
end
noncomputable def Ei:HD:=fun _ _=>.st
noncomputable def SR.gone (i:Nat):SR->SR
 | .nx ρ=>.nx (ρ.set i .em)
 | .bk ρ=>.bk (ρ.set i .em)
 | .ct ρ=>.ct (ρ.set i .em)
 | .rt d=>.rt d
 | _=>.st
noncomputable def SR.noE:SR->SR
 | .er _=>.st
 | r=>r
def hNo (tb:String->Option Bool) (g:DS->SR) (r:HD):HD:=fun x ρ=>match tb x.cls with
 | some true=>(g ρ).noE
 | some false=>r x ρ
 | none=>.st
theorem RS.gone {K:Frag} {Hc Hb H0 H:Hp} {ρ:DS} {U:St} (R:RS K Hc Hb H0 ρ U H) (i:Nat):RS K Hc Hb H0 (ρ.set i .em) (U.set i none) H:=by
 have ne:∀(j:Nat) (z:Sl),(ρ.set i Sl.em)[j]?=some z->z≠.em->j≠i/\ρ[j]?=some z:=fun j z e hz=>by
  by_cases hj:j=i
  . subst hj;by_cases hl:j<ρ.length
    . rw [List.getElem?_set_self hl] at e;cases e;exact absurd rfl hz
    . rw [List.getElem?_eq_none (by simpa using hl)] at e;cases e
  . rw [List.getElem?_set_ne (Ne.symm hj)] at e;exact ⟨hj,e⟩
 refine ⟨R.sb,R.ext,by simpa using R.len,fun j d e=>?_,fun j d e=>?_,fun j k d e a h1 h2 h3 h4=>?_⟩
 . obtain ⟨hj,e⟩:=ne j _ e (by simp);rw [List.getElem?_set_ne (Ne.symm hj)];exact R.im j d e
 . obtain ⟨hj,e⟩:=ne j _ e (by simp);rw [List.getElem?_set_ne (Ne.symm hj)];exact R.ow j d e
 . obtain ⟨hj,e1⟩:=ne j _ h1 (by simp);obtain ⟨hk,e2⟩:=ne k _ h2 (by simp);rw [List.getElem?_set_ne (Ne.symm hj)] at h3;rw [List.getElem?_set_ne (Ne.symm hk)] at h4;exact R.ap j k d e a e1 e2 h3 h4
noncomputable def gD (De:Ends) (i:Nat):Ends:={ nx:=fun U H=>De.nx (U.set i none) H,rt:=De.rt,bk:=fun U H=>De.bk (U.set i none) H,ct:=fun U H=>De.ct (U.set i none) H }
theorem SK.gone {K:Frag} {EX:XW} {fr:Bool} {Hc Hb:Hp} {De:Ends} {i:Nat} {r:SR} (h:SK K EX fr Hc Hb De (r.gone i)):SK K F0 fr Hc Hb (gD De i) r:=by
 cases r with
 | nx ρ=>exact fun U H H0 R=>h _ H H0 (R.gone i)
 | bk ρ=>exact fun U H H0 R=>h _ H H0 (R.gone i)
 | ct ρ=>exact fun U H H0 R=>h _ H H0 (R.gone i)
 | rt d=>exact h
 | er x=>exact h.elim
 | st=>exact h.elim
theorem SK.noE {K:Frag} {EX:XW} {fr:Bool} {Hc Hb:Hp} {De:Ends} {r:SR} (h:SK K EX fr Hc Hb De r.noE):SK K F0 fr Hc Hb De r:=by
 cases r with
 | nx ρ=>exact h
 | bk ρ=>exact h
 | ct ρ=>exact h
 | rt d=>exact h
 | er x=>exact h.elim
 | st=>exact h.elim
mutual
theorem RD.tups {K:Frag} {H H':Hp} (hs:∀b xs,H b=some (.tup xs)->H' b=some (.tup xs)):∀{d:D} {v:V},d.noL=true->d.pl=true->RD K H d v->RD K H' d v
 | .non,_,_,_,h=>by simp only [RD] at h ⊢;exact h
 | .bl _,_,_,_,h=>by simp only [RD] at h ⊢;exact h
 | .int _,_,_,_,h=>by simp only [RD] at h ⊢;exact h
 | .str _,_,_,_,h=>by simp only [RD] at h ⊢;exact h
 | .tup ds,_,n,p,h=>by simp only [RD] at h ⊢;obtain ⟨a,xs,e,h1,h2⟩:=h;exact ⟨a,xs,e,hs _ _ h1,RDs.tups hs (by simpa only [D.noL] using n) (by simpa only [D.pl] using p) h2⟩
 | .lst ds,_,n,_,h=>by simp [D.noL] at n
 | .dk _ ds,_,n,_,h=>by simp [D.noL] at n
 | .dt _ ds,_,n,_,h=>by simp [D.noL] at n
 | .dn _ ds,_,n,_,h=>by simp [D.noL] at n
 | .exc c fs,_,_,p,h=>by simp [D.pl] at p
 | .obj c fs,_,_,p,h=>by simp [D.pl] at p
 | .dp _ _,_,_,p,h=>by simp [D.pl] at p
 | .scr ns,_,_,p,h=>by simp [D.pl] at p
theorem RDs.tups {K:Frag} {H H':Hp} (hs:∀b xs,H b=some (.tup xs)->H' b=some (.tup xs)):∀{ds:List D} {xs:List V},i9 ds=true->pls ds=true->RDs K H ds xs->RDs K H' ds xs
 | [],_,_,_,h=>by simp only [RDs] at h ⊢;exact h
 | d::ds,_,n,p,h=>by simp only [RDs] at h ⊢;simp only [i9,Bool.and_eq_true] at n;simp only [pls,Bool.and_eq_true] at p;obtain ⟨x,r,e,h1,h2⟩:=h;exact ⟨x,r,e,RD.tups hs n.1 p.1 h1,RDs.tups hs n.2 p.2 h2⟩
end
open Classical in
noncomputable def seeT (He H H2:Hp):Hp:=fun b=>if He b=none/\(H b=none\/∃xs,H2 b=some (.tup xs)) then H2 b else He b
theorem wM (h0:He b=none) (h:H b=none):seeT He H H2 b=H2 b:=by unfold seeT;rw [ζ ⟨h0,.inl h⟩]
theorem wL (h0:Same He H) (s:Same H H2) (h:H2 b=some (.tup xs)):seeT He H H2 b=some (.tup xs):=by
 unfold seeT;cases q:He b with
 | none=>rw [ζ ⟨rfl,.inr ⟨xs,h⟩⟩];exact h
 | some o=>rw [ξ (fun z=>nomatch z.1),<-h,s _ _ (h0 _ _ q)]
theorem wK (h0:Same He H) (s:Same H H2):Ext He H (seeT He H H2) H2:=by
 refine ⟨fun b o q=>?_,fun b o q=>?_,fun b n q=>?_⟩
 . unfold seeT;rw [ξ (fun z=>by rw [q] at z;exact nomatch z.1)];exact q
 . unfold seeT at q;split at q
   . exact q
   . exact s _ _ (h0 _ _ q)
 . unfold seeT;split
   . rename_i z;rcases z.2 with z | ⟨xs,z⟩
     . exact absurd z n
     . exact .inr ⟨xs,z⟩
   . exact .inl q
theorem Out.exc {K:Frag} {He H H2:Hp} {x:Ex} {a C:Addr} {od:Option Addr} (e1:nsIn K mainGlobals (Str.ofString x.cls)=some (some (.ref C))) (h0:Same He H) (s:Same H H2) (ha:H2 a=none) (nd:∀dx,od=some dx->H dx=none) (xf:XFs K x od H2):Out K false He H (.exc x.cls x.fs) (.ref a) (upd H2 a (J3 a C od)):=by
 have sm:Same H2 (upd H2 a (J3 a C od)):=Same.upd_new ha;rcases xf with e | ⟨dx,vs,ob,h1,h2,h3,h4⟩
 . have e2:Ext He H He H2:=⟨Same.refl _,h0.trans s,fun _ _ z=>.inl z⟩;exact .val (s.trans sm) (e2.trans s (.new (h0.trans s) ha)) (by simp only [RD];exact ⟨a,od,_,rfl,⟨C,e1,rfl⟩,u8,.inl e⟩)
 . have hd:=nd dx h1;have e2:Ext He H (seeT He H H2) H2:=wK h0 s;have hne:dx≠a:=fun z=>by rw [z,ha] at h2;cases h2
   have tk:∀b xs,H2 b=some (.tup xs)->upd (seeT He H H2) a (J3 a C od) b=some (.tup xs):=fun b xs q=>by rw [m9 (fun z=>by rw [z,ha] at q;cases q)];exact wL h0 s q
   exact .val (s.trans sm) (e2.trans s (.new e2.2.1 ha)) (by simp only [RD];exact ⟨a,od,_,rfl,⟨C,e1,rfl⟩,u8,.inr ⟨dx,vs,ob,h1,by rw [m9 hne,wM (Nr h0 hd) hd];exact h2,h3,RDs.tups tk h3.1 h3.2 h4⟩⟩)
structure Tbl (K:Frag) (cn:String) (Dd:Addr) (bmB:List Value) (newId:String) (tb:String->Option Bool):Prop where
 dn:nsIn K mainGlobals (Str.ofString cn)=some (some (.ref Dd))
 dq:XCl K Dd bmB newId
 cs:∀c b,tb c=some b->∃C,nsIn K mainGlobals (Str.ofString c)=some (some (.ref C))/\XCl K C bmB newId/\mroIn K C (.ref Dd)=some b
theorem kf {K:Frag} {h:Heap} {C:Addr} {v:Value} {b:Bool} {nm q:Str} {N:Addr} {bs bm:List Value} {hdct:Bool} {sn:List Str} {sub:List Value} {ab:Bool} {col:Option Bool} {dd:Option Addr} {k0 k1 k2 k3 k5:Option Value} {newId:String} (X:K.In h)
  (hC:h.get? C=some (excClassObj nm q C N bs bm hdct sn sub ab col dd k0 k1 k2 k3 k5 newId)) (hm:mroIn K C v=some b):(Value.ref C::bm).contains v=b:=by
 obtain ⟨cd,e1,e2⟩:=Option.bind_eq_some_iff.mp hm
 unfold PySem.W.clsIn at e1
 split at e1<;>cases e1
 rename_i ho
 have:=(X _ _ ho).symm.trans hC
 unfold excClassObj at this
 cases this
 split at e2
 . cases e2
 . exact Option.some.inj e2
section
variable {X:Cx} {EX:XW} {fr:Bool} {cn:String} {Dd:Addr} {bmB:List Value} {newId:String} {tb:String->Option Bool} {cp hpos:Pos} {b₀:Stmt} {suite:List Stmt} {rest:List ExceptHandler} {g:DS->SR} {hd:HD}
theorem Yx:QH X EX fr [] Ei:=⟨fun _ _ _ _ _ _ _ _ _ _ _ _ _ _ _ _ _ _ _ _ _ _ _ _ _ _ _ h=>h.elim⟩
theorem ke {pins:List (Addr×Obj)} {U:St} {H1:Hp} {s1:Shared} {C a:Addr} {od:Option Addr} {H2:Hp} {s2:Shared} {B:Heap} {T:Addr} {a0:Value} {h5:Heap} {x:Ex} {b:Bool} {R:Result->Shared->Prop} (Tb:Tbl X.K cn Dd bmB newId tb) (hbase:bmB.contains (.type "BaseException")=true) (hg:Gl X (Str.ofString cn)) (L:Lnd5 X pins U H1 s1 C a od H2 s2 B T a0 h5)
  (hmx:X.mg (Str.ofString x.cls)=some (.ref C)) (hb:tb x.cls=some b) (h:R (.ok (if b then .brk else .next)) { s2 with heap:=h5 }) (hdb:(Str.ofString cn==("__debug__":Str))=false) :
  codeAny (model X.prog X.w) (X.A.mark (some (.ref a))) (.handlers (.ref a) [.ExceptHandler (some (.Name (Str.ofString cn) cp)) none [] hpos] X.env) R { s2 with heap:=h5 }:=by
 obtain ⟨I5,sm⟩:=L.inv
 have hm:X.mg (Str.ofString cn)=some (.ref Dd):=mg_of L.I.ok.mod.kin L.I.ok.mod.glob Tb.dn
 obtain ⟨C',e1,e2,e3⟩:=Tb.cs _ _ hb
 have hm':=mg_of L.I.ok.mod.kin L.I.ok.mod.glob e1
 rw [hmx] at hm'
 cases hm'
 obtain ⟨oe,vs,he,hc,hd',_⟩:=L.fl.first
 have KI:X.K.In h5:=I5.kIn
 obtain ⟨bm,N,nm,qn,bs,hdct,sn,sub,ab,col,dd,k0,k1,k2,k3,k5,hC,TL⟩:=Sg KI e2
 obtain ⟨bm2,N2,nm2,qn2,bs2,hdct2,sn2,sub2,ab2,col2,dd2,j0,j1,j2,j3,j5,hD,TL2⟩:=Sg KI Tb.dq
 refine codeAny_handlers_test (U2 (X:=X.held (.ref a)) (I5.held _) hg hm ?_ hdb)
 exact xT hC hD he hc (TL2.hasType hbase) (by rw [kf KI hC e3];exact h)
theorem y2p (Tb:Tbl X.K cn Dd bmB newId tb) (hbase:bmB.contains (.type "BaseException")=true) (hg:Gl X (Str.ofString cn)) (hs:∀e,QB (X.held e) F0 fr (b₀::suite) g) (hr:QH X EX fr rest hd) (hdb:(Str.ofString cn==("__debug__":Str))=false:=by decide) :
  QH X EX fr (.ExceptHandler (some (.Name (Str.ofString cn) cp)) none (b₀::suite) hpos::rest) (hNo tb g hd):=by
 refine ⟨fun pins U H1 s1 C a od H2 s2 B T a0 h5 De Hc Hb H0 ρ x E H sH nd xf L hmx R h=>?_⟩
 unfold hNo at h
 refine wpAny_handleBy_cons ?_ (by intro q;cases q)
 cases hb:tb x.cls with
 | none=>rw [hb] at h;exact h.elim
 | some b=>
  rw [hb] at h
  refine ke Tb hbase hg L hmx hb ?_ hdb
  cases b with
  | false=>exact hr.h pins U H1 s1 C a od H2 s2 B T a0 h5 De Hc Hb H0 ρ x E H sH nd xf L hmx R h
  | true=>
   refine codeAny_handlers_suite (L.again fun h6 L6=>?_)
   obtain ⟨I6,sm⟩:=L6.inv
   refine wpAny_mono ((hs (.ref a)).h pins _ _ _ De (I6.held (.ref a)) ⟨Hc,Hb,H0,ρ,F0.same _,R.grow (sH.trans sm),h.noE⟩) (fun f s4 q=>?_) fun _ _ z=>z.elim
   cases f with
   | next=>obtain ⟨σ',H',I',q⟩:=q;exact ⟨σ',H',I'.unheld L.I.ok,q⟩
   | brk=>obtain ⟨σ',H',I',q⟩:=q;exact ⟨σ',H',I'.unheld L.I.ok,q⟩
   | cont=>obtain ⟨σ',H',I',q⟩:=q;exact ⟨σ',H',I'.unheld L.I.ok,q⟩
   | ret u=>obtain ⟨v,σ',H',I',rv,q⟩:=q;exact ⟨v,σ',H',I'.unheld L.I.ok,rv,q⟩
end
end L2
namespace L2
open PySem PySem.Spec PyProof.Rows
open PySem.Calls
structure XF (K:Frag) (C:Addr):Prop where
 ob:mroIn K C (.type "object")=some true
 be:mroIn K C (.type "BaseException")=some true
 cl:PySem.W.findIn K (.ref C) "__class__"=some (some (.builtin "object.__class__"))
 ga:PySem.W.findIn K (.ref C) "__getattribute__"=some (some (.builtin "BaseException.__getattribute__"))
 gt:PySem.W.findIn K (.ref C) "__getattr__"=some none
theorem XF.cls {K:Frag} {C:Addr} (F:XF K C):∃c' d' cd sl,K.lookup C=some ⟨c',d',.cls cd,sl⟩:=by obtain ⟨cd,e1,e2⟩:=Option.bind_eq_some_iff.mp F.ob;unfold PySem.W.clsIn at e1;split at e1<;>cases e1;rename_i ho;exact ⟨_,_,_,_,ho⟩
theorem RD.exc {K:Frag} {H:Hp} {c:String} {fs:List D} {v:V} (r:RD K H (.exc c fs) v):∃a C od,v=.ref a/\nsIn K mainGlobals (Str.ofString c)=some (some (.ref C))/\H a=some (J3 a C od)/\XFs K ⟨c,fs⟩ od H:=by simp only [RD] at r;obtain ⟨a,od,o,e,⟨C,h1,h2⟩,h3,h4⟩:=r;subst h2;exact ⟨a,C,od,e,h1,h3,h4⟩
end L2
namespace L2
open PySem PySem.Spec PyProof.Rows
section
open PySem.AutoSeq1 (wpAny_loadPart')
end
end L2
namespace L2
open PySem PySem.Spec PyProof.Rows
section
open PySem.AutoSeq1 (wpAny_loadPart')
end
end L2
namespace L2
open PySem PySem.Spec PyProof.Rows
theorem Un.drop (u:Un fs [] H H' h h') (hn:h.get? e=none) (he:H e=none):Un fs [] H (fun b=>if b=e then none else H' b) h h' where
 keep:=u.keep
 slot:=u.slot
 free:=fun b o q n hx=>by
  show (if b=e then none else H' b)=none;split
  . rfl
  . exact u.free b o q n hx
 there:=u.there
 tups:=fun b xs q=>by show (if b=e then none else H' b)=_;rw [ξ (fun z=>by rw [z,he] at q;cases q)];exact u.tups b xs q
 frzs:=fun b o v q=>by show (if b=e then none else H' b)=_;rw [ξ (fun z=>by rw [z,he] at q;cases q)];exact u.frzs b o v q
 tbls:=fun b ps q=>by obtain ⟨m,z⟩:=u.tbls b ps q;refine ⟨m,?_⟩;show (if b=e then none else H' b)=_;rw [ξ (fun y=>by rw [y,he] at q;cases q)];exact z
section
variable {x:Str}
theorem Se {K:Frag} {H:Hp}:∀{ds:List D} {xs:List V},RDs K H ds xs->xs.length=ds.length
 | [],_,h=>by simp only [RDs] at h;rw [h];rfl
 | d::ds,_,h=>by simp only [RDs] at h;obtain ⟨x,r,rfl,_,h2⟩:=h;rw [List.length_cons,List.length_cons,Se h2]
end
end L2
namespace L2
open PySem PySem.Spec PyProof.Rows
open PySem.Calls
open Builtin Builtin.ObjectAttr
section
open PySem.AutoSeq1 (wpAny_loadPart')
end
theorem Tz {K:Frag} {H:Hp} {f:Str}:∀{ns:List Str} {fs:List D} {vs:List V} {d:D},RDs K H fs vs->(ns.zip fs).lookup f=some d->f∈ns/\d∈fs/\∃v,(ns.zip vs).lookup f=some v/\RD K H d v
 | [],_,_,_,_,h=>by simp at h
 | _::_,[],_,_,_,h=>by simp at h
 | n::ns,e::fs,_,d,r,h=>by
  simp only [RDs] at r;obtain ⟨x,xs,rfl,r1,r2⟩:=r;simp only [List.zip_cons_cons,List.lookup] at h ⊢;by_cases hb:(f==n)=true
  . rw [hb] at h ⊢;cases h;exact ⟨by rw [eq_of_beq hb];simp,by simp,x,rfl,r1⟩
  . have hb:(f==n)=false:=by simpa using hb
    rw [hb] at h ⊢;obtain ⟨q1,q2,q3⟩:=Tz r2 h;exact ⟨List.mem_cons_of_mem _ q1,List.mem_cons_of_mem _ q2,q3⟩
noncomputable def P8 (s:Stmt):List Stmt:=match s with
 | .ClassDef _ _ _ b _ _ _ _ _ _ _=>b
 | _=>[]
end L2
namespace L2
open PySem PySem.Spec PyProof.Rows
section
variable {prog:Program} {w:World} {A:Around} {R:Result->Shared->Prop} {I:Addr} {fp wr:List Addr} {n:Nat} {P:Nat->Value->Prop} {St:Nat->Heap->Prop}
theorem Yw (kw:List (Str×Value)) (W:Walks prog w A.in1 I fp wr n P St) (bt:Nat->Nat->Bool) (cm:CmpOf prog w A.in1 .Gt P bt) (S:Addr) (nf:S∉fp) :
  ∀(k j:Nat) (s:Shared) (vb:Value) (c:Nat),n - (j+1)=k->j+1<=n->St (j+1) s.heap->P (argBest bt j) vb->s.heap.get? S=some { cls:=.type "list",dict:=none,data:=.seq #[vb,vb] c,slots:=#[] } ->
  (∀v h' tk,P (argBest bt (n - 1)) v->(∀b o,b∉wr->b≠S->s.heap.get? b=some o->h'.get? b=some o)->R (.ok (.ret v)) { s with heap:=h',toks:=tk })->codeAny (model prog w) A (.builtin "max.loop" ⟨[.ref I,.none,.ref S],kw⟩) R s:=by
 have nw:S∉wr:=fun h=>nf (W.sub _ h)
 have nm:(toString "max"++toString ".loop":String)="max.loop":=by decide
 intro k
 induction k with
 | zero=>
  intro j s vb c ek ej st pb eS fin
  have jn:j+1=n:=by omega
  refine codeAny_builtin PySem.F.entry_max_loop ?_
  rw [Around.under_plainId PySem.F.plain_max_loop _]
  show wpAny _ A.in1 (seqItems? (.ref S) >>= _) _ _ _
  refine δ (wpAny_seqItems eS rfl ?_)
  show wpAny _ A.in1 (tryCatch (pyNext (.ref I)) _ >>= _) _ _ _
  refine δ (wpAny_tryCatch (W.done s _ _ (jn ▸ st) fun h' tk kp=>?_))
  have eS':=kp S _ nw eS
  show wpAny _ A.in1 (updateSeq S (fun _=>#[]) >>= _) _ _ _
  refine δ ?_
  refine wpAny_updateSeq eS' rfl (δ (wpAny_letGo (ω ?_)))
  exact fin vb _ tk (by rw [<-jn];exact pb) fun b o hbw hbS e=>(Heap.get?_update_other _ _ (Ne.symm hbS)).trans (kp b o hbw e)
 | succ k ih=>
  intro j s vb c ek ej st pb eS fin
  have jl:j+1<n:=by omega
  refine codeAny_builtin PySem.F.entry_max_loop ?_
  rw [Around.under_plainId PySem.F.plain_max_loop _]
  show wpAny _ A.in1 (seqItems? (.ref S) >>= _) _ _ _
  refine δ (wpAny_seqItems eS rfl ?_)
  show wpAny _ A.in1 (tryCatch (pyNext (.ref I)) _ >>= _) _ _ _
  refine δ (wpAny_tryCatch (W.item (j+1) s _ _ jl st fun v h' tk pv st' kp=>?_))
  have eS':=kp S _ nw eS
  show wpAny _ A.in1 (tryCatch (holding [v,v] (richCompare .Gt v vb >>= _)) _ >>= _) _ _ _
  refine δ (wpAny_tryCatch (wpAny_holding (δ (cm (j+1) (argBest bt j) v vb _ _ _ pv pb ?_))))
  refine δ (wpAny_holding (wpAny_truthy_bool ?_))
  refine δ (wpAny_letGo (ω ?_))
  cases hb:bt (j+1) (argBest bt j) with
  | true=>
   rw [ζ rfl]
   refine δ ?_
   refine wpAny_updateSeq eS' rfl (δ (wpAny_letGo ?_))
   rw [nm]
   refine ω ⟨plainId_quiet PySem.F.plain_max_loop _,ih (j+1) _ v _ (by omega) jl (W.frame _ _ _ st' fun b hbf o e=>?_) (by simp only [argBest,hb,if_true];exact pv) (Heap.get?_update_self _ eS' rfl) fun v' h'' tk'' pv' kp'=>?_⟩
   . exact (Heap.get?_update_other _ _ (fun z:S=b=>nf (by rw [z];exact hbf))).trans e
   . exact fin v' h'' tk'' pv' fun b o hbw hbS e=>kp' b o hbw hbS ((Heap.get?_update_other _ _ (Ne.symm hbS)).trans (kp b o hbw e))
  | false=>
   rw [ξ θ]
   refine δ (wpAny_letGo ?_)
   rw [nm]
   exact ω ⟨plainId_quiet PySem.F.plain_max_loop _,ih (j+1) _ vb c (by omega) jl st' (by simp only [argBest,hb,Bool.false_eq_true,if_false];exact pb) eS' fun v' h'' tk'' pv' kp'=>fin v' h'' tk'' pv' fun b o hbw hbS e=>kp' b o hbw hbS (kp b o hbw e)⟩
theorem wJ (kw:List (Str×Value)) (W:Walks prog w A.in1 I fp wr n P St) (bt:Nat->Nat->Bool) (cm:CmpOf prog w A.in1 .Gt P bt) (S:Addr) (nf:S∉fp) (n0:0<n) (st:St 0 s.heap)
  (eS:s.heap.get? S=some { cls:=.type "list",dict:=none,data:=.seq #[] c,slots:=#[] }) (fin:∀v h' tk,P (argBest bt (n - 1)) v->(∀b o,b∉wr->b≠S->s.heap.get? b=some o->h'.get? b=some o)->R (.ok (.ret v)) { s with heap:=h',toks:=tk }) :
  codeAny (model prog w) A (.builtin "max.loop" ⟨[.ref I,.none,.ref S],kw⟩) R s:=by
 have nw:S∉wr:=fun h=>nf (W.sub _ h)
 have nm:(toString "max"++toString ".loop":String)="max.loop":=by decide
 refine codeAny_builtin PySem.F.entry_max_loop ?_
 rw [Around.under_plainId PySem.F.plain_max_loop _]
 show wpAny _ A.in1 (seqItems? (.ref S) >>= _) _ _ _
 refine δ (wpAny_seqItems eS rfl ?_)
 show wpAny _ A.in1 (tryCatch (pyNext (.ref I)) _ >>= _) _ _ _
 refine δ (wpAny_tryCatch (W.item 0 s _ _ n0 st fun v h' tk pv st' kp=>?_))
 have eS':=kp S _ nw eS
 show wpAny _ A.in1 (updateSeq S (fun _=>#[v,v]) >>= _) _ _ _
 refine δ ?_
 refine wpAny_updateSeq eS' rfl ?_
 rw [nm]
 refine ω ⟨plainId_quiet PySem.F.plain_max_loop _,Yw kw W bt cm S nf _ 0 _ v _ rfl n0 (W.frame _ _ _ st' fun b hbf o e=>?_) pv (Heap.get?_update_self _ eS' rfl) fun v' h'' tk'' pv' kp'=>?_⟩
 . exact (Heap.get?_update_other _ _ (fun z:S=b=>nf (by rw [z];exact hbf))).trans e
 . exact fin v' h'' tk'' pv' fun b o hbw hbS e=>kp' b o hbw hbS ((Heap.get?_update_other _ _ (Ne.symm hbS)).trans (kp b o hbw e))
theorem vn (q:Str) (dv:Value) (W:Walks prog w A.in1 I fp wr n P St) (S:Addr) (nf:S∉fp) (n0:n=0) (st:St 0 s.heap)
  (eS:s.heap.get? S=some { cls:=.type "list",dict:=none,data:=.seq #[] c,slots:=#[] }) (fin:∀h' tk,(∀b o,b∉wr->b≠S->s.heap.get? b=some o->h'.get? b=some o)->R (.ok (.ret dv)) { s with heap:=h',toks:=tk }) :
  codeAny (model prog w) A (.builtin "max.loop" ⟨[.ref I,.none,.ref S],[(q,dv)]⟩) R s:=by
 refine codeAny_builtin PySem.F.entry_max_loop ?_
 rw [Around.under_plainId PySem.F.plain_max_loop _]
 show wpAny _ A.in1 (seqItems? (.ref S) >>= _) _ _ _
 refine δ (wpAny_seqItems eS rfl ?_)
 show wpAny _ A.in1 (tryCatch (pyNext (.ref I)) _ >>= _) _ _ _
 refine δ (wpAny_tryCatch (W.done s _ _ (n0 ▸ st) fun h' tk kp=>?_))
 show wpAny _ A.in1 (rule _ >>= _) _ _ _
 exact δ (wpAny_rule (ω (fin h' tk fun b o hb _ e=>kp b o hb e)))
end
theorem vm (a v:Value):argsOk "max" ⟨[a],[(Str.ofString "default",v)]⟩:=by unfold argsOk;kernel_rfl
section
variable {prog:Program} {w:World} {A:Around} {E:Value->Shared->Prop} {s:Shared}
theorem vk
  (h:wpAny (model prog w) A.in1 (pyIter x) (fun it s₂=>∃I fp wr n P St bt,it=.ref I/\Walks prog w A.in1 I fp wr n P St/\St 0 s₂.heap/\(∀b∈fp,b<s₂.heap.objs.size)/\CmpOf prog w A.in1 .Gt P bt /\
   ∀v h' tk,((0<n/\P (argBest bt (n - 1)) v)\/(n=0/\v=dv))->(∀b o,b∉wr->s₂.heap.get? b=some o->h'.get? b=some o)->Q v { s₂ with heap:=h',toks:=tk }) E s) :
  wpAny (model prog w) A (call (.builtin "max") [x] [(Str.ofString "default",dv)]) Q E s:=by
 have nm:(toString "max"++toString ".loop":String)="max.loop":=by decide
 refine kmk_tree PySem.F.kind_max PySem.F.plain_max PySem.F.entry_max (vm _ _) ?_
 show wpAny _ A.in1 (Builtin.Builtins.bindParams "max" ["key","default"] 0 ⟨[],[(Str.ofString "default",dv)]⟩ >>= _) _ _ s
 refine δ (wpAny_of_eq (show Builtin.Builtins.bindParams "max" ["key","default"] 0 ⟨[],[(Str.ofString "default",dv)]⟩=pure [none,some dv] from rfl) ?_)
 refine δ (ω ?_)
 refine δ (wpAny_mono h (fun it s₂ g=>?_) fun _ _ e=>e)
 obtain ⟨I,fp,wr,n,P,St,bt,rfl,W,st,bd,cm,hQ⟩:=g
 refine δ (wpAny_newObj_type ?_)
 have nf:s₂.heap.objs.size∉fp:=fun hm=>Nat.lt_irrefl _ (bd _ hm)
 rw [nm]
 refine ω ⟨plainId_quiet PySem.F.plain_max_loop _,?_⟩
 by_cases n0:0<n
 . exact wJ _ W bt cm s₂.heap.objs.size nf n0 (W.frame _ _ _ st fun b _ o e=>τ _ e) (Ψ _ rfl) fun v h' tk pv kp=>
    hQ v h' tk (.inl ⟨n0,pv⟩) fun b o hbw e=>kp b o hbw (Nat.ne_of_lt (π e)) (τ _ e)
 . exact vn _ dv W s₂.heap.objs.size nf (by lia) (W.frame _ _ _ st fun b _ o e=>τ _ e) (Ψ _ rfl) fun h' tk kp=>
    hQ dv h' tk (.inr ⟨by lia,rfl⟩) fun b o hbw e=>kp b o hbw (Nat.ne_of_lt (π e)) (τ _ e)
variable {h₀:Heap} {L:Addr} {m:Str->Option Value} {news:List (Addr×Obj)}
theorem vj (hh:A.handled=none) (F:Fr h₀ L s.heap m) (N:News h₀ L s.heap news) (hl:s.heap.IsList l vs.toArray) (hi:IntsAre vs ns)
  (h:∀v h' tk,Fr h₀ L h' m->News h₀ L h' news->((ns=[]/\v=dv)\/∃M t,v=.int M t/\M∈ns/\∀a,a∈ns->a<=M)->Q v { s with heap:=h',toks:=tk }) :
  wpAny (model prog w) A (call (.builtin "max") [.ref l] [(Str.ofString "default",dv)]) Q E s:=by
 obtain ⟨xs,e⟩:=hi.allInts.items
 have en:ns=xs.toList.map (·.1):=by rw [<-hi.numsOf,<-nums_intItems,<-e]
 have el:ns.length=xs.size:=by rw [en,List.length_map,Array.length_toList]
 rw [e] at hl
 refine vk (iter_intList hl fun s₂ e st bd lI=>?_)
 subst e
 refine ⟨_,_,_,_,_,_,_,rfl,Walks.list (A:=A.in1) hh _ l lI (intItems xs),st,bd,CmpOf.ints_gt (numAt xs) (fun _ _=>intItems_at),fun v h' tk pv kp=>?_⟩
 have kp':=old_kept kp
 refine h v h' tk (F.grownK kp') (N.grown kp') ?_
 rcases pv with ⟨n0,pv⟩ | ⟨n0,rfl⟩
 . right;have n0':0<xs.size:=by simpa [intItems] using n0
   have pv':(intItems xs)[argBest (fun i j=>decide (numAt xs i > numAt xs j)) (xs.size - 1)]?=some v:=by simpa [intItems] using pv
   obtain ⟨t,rfl⟩:=intItems_at pv';obtain ⟨h1,h2⟩:=argBest_gt (numAt xs) (xs.size - 1);refine ⟨_,t,rfl,?_,fun a ha=>?_⟩
   . rw [en,numAt_eq];exact Q1 (by rw [List.length_map,Array.length_toList];lia)
   . rw [en] at ha;obtain ⟨j,hj,rfl⟩:=mem_getD ha;rw [List.length_map,Array.length_toList] at hj;rw [<-numAt_eq];exact h2 j (by lia)
 . left;have:xs.size=0:=by simpa [intItems] using n0
   exact ⟨List.length_eq_zero_iff.mp (by lia),rfl⟩
end
def mxD (d:Int):List Int->Int
 | []=>d
 | n::ns=>D4 n ns
def X5:List D->Option D
 | [.lst ds,.int d]=>(x6 ds).map fun ns=>.int (mxD d ns)
 | _=>none
def Hv:List V->Hp->VK->Prop:=fun xs H Q=>∃p ns d,xs=[.ref p,.int d]/\H p=some (.lst (ns.map V.int))/\Q (.int (mxD d ns)) H
theorem TEd.mono' {K:Frag} {EX:XW} {fr:Bool} {f:DE->R D} {U:St} {H:Hp} {Q Q':VK} (h:TEd K EX fr f U H Q) (hq:∀v H',Q v H'->Q' v H'):TEd K EX fr f U H Q':=by obtain ⟨sx,ρ,H0,s,e,h⟩:=h;exact ⟨sx,ρ,H0,s,e,h.mono fun a k v H' o=>hq _ _ (k v H' o)⟩
section
variable {X:Cx} {EX:XW} {e d:Expr} {p kp pos:Pos} {x:Str} {t1 t2:TE} {f1 f2:DE->R D}
theorem vi (hc:X.calm=true) (hg:Gl X x) (hm:X.mg x=none) (hv:bootBuiltins x=some (.builtin "max")) (ha:PE X e t1) (hd:PE X d t2) (hn:x≠"__name__":=by decide) (hdb:(x==("__debug__":Str))=false:=by decide)
  (hs:starEach [e] X.env=(false,eval e X.env)::starEach [] X.env:=by rfl) :
  PE X (.Call (.Name x p) [e] [⟨some (Str.ofString "default"),d,kp⟩] pos) (tCB Hv (J8 t1 (J8 t2 O0))):=by
 intro pins s U H Q I h
 refine wpAny_Call_Name_kw (T6 I hg hm hv ?_ hn hdb)
 refine callWith_kw ?_ (by rw [hs];rfl) (by rw [hs];rfl)
 refine thn (G8 ha pa_nil hs pos pins s U H (fun vs H1=>t2 U H1 fun u H2=>Hv (vs++[u]) H2 Q) I h) fun us s1 ⟨vs,H1,I1,r1,q1⟩=>?_
 refine kws_cons (thn (hd pins s1 U H1 _ I1 q1) fun u s2 ⟨y,H2,I2,r2,q2⟩=>kws_nil ?_)
 obtain ⟨a,ns,i,e1,ea,q⟩:=q2
 obtain ⟨rfl,rfl⟩:vs=[.ref a]/\y=.int i:=by
  cases vs with
  | nil=>cases e1
  | cons b r=>
   cases r with
   | nil=>cases e1;exact ⟨rfl,rfl⟩
   | cons c r=>cases r<;>cases e1
 obtain ⟨u1,rfl,ru⟩:=A9 r1
 cases ru
 obtain ⟨t,rfl⟩:=r2
 obtain ⟨its,rv,pl,_⟩:=I2.list (.of ea)
 obtain ⟨m,hnn,_⟩:=id I2.loc
 refine vj (I2.ok.hd hc) (Att.fr_all hnn) (Dx (g:=Att.noObjs s2.heap) (L:=X.env.locals)) pl.isList (Gn rv) fun v h' tk F N hM=>?_
 rcases hM with ⟨rfl,rfl⟩ | ⟨M,t,rfl,hM,hle⟩
 . exact ⟨.int i,H2,I2.frn hnn F N,⟨_,rfl⟩,q⟩
 . cases ns with
   | nil=>cases hM
   | cons n ns=>
    obtain ⟨a1,a2⟩:=Z8 ns n
    have e:M=D4 n ns:=Int.le_antisymm (a2 M hM) (hle _ a1)
    exact ⟨.int M,H2,I2.frn hnn F N,⟨t,rfl⟩,by rw [e];exact q⟩
theorem vh {K:Frag}:A7 K false X5 Hv:=by
 intro H0 H xs ds z Q s r ho k;unfold X5 at ho;split at ho<;>first | cases ho | skip
 rename_i es i;cases hq:x6 es with
 | none=>rw [hq] at ho;cases ho
 | some ns=>
  rw [hq] at ho
  cases ho
  simp only [RDs] at r
  obtain ⟨x1,r1,rfl,q1,x2,r2,rfl,q2,rfl⟩:=r
  obtain ⟨a,ys,rfl,ha,ra⟩:=q1.lst
  have e:=Al hq ra
  subst e
  cases q2.int
  exact ⟨a,ns,i,rfl,s _ _ ha,k _ H (.pure s (.mkInt _))⟩
theorem kd (hc:X.calm=true) (hg:Gl X x) (hm:X.mg x=none) (hv:bootBuiltins x=some (.builtin "max")) (ha:QE X EX false e f1) (hd:QE X EX false d f2) (hn:x≠"__name__":=by decide) (hdb:(x==("__debug__":Str))=false:=by decide)
  (hs:starEach [e] X.env=(false,eval e X.env)::starEach [] X.env:=by rfl) :
  QE X EX false (.Call (.Name x p) [e] [⟨some (Str.ofString "default"),d,kp⟩] pos) (eCB X5 (d7 f1 (d7 f2 d9))):=
 ⟨(vi hc hg hm hv ha.h hd.h hn hdb hs).imp fun _ _ _ q=>(Dh (Gz vh q)).mono' fun _ _ q=>(Dh q).mono' fun _ _ q=>Hx q⟩
end
noncomputable def SR.thn (r:SR) (g:DS->SR):SR:=match r with
 | .nx ρ'=>g ρ'
 | r=>r
noncomputable def SR.out (fr:Bool) (r:SR):R D:=match r with
 | .rt d=>.ok d
 | .nx _=>if fr=true then .st else .ok .non
 | .er x=>.er x
 | _=>.st
theorem Fv (g1 g2:DS->SR) (ρ:DS):g8 g1 g2 ρ=(g1 ρ).thn g2:=rfl
theorem wq (ρ:DS) (g:DS->SR):(SR.nx ρ).thn g=g ρ:=rfl
theorem wo (d:D) (g:DS->SR):(SR.rt d).thn g=.rt d:=rfl
theorem zun (x:Ex) (g:DS->SR):(SR.er x).thn g=.er x:=rfl
theorem zuo (ρ:DS) (g:DS->SR):(SR.bk ρ).thn g=.bk ρ:=rfl
theorem zup (ρ:DS) (g:DS->SR):(SR.ct ρ).thn g=.ct ρ:=rfl
theorem zuq (g:DS->SR):(SR.st).thn g=.st:=rfl
theorem zqe (c:Prop) [Decidable c] (a b:SR) (g:DS->SR):(if c then a else b).thn g=if c then a.thn g else b.thn g:=by split<;>rfl
theorem Cv (fr:Bool) (n k:Nat) (g:DS->SR) (ds:List D):mOf fr n k g ds=if ds.length=n then (g (ds.map .im++List.replicate k .em)).out fr else .st:=rfl
theorem zur (fr:Bool) (d:D):(SR.rt d).out fr=.ok d:=rfl
theorem zus (ρ:DS):(SR.nx ρ).out false=.ok .non:=rfl
theorem zut (fr:Bool) (x:Ex):(SR.er x).out fr=.er x:=rfl
theorem zuu (fr:Bool):(SR.st).out fr=.st:=rfl
theorem zqf (fr:Bool) (c:Prop) [Decidable c] (a b:SR):(if c then a else b).out fr=if c then a.out fr else b.out fr:=by split<;>rfl
theorem zuv (m:List Bool) (f:DE->R D) (ρ:DS):j9 m f ρ=(f (vis m ρ)).toS fun d=>.rt d:=rfl
theorem zuw (fr:Bool) (i:Nat) (m:List Bool) (f:DE->R D) (ρ:DS):h9 fr i m f ρ=(f (vis m ρ)).toS fun d=>.nx (L7 fr i d (o9 (keeps fr d) m ρ)):=rfl
theorem zzk (t:DE->R Bool) (g1 g2:DS->SR) (ρ:DS):sIf t g1 g2 ρ=(t (see ρ)).toS fun b=>if b=true then g1 ρ else g2 ρ:=rfl
theorem P6 (a:α) (k:α->SR):R.toS (.ok a) k=k a:=rfl
theorem zux (x:Ex) (k:α->SR):R.toS (.er x:R α) k=.er x:=rfl
theorem zuy (k:α->SR):R.toS (.st:R α) k=.st:=rfl
theorem zqg (c:Prop) [Decidable c] (a b:R α) (k:α->SR):R.toS (if c then a else b) k=if c then R.toS a k else R.toS b k:=by split<;>rfl
theorem zqh (x:Ex) (k:α->R β):R.bind (.er x:R α) k=.er x:=rfl
theorem Kj (a:α):(R.ok a).noE=.ok a:=rfl
theorem zzl (m:List Bool):vis m []=[]:=by cases m<;>rfl
theorem zzm (s:Sl) (r:DS):vis [] (s::r)=s.see false::vis [] r:=rfl
theorem zzn (b:Bool) (m:List Bool) (s:Sl) (r:DS):vis (b::m) (s::r)=s.see b::vis m r:=rfl
theorem Jk:see []=[]:=rfl
theorem Jj (s:Sl) (r:DS):see (s::r)=s.see true::see r:=rfl
theorem zuz (b:Bool):Sl.see b .em=none:=rfl
theorem Ki (b:Bool) (d:D):Sl.see b (.im d)=some d:=rfl
theorem Ln (d:D):Sl.see true (.ow d)=some d:=rfl
theorem zqi (d:D):Sl.see false (.ow d)=none:=rfl
theorem zv0 (m:List Bool) (ρ:DS):o9 true m ρ=ρ:=rfl
theorem zll (fr:Bool) (i:Int):keeps fr (.int i)=true:=by cases fr<;>rfl
theorem zqj (fr:Bool) (i:Bool):keeps fr (.bl i)=true:=by cases fr<;>rfl
theorem zlm (fr:Bool):keeps fr .non=true:=by cases fr<;>rfl
theorem zln (fr:Bool) (x:PySem.Str):keeps fr (.str x)=true:=by cases fr<;>rfl
theorem zlo (fr:Bool) (ds:List D):keeps fr (.tup ds)=i9 ds:=by cases fr<;>simp only [keeps,D.noL,D.shal,if_true,Bool.false_eq_true,if_false]
theorem Vi (ds:List D):keeps true (.lst ds)=i9 ds:=rfl
theorem zv1:i9 []=true:=by simp only [i9]
theorem zv2 (d:D) (r:List D):i9 (d::r)=(d.noL&&i9 r):=by simp only [i9]
theorem xS (i:Int):(D.int i).noL=true:=by simp only [D.noL]
theorem zv3 (i:Bool):(D.bl i).noL=true:=by simp only [D.noL]
theorem zqk (i:PySem.Str):(D.str i).noL=true:=by simp only [D.noL]
theorem zql:(D.non).noL=true:=by simp only [D.noL]
theorem zqm (ds:List D):(D.tup ds).noL=i9 ds:=by simp only [D.noL]
theorem zqn (ds:List D):(D.lst ds).noL=false:=by simp only [D.noL]
theorem kc (i:Nat) (d:D) (ρ:DS):L7 false i d ρ=ρ.set i (.im d):=rfl
theorem zzo (i:Nat) (d:D) (ρ:DS):L7 true i d ρ=ρ.set i (.ow d):=rfl
theorem zzp (ρ:DE):sel [] ρ=[]:=rfl
theorem zzq (j:Nat) (r:List Nat) (ρ:DE):sel (j::r) ρ=(ρ[j]?).getD none::sel r ρ:=rfl
theorem y2q (d:D) (r:DE):d6 0 (some d::r)=.ok d:=rfl
theorem y2r (i:Nat) (d:Option D) (r:DE):d6 (i+1) (d::r)=d6 i r:=rfl
theorem zzr (g:Int->Int->D) (i j:Int):dI g (.int i) (.int j)=some (g i j):=rfl
theorem Db (C:Int->Int->Prop) [∀i j,Decidable (C i j)] (g:Int->Int->D) (i j:Int):dIC C g (.int i) (.int j)=if C i j then some (g i j) else none:=rfl
theorem zzs (b:Bool):asB (.bl b)=some b:=rfl
theorem znd (b:Bool):v4 (.bl b)=some b:=rfl
theorem zv5 (ds:List D):v4 (.lst ds)=some (!ds.isEmpty):=rfl
theorem zv6 (i:Int):v4 (.int i)=some (i != 0):=rfl
theorem U0 (i j:Int):(i==j)=decide (i=j):=by rw [Bool.eq_iff_iff];simp
theorem zv7 (i j:Int):dEq (.int i) (.int j)=some (.bl (decide (i=j))):=by unfold dEq;rw [ζ (by simp [D.pl,D.dep])];simp only [eqD,U0]
theorem zv8 (i j:Int):dNe (.int i) (.int j)=some (.bl (!decide (i=j))):=by unfold dNe;rw [ζ (by simp [D.pl,D.dep])];simp only [eqD,U0]
theorem zv9 (i j:Bool):dEq (.bl i) (.bl j)=some (.bl (i==j)):=by unfold dEq;rw [ζ (by simp [D.pl,D.dep])];simp only [eqD]
theorem zva (a b c e:Int):dEq (.tup [.int a,.int b]) (.tup [.int c,.int e])=some (.bl (decide (a=c)&&decide (b=e))):=by unfold dEq;rw [ζ (by simp [D.pl,D.dep,pls,o4])];simp only [eqD,r9,U0,Bool.and_true]
theorem zvb (a b c e:Int):dNe (.tup [.int a,.int b]) (.tup [.int c,.int e])=some (.bl (!(decide (a=c)&&decide (b=e)))):=by unfold dNe;rw [ζ (by simp [D.pl,D.dep,pls,o4])];simp only [eqD,r9,U0,Bool.and_true]
theorem wm (a:D) (r:List D):dIx (.tup (a::r)) (.int 0)=some a:=by simp only [dIx,dOr,z5,Yb]
theorem wl (a b:D) (r:List D):dIx (.tup (a::b::r)) (.int 1)=some b:=by simp only [dIx,dOr,z5,Xz]
theorem zvc (a b c:D) (r:List D):dIx (.tup (a::b::c::r)) (.int 2)=some c:=by simp only [dIx,dOr,z5,show atI (a::b::c::r) 2=some c from Dq (j:=2) rfl]
theorem zvd (a:D) (r:List D):dIx (.lst (a::r)) (.int 0)=some a:=by simp only [dIx,dOr,z5,Yb]
theorem zve (a b:D) (r:List D):dIx (.lst (a::b::r)) (.int 1)=some b:=by simp only [dIx,dOr,z5,Xz]
theorem Kb {ds:List D} {j:Nat} {d:D} (h:ds[j]?=some d):dIx (.lst ds) (.int (j:Int))=some d:=by simp only [dIx,dOr,z5,Dq h]
theorem jZ {ds:List D} {j:Nat} {d:D} (h:ds[j]?=some d):dIx (.tup ds) (.int (j:Int))=some d:=by simp only [dIx,dOr,z5,Dq h]
theorem zvg (ns:List Int):p8 [.scr ns]=some (.int ns.length):=rfl
theorem wj (ns:List D):p8 [.lst ns]=some (.int ns.length):=rfl
theorem zvh (ns:List D):p8 [.tup ns]=some (.int ns.length):=rfl
theorem zzt (b c:Bool):(if b=true then R.ok true else R.ok c)=R.ok (b||c):=by cases b<;>rfl
theorem zvi (b c:Bool):(if b=true then R.ok c else R.ok false)=R.ok (b&&c):=by cases b<;>rfl
theorem zvj (b c:Bool):(if b=true then R.ok (D.bl true) else R.ok (D.bl c))=R.ok (D.bl (b||c)):=by cases b<;>rfl
theorem zqo (b c:Bool):(if b=true then R.ok (D.bl c) else R.ok (D.bl false))=R.ok (D.bl (b&&c)):=by cases b<;>rfl
theorem zvk (i:Int):r8 "int" (.int i)=some (.bl true):=by simp [r8,D8,G7,G0]
theorem zvl (i:Int):r8 "bool" (.int i)=some (.bl false):=by simp [r8,D8,G7,G0]
theorem zvm (i:Bool):r8 "bool" (.bl i)=some (.bl true):=by simp [r8,D8,G7,G0]
theorem Sd (ds:List D):r8 "tuple" (.tup ds)=some (.bl true):=by simp [r8,D8,G7,G0]
theorem wg (ds:List D):r8 "list" (.lst ds)=some (.bl true):=by simp [r8,D8,G7,G0]
theorem Sc (tg:Tg) (g:DS->SR) (ρ:DS):w6 tg g [] ρ=.nx ρ:=rfl
noncomputable def SR.itr (r:SR) (k:DS->SR):SR:=match r with
 | .nx ρ2=>k ρ2
 | .ct ρ2=>k ρ2
 | .bk ρ2=>.nx ρ2
 | .rt d=>.rt d
 | .er x=>.er x
 | .st=>.st
theorem T8 (ρ:DS) (k:DS->SR):(SR.nx ρ).itr k=k ρ:=rfl
theorem zvn (ρ:DS) (k:DS->SR):(SR.ct ρ).itr k=k ρ:=rfl
theorem zvo (ρ:DS) (k:DS->SR):(SR.bk ρ).itr k=.nx ρ:=rfl
theorem zvp (d:D) (k:DS->SR):(SR.rt d).itr k=.rt d:=rfl
theorem zqp (c:Prop) [Decidable c] (a b:SR) (g:DS->SR):(if c then a else b).itr g=if c then a.itr g else b.itr g:=by split<;>rfl
theorem S9 (i:Nat) (g:DS->SR) (d:D) (ds:List D) (ρ:DS):w6 (.n i) g (d::ds) ρ=(g (ρ.set i (.im d))).itr (w6 (.n i) g ds):=by simp only [w6,S1,kc,SR.itr]<;>cases g (List.set ρ i (Sl.im d))<;>rfl
theorem zqq (bn:D->Option (List D)) (t:DE->R Bool) (f:DE->R D) (cs:DE):D9 bn t f cs []=.ok []:=rfl
theorem zqr (f:DE->R D) (cs:DE) (d:D) (ds:List D):D9 b1 A4 f cs (d::ds)=(f (some d::cs)).noE.bind fun y=>(D9 b1 A4 f cs ds).bind fun ys=>.ok (y::ys):=rfl
theorem V0 {bn:D->Option (List D)} {f:DE->R D} {cs:DE} {α:Type} {en:α->D} {bs:α->List D} {g:α->D} (xs:List α) (hb:∀x∈xs,bn (en x)=some (bs x)) (hf:∀x∈xs,f ((bs x).map some++cs)=.ok (g x)):D9 bn A4 f cs (xs.map en)=.ok (xs.map g):=by
 induction xs with
 | nil=>rfl
 | cons x xs ih=>
  simp only [List.map_cons,D9,hb x (by simp),A4,R.of_some,R.bind_ok,Kj,if_true,hf x (by simp),ih (fun y hy=>hb y (by simp [hy])) (fun y hy=>hf y (by simp [hy]))]
theorem U9 {bn:D->Option (List D)} {t:DE->R Bool} {f:DE->R D} {cs:DE} {α:Type} {en:α->D} {bs:α->List D} {p:α->Bool} {g:α->D} (xs:List α) (hb:∀x∈xs,bn (en x)=some (bs x)) (ht:∀x∈xs,t ((bs x).map some++cs)=.ok (p x)) (hf:∀x∈xs,p x=true->f ((bs x).map some++cs)=.ok (g x)):D9 bn t f cs (xs.map en)=.ok ((xs.filter p).map g):=by
 induction xs with
 | nil=>rfl
 | cons x xs ih=>
  have ih':=ih (fun y hy=>hb y (by simp [hy])) (fun y hy=>ht y (by simp [hy])) (fun y hy=>hf y (by simp [hy]))
  simp only [List.map_cons,D9,hb x (by simp),ht x (by simp),R.of_some,R.bind_ok,Kj,ih']
  cases e:p x with
  | true=>simp only [if_true,hf x (by simp) e,Kj,R.bind_ok,List.filter_cons,e,List.map_cons]
  | false=>simp only [Bool.false_eq_true,if_false,List.filter_cons,e]
theorem Ty {tg:Tg} {g:DS->SR} {α:Type} {en:α->D} (P:List α->DS->Prop) (xs:List α) (ρ:DS) (h0:P xs ρ) (hs:∀x r ρ,P (x::r) ρ->∃ρ1 ρ2,S1 tg (en x) ρ=some ρ1/\(g ρ1=.nx ρ2\/g ρ1=.ct ρ2)/\P r ρ2):∃ρ',w6 tg g (xs.map en) ρ=.nx ρ'/\P [] ρ':=by
 induction xs generalizing ρ with
 | nil=>exact ⟨ρ,rfl,h0⟩
 | cons x r ih=>
  obtain ⟨ρ1,ρ2,e1,e2,q⟩:=hs x r ρ h0
  obtain ⟨ρ',e',p'⟩:=ih ρ2 q
  refine ⟨ρ',?_,p'⟩
  rcases e2 with e2 | e2<;>simp only [List.map_cons,w6,e1,e2,e']
noncomputable def L (ns:List Int):D:=.lst (ns.map .int)
theorem Af (f:α->D) (xs:List α) (h:∀x∈xs,(f x).noL=true):i9 (xs.map f)=true:=by
 induction xs with
 | nil=>simp only [List.map_nil,i9]
 | cons a r ih=>simp only [List.map_cons,i9,h a (by simp),ih fun x hx=>h x (by simp [hx]),Bool.and_self]
theorem zvq (ns:List Int):keeps true (L ns)=true:=by unfold L;rw [Vi];exact Af _ _ fun x _=>xS x
theorem zzu (ns:List Int):p8 [L ns]=some (.int ns.length):=by unfold L;rw [wj,List.length_map]
theorem zvr (ns:List Int):O5 [L ns]=some (L ns):=rfl
theorem zzv (ns:List Int):r8 "list" (L ns)=some (.bl true):=wg _
theorem zqs (ns:List Int):items (L ns)=some (ns.map .int):=rfl
theorem Gr (h0:0<=x) (h1:x.toNat<ns.length):dIx (L ns) (.int x)=some (.int (ns.getD x.toNat 0)):=by
 have e:(ns.map D.int)[x.toNat]?=some (.int (ns.getD x.toNat 0)):=by rw [List.getElem?_map,List.getElem?_eq_getElem h1,List.getD_eq_getElem?_getD,List.getElem?_eq_getElem h1];rfl
 have:=Kb e;rwa [show ((x.toNat:Nat):Int)=x by lia] at this
theorem Yv (h:ns.length<100000):A3 (L ns) [.int x]=some (L (ns++[x])):=by simp only [L,A3,List.length_map,h,if_true,List.map_append,List.map_cons,List.map_nil]
theorem y2s (ns:List Int) (lo hi:Option Int):dSl (L ns) lo hi=some (L (x8 ns lo hi)):=by simp only [L,dSl,x8,List.length_map,List.map_take,List.map_drop]
theorem zvs (ns:List Int) (lo hi:Option Int):dSl (.scr ns) lo hi=some (L (x8 ns lo hi)):=rfl
theorem zzy (ns:List Int):J4 [L ns]=some (.int ns.sum):=by simp only [L,J4,Ml,Option.map_some]
theorem X4 (ns:List Int):(L ns).dep<=1/\(L ns).pl=true:=by
 have:∀ns:List Int,o4 (ns.map D.int)=0/\pls (ns.map D.int)=true:=fun ns=>by
  induction ns with
  | nil=>simp only [List.map_nil,o4,pls,and_self]
  | cons a r ih=>simp only [List.map_cons,o4,pls,D.dep,D.pl,ih.1,ih.2,Bool.and_self,Nat.max_self,and_self]
 simp only [L,D.dep,D.pl,this];exact ⟨by lia,trivial⟩
theorem Ka:∀(a b:List Int),r9 (a.map D.int) (b.map D.int)=decide (a=b)
 | [],[]=>by simp [r9]
 | [],_::_=>by simp [r9]
 | _::_,[]=>by simp [r9]
 | x::a,y::b=>by simp only [List.map_cons,r9,eqD,Ka a b,List.cons.injEq,Bool.decide_and,U0]
theorem y2t (a b:List Int):dEq (L a) (L b)=some (.bl (decide (a=b))):=by unfold dEq;rw [ζ ⟨(X4 a).2,(X4 b).2,by have:=(X4 a).1;lia⟩];simp only [L,eqD,Ka]
theorem y2u (a b:List Int):dNe (L a) (L b)=some (.bl (!decide (a=b))):=by unfold dNe;rw [ζ ⟨(X4 a).2,(X4 b).2,by have:=(X4 a).1;lia⟩];simp only [L,eqD,Ka]
theorem zzz (ns:List Int):isT "list" (L ns)=true:=by simp only [L,isT,beq_self_eq_true]
theorem zvt (m:List Bool) (ρ:DS):o9 false m ρ=frz m ρ:=rfl
theorem y00 (ρ:DS):frz [] ρ=ρ:=by cases ρ<;>rfl
theorem y01 (m:List Bool):frz m []=[]:=by cases m<;>rfl
theorem y02 (b:Bool) (m:List Bool) (s:Sl) (r:DS):frz (b::m) (s::r)=s.frz b::frz m r:=rfl
theorem zvu (b:Bool) (d:D):Sl.frz b (.im d)=.im d:=rfl
theorem zvv (b:Bool):Sl.frz b .em=.em:=rfl
theorem zqt (d:D):Sl.frz false (.ow d)=.ow d:=rfl
theorem zqu (d:D):Sl.frz true (.ow d)=.im d:=rfl
theorem Hu (h:-(2 ^ 64)<i/\i<2 ^ 64):W2 (.int i) (.int j)=some (.int (i * j)):=by unfold W2;rw [Db,ζ (show CMul i j from Or.inl h)]
theorem x9 (h:0<j):n6 (.int i) (.int j)=some (.int (i % j)):=by unfold n6;rw [Db,ζ h]
theorem X3 (h:0<j/\j<1073741824):v5 (.int i) (.int j)=some (.int (i / j)):=by unfold v5;rw [Db,ζ (show R9 i j from h)]
theorem zvw (i:Int):R.of (match D.int i with | .int i=>some (some i) | _=>none)=R.ok (some i):=rfl
theorem vg (hj:-100000<=j/\j<=100000):-(2 ^ 62)<=j/\j<2 ^ 62:=by lia
theorem Ht (j:Int) (hj:-100000<=j/\j<=100000) (h:fs ρ=.ok [.int j]):R5 fs ρ=.ok (zD 0 j.toNat):=by unfold R5;rw [h,R.bind_ok];show R.of (if _ then _ else _)=_;rw [ζ (vg hj)];rfl
theorem zqy (ds:List D):items (.lst ds)=some ds:=rfl
theorem zqz (ds:List D):items (.tup ds)=some ds:=rfl
theorem Py (lo:Int) (n:Nat):(zD lo n).length=n:=by simp [zD]
theorem zr (ds:List D):keeps false (.lst ds)=false:=by simp only [keeps,D.noL,Bool.false_eq_true,if_false]
theorem zr0 (ns:List Int):keeps false (L ns)=false:=zr _
noncomputable def T2 (p:Int×Int):D:=.tup [.int p.1,.int p.2]
noncomputable def T3 (p:Int×Int×Int):D:=.tup [.int p.1,.int p.2.1,.int p.2.2]
theorem Gj (h:ois l'=true) (p:l.Perm l'):y6 l=y6 l':=
 Gg (Gh ((Q2 l).trans p) h) (((Q2 l).trans p).trans (Q2 l').symm) (Dy (Gh p h)) (Dy h)
noncomputable def insB {α:Type} (lt:α->α->Bool) (d:α):List α->List α
 | []=>[d]
 | e::r=>if lt e d=true then e::insB lt d r else d::e::r
def sortB {α:Type} (lt:α->α->Bool):List α->List α
 | []=>[]
 | d::r=>insB lt d (sortB lt r)
section
variable {α:Type} (f:α->D)
theorem Tx (d:α):∀l:List α,L0 (f d) (l.map f)=(insB (fun a b=>ltT (f a) (f b)) d l).map f
 | []=>rfl
 | e::r=>by
  simp only [List.map_cons,L0,insB];split
  . rw [List.map_cons,Tx d r]
  . rfl
theorem Gi:∀l:List α,y6 (l.map f)=(sortB (fun a b=>ltT (f a) (f b)) l).map f
 | []=>rfl
 | d::r=>by simp only [List.map_cons,y6,sortB,Gi r,Tx]
variable (lt:α->α->Bool)
theorem Us (d:α):∀l:List α,(insB lt d l).Perm (d::l)
 | []=>.refl _
 | e::r=>by
  unfold insB;split
  . exact ((Us d r).cons e).trans (.swap d e r)
  . exact .refl _
theorem Gk:∀l:List α,(sortB lt l).Perm l
 | []=>.refl _
 | d::r=>(Us lt d (sortB lt r)).trans ((Gk r).cons d)
end
def so2 (ls:List (Int×Int)):List (Int×Int):=sortB (fun a b=>ltT (T2 a) (T2 b)) ls
def so3 (ls:List (Int×Int×Int)):List (Int×Int×Int):=sortB (fun a b=>ltT (T3 a) (T3 b)) ls
def soI (ls:List Int):List Int:=sortB (fun a b=>ltT (.int a) (.int b)) ls
theorem Dn (ls:List (Int×Int)):y6 (ls.map T2)=(so2 ls).map T2:=Gi _ _
theorem Fy (ls:List (Int×Int×Int)):y6 (ls.map T3)=(so3 ls).map T3:=Gi _ _
theorem Dm (ls:List Int):y6 (ls.map D.int)=(soI ls).map D.int:=Gi _ _
theorem C1 (ls:List (Int×Int)):(so2 ls).Perm ls:=Gk _ _
theorem U6 (ls:List (Int×Int×Int)):(so3 ls).Perm ls:=Gk _ _
theorem Lm (ls:List Int):(soI ls).Perm ls:=Gk _ _
theorem C9 (xs:List α) (f:α->D) (p:D->Bool) (h:∀x,p (f x)=true):(xs.map f).all p=true:=by rw [List.all_eq_true];intro d hd;obtain ⟨x,_,rfl⟩:=List.mem_map.mp hd;exact h x
theorem M5 (xs:List α) (f:α->D) (h:∀x,(f x).oi=true):ois (xs.map f)=true:=
 ois_mem.mpr fun d hd=>by obtain ⟨x,_,rfl⟩:=List.mem_map.mp hd;exact h x
theorem M8 (xs:List α) (f:α->D) (n:Nat) (h:∀x,(f x).dep<=n):o4 (xs.map f)<=n:=by
 induction xs with
 | nil=>simp only [List.map_nil,o4,Nat.zero_le]
 | cons a r ih=>simp only [List.map_cons,o4];have:=h a;lia
theorem Jz (xs:List α) (f:α->D) (h:∀x,(f x).pl=true):pls (xs.map f)=true:=by
 induction xs with
 | nil=>simp only [List.map_nil,pls]
 | cons a r ih=>simp only [List.map_cons,pls,h a,ih,Bool.and_self]
theorem Fc (p:Int×Int):(T2 p).oi=true:=by simp [T2,D.oi,ois]
theorem Hs (p:Int×Int×Int):(T3 p).oi=true:=by simp [T3,D.oi,ois]
theorem Eh (p:Int):(D.int p).oi=true:=by simp [D.oi]
theorem P4 (p:Int×Int):(T2 p).dep<=1:=by simp [T2,D.dep,o4]
theorem Px (p:Int×Int×Int):(T3 p).dep<=1:=by simp [T3,D.dep,o4]
theorem S2 (p:Int×Int):(T2 p).pl=true:=by simp [T2,D.pl,pls]
theorem T7 (p:Int×Int):(T2 p).noL=true:=by simp [T2,D.noL,i9]
theorem wf (p:Int×Int×Int):(T3 p).noL=true:=by simp [T3,D.noL,i9]
theorem Pw (p q:Int×Int):(j6 (T2 p) (T2 q)).isSome=true:=by simp only [T2,j6,v9];repeat (first | rfl | split)
theorem Pv (p q:Int×Int×Int):(j6 (T3 p) (T3 q)).isSome=true:=by simp only [T3,j6,v9];repeat (first | rfl | split)
theorem y03 (p q:Int):(j6 (.int p) (.int q)).isSome=true:=by simp only [j6];rfl
theorem xR (ls:List (Int×Int)) (h:ls.length<64):T1 (ls.map T2)=true:=by unfold T1;rw [List.length_map,decide_eq_true h,M5 _ _ Fc,decide_eq_true (Nat.le_trans (M8 ls T2 1 P4) (by decide)),C9 ls T2 (fun d=>(ls.map T2).all fun e=>(j6 d e).isSome) (fun x=>C9 _ _ _ fun y=>Pw x y),C9 ls T2 E1 (fun x=>rfl)];simp
theorem xQ (ls:List (Int×Int×Int)) (h:ls.length<64):T1 (ls.map T3)=true:=by unfold T1;rw [List.length_map,decide_eq_true h,M5 _ _ Hs,decide_eq_true (Nat.le_trans (M8 ls T3 1 Px) (by decide)),C9 ls T3 (fun d=>(ls.map T3).all fun e=>(j6 d e).isSome) (fun x=>C9 _ _ _ fun y=>Pv x y),C9 ls T3 E1 (fun x=>rfl)];simp
theorem wI (ls:List Int) (h:ls.length<64):T1 (ls.map D.int)=true:=by unfold T1;rw [List.length_map,decide_eq_true h,M5 _ _ Eh,decide_eq_true (Nat.le_trans (M8 ls D.int 1 (fun x=>by simp [D.dep])) (by decide)),C9 ls D.int (fun d=>(ls.map D.int).all fun e=>(j6 d e).isSome) (fun x=>C9 _ _ _ fun y=>y03 x y),C9 ls D.int isI (fun x=>rfl)];simp
theorem sorted_T2 (ls:List (Int×Int)) (h:ls.length<64):Z9 [.lst (ls.map T2)]=some (.lst ((so2 ls).map T2)):=by simp only [Z9,xR ls h,if_true,Dn]
theorem sorted_T3 (ls:List (Int×Int×Int)) (h:ls.length<64):Z9 [.lst (ls.map T3)]=some (.lst ((so3 ls).map T3)):=by simp only [Z9,xQ ls h,if_true,Fy]
theorem sorted_I (ls:List Int) (h:ls.length<64):Z9 [L ls]=some (L (soI ls)):=by simp only [L,Z9,wI ls h,if_true,Dm]
theorem jY (h:T3 p=T3 q):p=q:=by obtain ⟨a,b,c⟩:=p;obtain ⟨a',b',c'⟩:=q;simp only [T3,D.tup.injEq,List.cons.injEq,D.int.injEq,and_true] at h;simp only [Prod.mk.injEq];exact h
theorem Pu (h:T2 p=T2 q):p=q:=by obtain ⟨a,b⟩:=p;obtain ⟨a',b'⟩:=q;simp only [T2,D.tup.injEq,List.cons.injEq,D.int.injEq,and_true] at h;simp only [Prod.mk.injEq];exact h
theorem Ae {α β:Type} {f:α->β} (hf:∀x y,f x=f y->x=y):∀{a b:List α},a.map f=b.map f->a=b
 | [],[],_=>rfl
 | [],_::_,h=>by simp at h
 | _::_,[],h=>by simp at h
 | x::a,y::b,h=>by simp only [List.map_cons,List.cons.injEq] at h;rw [hf _ _ h.1,Ae hf h.2]
theorem Tw (p:a.Perm b):so3 a=so3 b:=by have:=Gj (M5 b T3 Hs) (p.map T3);rw [Fy,Fy] at this;exact Ae (fun _ _=>jY) this
theorem U5 (p:a.Perm b):so2 a=so2 b:=by have:=Gj (M5 b T2 Fc) (p.map T2);rw [Dn,Dn] at this;exact Ae (fun _ _=>Pu) this
theorem Jx (h1:∀y∈ys,y<=m) (h2:m∈ys\/(ys=[]/\d=m)):mxD d ys=m:=by
 cases ys with
 | nil=>
  rcases h2 with h2 | h2
  . cases h2
  . exact h2.2
 | cons n ns=>
  rcases h2 with h2 | h2
  . obtain ⟨a,b⟩:=Z8 ns n;exact Int.le_antisymm (h1 _ a) (b _ h2)
  . cases h2.1
theorem y04 (ds:List D):isT "list" (.lst ds)=true:=by simp only [isT,beq_self_eq_true]
theorem y05 (b:Bool):W0 [.bl b]=some (.int (if b then 1 else 0)):=rfl
theorem y06 (i:Int):W0 [.int i]=some (.int i):=rfl
theorem zvy (ds:List D):O5 [.tup ds]=some (.lst ds):=rfl
theorem zvz (ds:List D):O5 [.lst ds]=some (.lst ds):=rfl
theorem zr2 (ds:List D):E6 [.lst ds]=some (.tup ds):=rfl
theorem zr3 (ds:List D):E6 [.tup ds]=some (.tup ds):=rfl
theorem Vh (ls:List (Int×Int)):i9 (ls.map T2)=true:=Af _ _ fun x _=>T7 x
theorem zlr (ls:List (Int×Int×Int)):i9 (ls.map T3)=true:=Af _ _ fun x _=>wf x
theorem jX (h:ls.length<100000):A3 (.lst (ls.map T2)) [.tup [.int a,.int b]]=some (.lst ((ls++[(a,b)]).map T2)):=by simp only [A3,List.length_map,h,if_true,List.map_append,List.map_cons,List.map_nil];rfl
theorem jW (ls:List (Int×Int)):(D.tup (ls.map T2)).pl=true/\(D.tup (ls.map T2)).dep<=20:=by have:=M8 ls T2 1 P4;simp only [D.pl,D.dep,Jz ls T2 S2,true_and];lia
theorem Jw (p q:Int×Int):eqD (T2 p) (T2 q)=decide (p=q):=by obtain ⟨a,b⟩:=p;obtain ⟨c,d⟩:=q;simp only [T2,eqD,r9,U0,Bool.and_true,Prod.mk.injEq,Bool.decide_and]
theorem Jv (p:Int×Int) (ls:List (Int×Int)):dIn false (T2 p) (.tup (ls.map T2))=some (.bl (decide (p∈ls))):=by
 have h1:=M8 ls T2 1 P4;have e:(ls.map T2).any (fun e=>eqD e (T2 p))=decide (p∈ls):=by
  rw [List.any_map,Bool.eq_iff_iff,List.any_eq_true,decide_eq_true_eq];constructor
  . rintro ⟨x,hx,h⟩;simp only [Function.comp,Jw,decide_eq_true_eq] at h;rw [<-h];exact hx
  . intro h;exact ⟨p,h,by simp only [Function.comp,Jw,decide_true]⟩
 unfold dIn dOr R7;simp only [S2,Jz ls T2 S2,true_and,ζ (show o4 (ls.map T2)<=20 by lia),e,Bool.false_eq_true,if_false]
theorem Np (x:Int) (t:Int×Int×Int):dIn false (.int x) (T3 t)=some (.bl (decide (x=t.1)||(decide (x=t.2.1)||decide (x=t.2.2)))):=by unfold dIn dOr R7;simp only [T3,D.pl,pls,o4,D.dep,Bool.and_self,Nat.max_self,true_and,Nat.zero_le,if_true,List.any_cons,List.any_nil,Bool.or_false,eqD,U0,Bool.false_eq_true,if_false];simp only [show ∀a b:Int,decide (a=b)=decide (b=a) from fun a b=>by rw [Bool.eq_iff_iff];simp [eq_comm]]
theorem zw3 (t:Int×Int×Int):J4 [T3 t]=some (.int (t.1+(t.2.1+(t.2.2+0)))):=by simp only [T3,J4,x6,Option.map_some,List.sum_cons,List.sum_nil]
theorem zw4 (t:Int×Int):J4 [T2 t]=some (.int (t.1+(t.2+0))):=by simp only [T2,J4,x6,Option.map_some,List.sum_cons,List.sum_nil]
theorem zw5 (t:Int×Int×Int):r8 "tuple" (T3 t)=some (.bl true):=Sd _
theorem zw6 (t:Int×Int):r8 "tuple" (T2 t)=some (.bl true):=Sd _
theorem zw7 (t:Int×Int):p8 [T2 t]=some (.int 2):=rfl
theorem y07 (t:Int×Int):dIx (T2 t) (.int 0)=some (.int t.1):=wm _ _
theorem y08 (t:Int×Int):dIx (T2 t) (.int 1)=some (.int t.2):=wl _ _ _
theorem zls (t:Int×Int×Int):items (T3 t)=some [.int t.1,.int t.2.1,.int t.2.2]:=rfl
theorem Fo (a b:List (Int×Int)) (h:a.length+b.length<=100000):A6 (.lst (a.map T2)) (.lst (b.map T2))=some (.lst ((a++b).map T2)):=by simp only [A6,List.length_map,h,if_true,List.map_append]
structure FunD (K:Frag) (x qual:Str) (st:Stmt) (dV:Value) (f:Addr) (fd:FuncData):Prop where
 ex:∃(oc:Value) (od:Option Addr) (kV doc pm:Value) (an:Option Addr) (cdv ct:Value) (osl:Array (Option Value)),
  fd=PySem.W.fnOf x qual (m7 st) (j7 st) (g7 st) dV kV doc pm an cdv ct/\K.lookup f=some ⟨oc,od,.func fd,osl⟩/\codeIn K cdv qual=true
 kp:keepIn K (.ref f)=true
def Xq (P:Program) (w:World) (K:Frag) (mg:Str->Option Value) (base:Heap) (x:Str) (ps:List Str) (k:Nat) (sp:Sp) (i:Int):Prop:=
 ∃f fd t,FnOk P w K mg base (CX1 P w) k f fd ps sp/\Binds K fd ps [.int i t]/\mg x=some (.ref f)/\keepIn K (.ref f)=true
section
variable {P:Program} {w:World} {K:Frag} {mg:Str->Option Value} {base:Heap}
theorem FunD.okX {x qual:Str} {st:Stmt} {dV:Value} {f:Addr} {fd:FuncData} {N ps:List Str} {k:Nat} {sp:Sp} {CX:CXT} (F:FunD K x qual st dV f fd) (S:FnScope N ps (g7 st)) (len:∀vs H Q E,sp vs H Q E->vs.length=ps.length)
  (hbody:∀(cdv:Value) (A:Around) (outer:List Env) (s:Shared) (H:Hp) (vs:List V) (Q:VK) (E:XK),Room k (A.deeper (envOfC qual (g7 st) s.heap.objs.size f cdv))->sp vs H Q E ->
   ∃t,PSs (E3 CX P w K mg base N qual (g7 st) f cdv A outer s H E) (j7 st) t/\t { nx:=fun _ H'=>Q .non H',rt:=Q } (z8 N vs) H):FnOk P w K mg base CX (k+1) f fd ps sp:=by
 obtain ⟨oc,od,kV,doc,pm,an,cdv,ct,osl,rfl,lk,hcd⟩:=F.ex
 refine Jh lk hcd S len fun A outer s H vs Q E hr hsp=>?_
 exact hbody cdv A outer s H vs Q E hr hsp
theorem y2v {x qual:Str} {st:Stmt} {dV:Value} {f:Addr} {fd:FuncData} {N ps:List Str} {k n kk:Nat} {fr:Bool} {g:DS->SR} (F:FunD K x qual st dV f fd) (S:FnScope N ps (g7 st)) (hps:ps.length=n) (hN:N.length=n+kk)
  (hbody:∀(cdv:Value) (A:Around) (outer:List Env) (s:Shared) (H:Hp) (E:XK),Room k (A.deeper (envOfC qual (g7 st) s.heap.objs.size f cdv)) ->
   QB (E3 (CX1 P w) P w K mg base N qual (g7 st) f cdv A outer s H E) ⟨H,xNm K mg E⟩ fr (j7 st) g):FnOk P w K mg base (CX1 P w) (k+1) f fd ps (spD K mg fr (mOf fr n kk g) n):=by
 have hlen:∀{vs:List V} {H:Hp} {Q:VK} {E:XK},spD K mg fr (mOf fr n kk g) n vs H Q E->vs.length=n:=fun {vs H Q E} h=>by obtain ⟨ds,H0,s,r,hn,_⟩:=h;rw [<-r.length];exact hn
 refine F.okX S (fun vs H Q E h=>by rw [hlen h,hps]) (fun cdv A outer s H vs Q E hr h=>⟨_,(hbody cdv A outer s H E hr).h,?_⟩)
 have e:z8 N vs=vs.map some++List.replicate kk none:=by unfold z8;rw [hlen h,hN,Nat.add_sub_cancel_left]
 rw [e]
 exact Qm h
theorem FunD.binds {x qual:Str} {st:Stmt} {f T:Addr} {fd:FuncData} {ps:List Str} {ds:List Value} {dv:Value} {oc:Value} {od:Option Addr} {n:Nat} {sl:Array (Option Value)} (F:FunD K x qual st (.ref T) f fd) (t:K.lookup T=some ⟨oc,od,.seq #[dv] n,sl⟩) (m:Nat) (hm:m+ds.length=ps.length)
  (h:∀(kV doc pm:Value) (an:Option Addr) (cdv ct:Value) (us:List Value),us.length=m->∃k,bindArgs (PySem.W.fnOf x qual (m7 st) (j7 st) (g7 st) (.ref T) kV doc pm an cdv ct) ⟨us,[]⟩=seqItems? (.ref T) >>= k/\k (some #[dv])=pure (ps.zip (us++ds))):Binds K fd ps ds:=by
 obtain ⟨oc',od',kV,doc,pm,an,cdv,ct,osl,rfl,lk,hcd⟩:=F.ex
 intro s us hK hl
 obtain ⟨k,e1,e2⟩:=h kV doc pm an cdv ct us (by rw [χ] at hl;lia)
 exact PySem.W.binds_K hK rfl t rfl e1 e2
theorem vf {x qual:Str} {st:Stmt} {f:Addr} {oc dV:Value} {od an:Option Addr} {osl:Array (Option Value)} {kV doc pm cdv ct:Value} (l:K.lookup f=some ⟨oc,od,.func (PySem.W.fnOf x qual (m7 st) (j7 st) (g7 st) dV kV doc pm an cdv ct),osl⟩)
 (c:codeIn K cdv qual=true) (k:keepIn K (.ref f)=true):FunD K x qual st dV f (PySem.W.fnOf x qual (m7 st) (j7 st) (g7 st) dV kV doc pm an cdv ct):=⟨⟨oc,od,kV,doc,pm,an,cdv,ct,osl,rfl,l,c⟩,k⟩
end
theorem Sb:∀{xs:List V} {us:List Value},xs.length=us.length->(∀(i:Nat) x u,xs[i]?=some x->us[i]?=some u->RelV x u)->Vals xs us
 | [],[],_,_=>.nil
 | [],_::_,h,_=>by simp at h
 | _::_,[],h,_=>by simp at h
 | x::xs,u::us,h,k=>.cons (k 0 x u rfl rfl) (Sb (by simpa using h) fun i y v a b=>k (i+1) y v (by simpa using a) (by simpa using b))
def No (i j:Int):Prop:=0<j/\j<2 ^ 200
instance (i j:Int):Decidable (No i j):=by unfold No;infer_instance
noncomputable def hid (as:List Addr) (H:Hp):Hp:=fun b=>if b∈as then none else H b
theorem jV (h:a∈as):hid as H a=none:=ζ h
theorem Sa (h:a∉as):hid as H a=H a:=ξ h
theorem Kt {α:Type} {l:List α} {i j:Nat} {x y:α} (h:(l.set i x)[j]?=some y):(i=j/\x=y)\/(i≠j/\l[j]?=some y):=by
 by_cases e:i=j
 . subst e;by_cases hl:i<l.length
   . rw [List.getElem?_set_self hl] at h;exact .inl ⟨rfl,Option.some.inj h⟩
   . rw [List.getElem?_eq_none (by rw [List.length_set];lia)] at h;cases h
 . rw [List.getElem?_set_ne e] at h;exact .inr ⟨e,h⟩
mutual
noncomputable def D.ob:D->Bool
 | .int _=>true
 | .bl _=>true
 | .tup ds=>obs ds
 | _=>false
noncomputable def obs:List D->Bool
 | []=>true
 | d::ds=>d.ob&&obs ds
end
mutual
noncomputable def nkD:D->Option NK
 | .int n=>some (.i n)
 | .tup ds=>(J2 ds).map .t
 | _=>none
noncomputable def J2:List D->Option (List NK)
 | []=>some []
 | d::ds=>match nkD d,J2 ds with
  | some k,some ks=>some (k::ks)
  | _,_=>none
end
mutual
theorem Pt {K:Frag} {H:Hp}:∀{d:D} {k:NK} {x:V},nkD d=some k->RD K H d x->NKr H k x
 | .int n,k,x,e,r=>by simp only [nkD,Option.some.injEq] at e;subst e;cases r.int;simp only [NKr]
 | .tup ds,k,x,e,r=>by simp only [nkD,Option.map_eq_some_iff] at e;obtain ⟨ks,e,rfl⟩:=e;obtain ⟨a,xs,rfl,ha,ra⟩:=r.tup;simp only [NKr];exact ⟨a,xs,rfl,ha,Ks e ra⟩
 | .non,_,_,e,_=>by simp [nkD] at e
 | .bl _,_,_,e,_=>by simp [nkD] at e
 | .str _,_,_,e,_=>by simp [nkD] at e
 | .lst _,_,_,e,_=>by simp [nkD] at e
 | .dk _ _,_,_,e,_=>by simp [nkD] at e
 | .dt _ _,_,_,e,_=>by simp [nkD] at e
 | .dn _ _,_,_,e,_=>by simp [nkD] at e
 | .scr _,_,_,e,_=>by simp [nkD] at e
 | .exc _ _,_,_,e,_=>by simp [nkD] at e
 | .obj _ _,_,_,e,_=>by simp [nkD] at e
 | .dp _ _,_,_,e,_=>by simp [nkD] at e
theorem Ks {K:Frag} {H:Hp}:∀{ds:List D} {ks:List NK} {xs:List V},J2 ds=some ks->RDs K H ds xs->NKrs H ks xs
 | [],ks,xs,e,r=>by simp only [J2,Option.some.injEq] at e;subst e;simp only [RDs] at r;subst r;simp only [NKrs]
 | d::ds,ks,xs,e,r=>by
  simp only [RDs] at r;obtain ⟨x,r,rfl,r1,r2⟩:=r;simp only [J2] at e;split at e
  . rename_i k ks' e1 e2;cases e;simp only [NKrs];exact ⟨x,_,rfl,Pt e1 r1,Ks e2 r2⟩
  . cases e
end
noncomputable def z3 (qs:List (NK×Addr)) (vs:List Value):List (NK×Addr×Value):=(qs.zip vs).map fun q=>(q.1.1,q.1.2,q.2)
def Nn (i j:Int):Prop:=Builtin.Int.intBits i<=2 ^ 20/\Builtin.Int.intBits j<=2 ^ 20
instance (i j:Int):Decidable (Nn i j):=by unfold Nn;infer_instance
section
open PySem.SeqAt
open PySem.AutoSeq1 (wpAny_loadPart')
open PySem.MeetsSeq PySem.MeetsSeq2 PySem.MeetsSeq3
end
end L2
namespace L2
open PySem PySem.Spec PyProof.Rows
section
open PySem.SeqAt
open PySem.AutoSeq1 (wpAny_loadPart')
end
mutual
noncomputable def X2:NK->D
 | .i n=>.int n
 | .t ks=>.tup (S8 ks)
noncomputable def S8:List NK->List D
 | []=>[]
 | k::ks=>X2 k::S8 ks
end
mutual
theorem y09 {K:Frag} {H:Hp}:∀{k:NK} {x:V},NKr H k x->RD K H (X2 k) x
 | .i n,x,h=>by simp only [NKr] at h;subst h;simp only [X2,RD]
 | .t ks,x,h=>by simp only [NKr] at h;obtain ⟨a,xs,rfl,ha,hs⟩:=h;simp only [X2,RD];exact ⟨a,xs,rfl,ha,Ju hs⟩
theorem Ju {K:Frag} {H:Hp}:∀{ks:List NK} {xs:List V},NKrs H ks xs->RDs K H (S8 ks) xs
 | [],xs,h=>by simp only [NKrs] at h;subst h;simp only [S8,RDs]
 | k::ks,xs,h=>by simp only [NKrs] at h;obtain ⟨x,r,rfl,h1,h2⟩:=h;simp only [S8,RDs];exact ⟨x,r,rfl,y09 h1,Ju h2⟩
end
end L2
namespace L2
open PySem PySem.Spec PyProof.Rows
section
open PySem.SeqAt
open PySem.AutoSeq1 (wpAny_loadPart')
end
end L2
namespace L2
open PySem PySem.Spec PyProof.Rows
section
open PySem.SeqAt
open PySem.AutoSeq1 (wpAny_loadPart')
end
end L2
namespace L2
open PySem PySem.Spec PyProof.Rows
section
open PySem.SeqAt
open PySem.AutoSeq1 (wpAny_loadPart')
end
section
open PySem.SeqAt
open PySem.AutoSeq1 (wpAny_loadPart')
end
end L2
namespace L2
open PySem PySem.Spec PyProof.Rows
def y0a (i j:Int):Prop:=0<j/\j.natAbs<2 ^ 9000
noncomputable instance (i j:Int):Decidable (y0a i j):=Classical.propDecidable _
section
open PySem.SeqAt
open PySem.AutoSeq1 (wpAny_loadPart')
end
end L2
namespace L2
open PySem PySem.Spec PyProof.Rows
def Keep (h h':Heap):Prop:=∀b o,h.get? b=some o->h'.get? b=some o
theorem Keep.trans (x:Keep a b) (y:Keep b c):Keep a c:=fun q o e=>y q o (x q o e)
section
open HT
open PySem.SeqAt
open PySem.AutoSeq1 (wpAny_loadPart')
open PySem.MeetsSeq PySem.MeetsSeq2 PySem.MeetsSeq3
end
end L2
namespace L2
open PySem PySem.Spec PyProof.Rows
end L2
set_option maxHeartbeats 1000000
namespace L2
open PySem PySem.Spec PyProof.Rows
theorem RD.obj {K:Frag} {H:Hp} {c:String} {fs:List D} {v:V} (r:RD K H (.obj c fs) v):∃a C dx vs,v=.ref a/\nsIn K mainGlobals (Str.ofString c)=some (some (.ref C))/\H a=some (.ins C dx ((v6 c).zip vs))/\vs.length=(v6 c).length/\(i9 fs=true/\pls fs=true)/\RDs K H fs vs:=by simp only [RD] at r;exact r
theorem Ps {ns:List Str} {f:Str}:∀{ns:List Str} {vs:List V},f∉ns->(ns.zip vs).lookup f=none
 | [],_,_=>by simp
 | _::_,[],_=>by simp
 | n::ns,v::vs,h=>by simp only [List.mem_cons,not_or] at h;simp only [List.zip_cons_cons,List.lookup,beq_eq_false_iff_ne.mpr h.1];exact Ps (ns:=ns) h.2
def Pr (X:Cx) (m:Str) (E:XK) (j:Nat) (ta:TE) (t:TA):TE:=fun U H Q=>ta U H fun x H1=>∃a C dx fs f fd ps k sp,x=.ref a/\H1 a=some (.ins C dx fs)/\fs.lookup m=none/\Cls X.K C/\Meth X.K C m f/\FnOk X.prog X.w X.K X.mg X.base (CX1 X.prog X.w) k f fd ps sp/\k<=j/\Binds X.K fd ps []/\t U H1 fun vs H2=>sp (x::vs) H2 Q E
section
variable {X:Cx} {j:Nat} {E:XK} {m:Str} {apos pos:Pos} {e o:Expr} {es:List Expr} {ta:TE} {t:TA}
theorem wH {pl:Sem Bool} (he:PE X o ta) (hr:Room j X.A) (hx:T5 (CX1 X.prog X.w) X E) (ha:PA X (e::es) t)
  (hst:starEach (e::es) X.env=(false,eval e X.env)::starEach es X.env:=by rfl) (hpl:(backTo pos (starEach es X.env)).any (·.1)=false:=by rfl)
  (ht:eval (.Call (.Attribute o m apos) (e::es) [] pos) X.env=(do
   let ov <-eval o X.env
   standAt apos.atName
   let (f,first) <-holding [ov] (getMethod ov m pl)
   callWith pos f first (backTo pos (starEach (e::es) X.env)) (backToKw pos (keywordEach [] X.env))):=by rfl) :
  PE X (.Call (.Attribute o m apos) (e::es) [] pos) (Pr X m E j ta t):=by
 intro pins s U H Q I h
 refine PySem.W.methodCall_KW (pl:=pl) (thn (he pins s U H _ I h) fun u s1 ⟨x,H1,I1,rx,a,C,dx,fs,f,fd,ps,k,sp,ex,ea,l,c,hm,F,hk,hb,q⟩=>?_) ht
 subst ex
 obtain rfl:u=Value.ref a:=rx
 refine yI I1 ea c hm l ?_
 refine callWith_K (first:=[.ref a]) (h₀:=X.base) I.ok.mod.kin hm.kp (thn (ha pos pins s1 U H1 _ I1 q) fun us s2 ⟨vs,H2,I2,r,q2⟩=>⟨I2.kIn,?_⟩) hst hpl
 exact Qq (us:=.ref a::us) (vs:=.ref a::vs) (dvs:=[]) (ds:=[]) F (hr.mono hk) hb .nil hx I2 (.cons rfl r) (by simpa only [List.append_nil] using q2)
end
structure Mths (P:Program) (w:World) (K:Frag) (mg:Str->Option Value) (base:Heap) (m:Str) (j n:Nat) (tb:String->Option (List D->R D)):Prop where
 h:∀c g,tb c=some g->∃C f fd ps k,nsIn K mainGlobals (Str.ofString c)=some (some (.ref C))/\Cls K C/\Meth K C m f/\FnOk P w K mg base (CX1 P w) k f fd ps (spD K mg false g n)/\k<=j/\Binds K fd ps []/\m∉v6 c/\∀ds,ds.length≠n->g ds=.st
def D7 (tb:String->Option (List D->R D)) (fo:DE->R D) (fs:DE->R (List D)):DE->R D:=fun ρ=>(fo ρ).bind fun d=>match d with
 | .obj c zs=>(match tb c with | some g=>(fs ρ).bind fun ds=>g (.obj c zs::ds) | none=>.st)
 | _=>.st
section
variable {X:Cx} {EX:XW} {j n:Nat} {E:XK} {m:Str} {apos pos p:Pos} {e o:Expr} {es:List Expr} {tb:String->Option (List D->R D)} {fo:DE->R D} {fs:DE->R (List D)}
theorem jU {U:St} {H:Hp} {Q:VK} (M:Mths X.prog X.w X.K X.mg X.base m j n tb) (hE:∀x H,EX.p x H->xNm X.K X.mg E x H) (h:TEd X.K EX false (D7 tb fo fs) U H Q):Pr X m E j (TEd X.K EX false fo) (TAd X.K EX fs) U H Q:=by
 obtain ⟨sx,ρ,H0,s,e,h⟩:=h;unfold D7 at h;rw [Rk.bind] at h;refine TEd.go sx s e h fun d h v H1 H1' s1 e1 r1=>?_
 cases d<;>first | (exact h.elim) | skip
 rename_i c zs;simp only at h;cases q:tb c with
 | none=>rw [q] at h;exact h.elim
 | some g=>
  obtain ⟨C,f,fd,ps,k,h1,h2,h3,h4,h5,h6,h7,h8⟩:=M.h c g q
  obtain ⟨a,C',dx,vs,rfl,n1,n2,n3,n4,n5⟩:=r1.obj
  rw [h1] at n1;cases n1
  refine ⟨a,C,dx,_,f,fd,ps,k,_,rfl,e1.2.1 _ _ n2,Ps (ns:=[]) h7,h2,h3,h4,h5,h6,?_⟩
  rw [q] at h
  simp only at h
  rw [Rk.bind] at h
  refine TAd.go (sx.trans s1) e1.2.1 (e.mono e1.1) h fun ds h us H2 H2' s2 e2 r2=>?_
  refine ⟨.obj c zs::ds,H2',e2.2.1,?_,?_,?_⟩
  . simp only [RDs];exact ⟨_,_,rfl,r1.mono e2.1,r2⟩
  . apply Classical.byContradiction;intro hn;rw [h8 _ hn] at h;exact h
  . cases q':g (.obj c zs::ds) with
    | ok d=>rw [q'] at h;exact fun v H' o=>h v H' (o.after (s1.trans s2) (e1.trans s1 e2))
    | er x=>rw [q'] at h;exact fun H' s'=>hE x H' (h H' (((sx.trans s1).trans s2).trans s'))
    | st=>rw [q'] at h;exact h
theorem Jt {pl:Sem Bool} {j2:Nat} (L:Lnd X EX) (M:Mths X.prog X.w X.K X.mg X.base m j n tb) (hr:Room j2 X.A) (ho:QE X EX false o fo) (ha:QA X EX (e::es) fs) (hj:j<=j2:=by omega)
 (hst:starEach (e::es) X.env=(false,eval e X.env)::starEach es X.env:=by rfl) (hpl:(backTo pos (starEach es X.env)).any (·.1)=false:=by rfl)
 (ht:eval (.Call (.Attribute o m apos) (e::es) [] pos) X.env=(do
  let ov <-eval o X.env
  standAt apos.atName
  let (f,first) <-holding [ov] (getMethod ov m pl)
  callWith pos f first (backTo pos (starEach (e::es) X.env)) (backToKw pos (keywordEach [] X.env))):=by rfl) :
 QE X EX false (.Call (.Attribute o m apos) (e::es) [] pos) (D7 tb fo fs):=⟨(wH (pl:=pl) ho.h (hr.mono hj) L.on ha.h hst hpl ht).imp fun _ _ _ q=>jU M (fun x H z=>by obtain ⟨C,hC⟩:=L.nm x H z;exact ⟨C,hC,fun od xf=>⟨x,z,hC,xf⟩⟩) q⟩
end
structure Flds (K:Frag) (f:Str) (cs:List String):Prop where
 h:∀c∈cs,∃C,nsIn K mainGlobals (Str.ofString c)=some (some (.ref C))/\Cls K C/\NoAttr K C f
def G5 (f:Str) (cs:List String):D->Option D
 | .obj c fs=>if c∈cs then ((v6 c).zip fs).lookup f else none
 | _=>none
section
variable {X:Cx} {EX:XW} {e:Expr} {f:Str} {pos:Pos} {fd:DE->R D} {cs:List String}
theorem jT {K:Frag} {U:St} {H:Hp} {Q:VK} (Z:Flds K f cs) (h:TEd K EX false (eUn (G5 f cs) fd) U H Q):Yo K (TEd K EX false fd) f U H Q:=by
 obtain ⟨sx,ρ,H0,s,e,h⟩:=h;unfold eUn at h;rw [Rk.bind] at h;refine TEd.go sx s e h fun d h v H1 H1' s1 e1 r1=>?_
 obtain ⟨z,hz,hk⟩:=h.of;unfold G5 at hz;split at hz
 . rename_i c fs;split at hz
   . rename_i hc;obtain ⟨a,C,dx,vs,rfl,n1,n2,n3,n4,n5⟩:=r1.obj;obtain ⟨C',z1,z2,z3⟩:=Z.h c hc;rw [n1] at z1;cases z1;obtain ⟨_,_,y,ly,ry⟩:=Tz n5 hz;exact ⟨a,C,dx,_,y,rfl,e1.2.1 _ _ n2,z2,z3,ly,hk y H1 (.val s1 e1 ry)⟩
   . cases hz
 . cases hz
theorem Fn (ha:QE X EX false e fd) (Z:Flds X.K f cs) (hb:attributeBase e f X.env (eval e X.env)=eval e X.env:=by rfl) :
 QE X EX false (.Attribute e f pos) (eUn (G5 f cs) fd):=⟨(kX ha.h hb).imp fun _ _ _ q=>jT Z q⟩
end
def Na (C:Addr) (fn:List Str):Sp:=fun vs H Q _=>∃x dx ys,vs=.ref x::ys/\ys.length=fn.length/\H x=some (.ins C dx [])/\Q .non (upd H x (.ins C dx (fn.zip ys)))
theorem Tv {P:Program} {w:World} {K:Frag} {mg:Str->Option Value} {base:Heap} {qual:Str} {st:Stmt} {fI C:Addr} {fd:FuncData} {se p f:Str} {p1 p2 p3 p4:Pos} {k:Nat} (F:Fun K "__init__" qual st fI fd) (S:FnScope [se,p] [se,p] (g7 st)) (Z:Cls K C) (N:NoAttr K C f)
  (hb:j7 st=[.Assign [.Attribute (.Name se p1) f p2] (.Name p p3) p4]) (h1:Vis (g7 st) se) (h2:Vis (g7 st) p)
  (d1:(se==("__debug__":Str))=false:=by decide) (d2:(se==("__classdict__":Str))=false:=by decide) (d3:(p==("__debug__":Str))=false:=by decide) (d4:(p==("__classdict__":Str))=false:=by decide)
  (hs:∀env:Env,swapsWith (.Name p p3) (some (.Attribute (.Name se p1) f p2)) p4.line env=pure false:=by intro _;rfl):FnOk P w K mg base (CX1 P w) (k+1) fI fd [se,p] (Na C [f]):=by
 refine Fun.okX F S (fun vs H Q E ⟨e,dx,ys,h,hl,_⟩=>by rw [h,List.length_cons,hl];rfl) fun cdv A outer s H vs Q E hr ⟨e,dx,ys,hv,hl,he,hq⟩=>?_
 subst hv
 match ys,hl with
 | [y],_=>
  rw [hb]
  refine ⟨_,Lz (kW (Dj (i:=0) rfl h1 d1 d2) (Dj (i:=1) rfl h2 d3 d4) (hs _)) pss_nil,?_⟩
  exact ⟨_,rfl,_,rfl,e,C,dx,[],rfl,he,Z,N,by decide,hq⟩
structure MkO (P:Program) (w:World) (K:Frag) (mg:Str->Option Value) (base:Heap) (c:String) (C:Addr) (fn:List Str) (k:Nat):Prop where
 nm:nsIn K mainGlobals (Str.ofString c)=some (some (.ref C))
 fs:v6 c=fn
 h:∃fI fd ps,Mk K C fI/\FnOk P w K mg base (CX1 P w) k fI fd ps (Na C fn)/\Binds K fd ps []
def y4 (c:String) (fs:DE->R (List D)):DE->R D:=fun ρ=>(fs ρ).bind fun ds=>if ds.length=(v6 c).length/\i9 ds=true/\pls ds=true then .ok (.obj c ds) else .st
theorem Rz {K:Frag} {H0 H:Hp} {c:String} {C x dx:Addr} {ds:List D} {vs:List V} (s:Same H0 H) (hx:H x=none) (hd:H dx=none) (hne:dx≠x) (hn:nsIn K mainGlobals (Str.ofString c)=some (some (.ref C))) (hl:vs.length=(v6 c).length) (hp:i9 ds=true/\pls ds=true) (r:RDs K H0 ds vs) :
  Out K false H0 H (.obj c ds) (.ref x) (upd (upd H dx (.own x)) x (.ins C dx ((v6 c).zip vs))):=by
 have e1:Ext H0 H (upd H0 dx (.own x)) (upd H dx (.own x)):=.new s hd
 have hx2:upd H dx (.own x) x=none:=by rw [m9 (Ne.symm hne)];exact hx
 have e2:Ext (upd H0 dx (.own x)) (upd H dx (.own x)) (upd (upd H0 dx (.own x)) x (.ins C dx ((v6 c).zip vs))) (upd (upd H dx (.own x)) x (.ins C dx ((v6 c).zip vs))):=.new e1.2.1 hx2
 have s1:Same H (upd H dx (.own x)):=Same.upd_new hd
 refine .val (s1.trans (Same.upd_new hx2)) (e1.trans s1 e2) ?_
 simp only [RD]
 exact ⟨x,C,dx,vs,rfl,hn,u8,hl,hp,r.mono (e1.1.trans e2.1)⟩
section
variable {X:Cx} {EX:XW} {e:Expr} {es:List Expr} {pos p:Pos} {c:String} {C:Addr} {fn:List Str} {k j:Nat} {fs:DE->R (List D)} {E:XK}
theorem jS {U:St} {H:Hp} {Q:VK} (M:MkO X.prog X.w X.K X.mg X.base c C fn k) (h:TEd X.K EX false (y4 c fs) U H Q):On C (Na C fn) [] E (TAd X.K EX fs) U H Q:=by
 obtain ⟨sx,ρ,H0,s,e,h⟩:=h;unfold y4 at h;rw [Rk.bind] at h;refine TAd.go sx s e h fun ds h vs H1 H1' s1 e1 r1=>?_
 split at h
 . rename_i hc;intro x dx hx hd hne;have hl:vs.length=(v6 c).length:=by rw [Se r1];exact hc.1
   have hfs:=M.fs;refine ⟨x,dx,vs,by rw [List.append_nil],by rw [<-hfs];exact hl,u8,rfl,?_⟩;have:=h (.ref x) _ ((Rz e1.2.1 hx hd hne M.nm hl hc.2 r1).after s1 e1);rw [show upd (upd (upd H1 dx (.own x)) x (.ins C dx [])) x (.ins C dx (fn.zip vs))=upd (upd H1 dx (.own x)) x (.ins C dx ((v6 c).zip vs)) by
    funext b;rw [hfs];by_cases hb:b=x
    . subst hb;rw [u8,u8]
    . rw [m9 hb,m9 hb,m9 hb]]
   exact this
 . exact h.elim
theorem Da (L:Lnd X EX) (M:MkO X.prog X.w X.K X.mg X.base c C fn k) (hr:Room j X.A) (hg:Gl X (c:Str)) (hm:X.mg (c:Str)=some (.ref C)) (ha:QA X EX (e::es) fs) (hkj:k+1<=j:=by omega) (hdb:((c:Str)==("__debug__":Str))=false:=by decide)
  (he:starEach (e::es) X.env=(false,eval e X.env)::starEach es X.env:=by rfl) (hpl:(backTo pos (starEach es X.env)).any (·.1)=false:=by rfl) :
  QE X EX false (.Call (.Name (c:Str) p) (e::es) [] pos) (y4 c fs):=by
 obtain ⟨fI,fd,ps,K,F,B⟩:=M.h
 exact ⟨(vV (E:=eOf X.K EX X.mg) K F (hr.mono hkj) hg hm B .nil L.on ha.h hdb he hpl).imp fun _ _ _ q=>jS M q⟩
end
theorem ve {prog:Program} {w:World} {A:Around} {K:Frag} {C:Addr} {h:Heap} {g:Array GenState} {d:Drawn} {t:Nat} {os:OsState} {R:Result->Shared->Prop} (X:K.In h) (hm:PySem.W.makesIn K C=true) (z:R (.ok (.ret .none)) ⟨(h.push emptyDict).push (instObj C h.objs.size),g,d,t,os⟩) :
  codeAny (model prog w) A (.call (.builtin "object.__init__") ⟨[.ref (h.objs.size+1)],[]⟩) R ⟨(h.push emptyDict).push (instObj C h.objs.size),g,d,t,os⟩:=by
 have Y:=PySem.W.makes_of (M:=model prog w) X hm
 have e2:((h.push emptyDict).push (instObj C h.objs.size)).get? (h.objs.size+1)=some (instObj C h.objs.size):=by have:=Ψ (h.push emptyDict) (o:=instObj C h.objs.size) rfl;rwa [Heap.size_push] at this
 have J:PySem.W.InstAt ((h.push emptyDict).push (instObj C h.objs.size)) (h.objs.size+1) (instObj C h.objs.size) C (some emptyDict):=⟨e2,rfl,rfl,τ _ (Ψ h rfl)⟩
 have t2:Looks (model prog w) ((h.push emptyDict).push (instObj C h.objs.size)) (isInstance (.ref (h.objs.size+1)) (.type "object")) true:=PySem.W.Looks.andThen (J.type (M:=model prog w)) (Y.top.keeps fun b o e=>τ _ (τ _ e))
 refine codeAny_call_builtin PySem.W.oi_plain PySem.W.entry_oi ?_
 refine PySem.W.check_slot (s:=⟨(h.push emptyDict).push (instObj C h.objs.size),g,d,t,os⟩) (i:="object.__init__") (owner:="object") (n:="__init__") (self:=.ref (h.objs.size+1)) (rest:=[]) (kw:=[]) PySem.W.oi_kind PySem.W.oi_split t2 (PySem.W.oi_args _) ?_
 rw [PySem.W.oi_run]
 exact ω z
structure MkZ (K:Frag) (c:String) (C:Addr):Prop where
 nm:nsIn K mainGlobals (Str.ofString c)=some (some (.ref C))
 fs:v6 c=[]
 makes:PySem.W.makesIn K C=true
 init:PySem.W.findIn K (.ref C) "__init__"=some (some (.builtin "object.__init__"))
 kp:keepIn K (.ref C)=true
noncomputable def Y5 (c:String):DE->R D:=fun _=>.ok (.obj c [])
section
variable {X:Cx} {EX:XW} {pos p:Pos} {c:String} {C:Addr}
theorem wG (M:MkZ X.K c C) (hg:Gl X (c:Str)) (hm:X.mg (c:Str)=some (.ref C)) (hdb:((c:Str)==("__debug__":Str))=false:=by decide) :
  PE X (.Call (.Name (c:Str) p) [] [] pos) (fun _ H Q=>∀x dx,H x=none->H dx=none->dx≠x->Q (.ref x) (upd (upd H dx (.own x)) x (.ins C dx []))):=by
 intro pins s U H Q I h
 refine wpAny_Call_Name_kw (U2 I hg hm ?_ hdb)
 refine PySem.W.callWith_K0 I.kIn M.kp ?_
 have hq:=h (s.heap.objs.size+1) s.heap.objs.size (I.hok.fresh (Nat.le_succ _)) (I.hok.fresh (η _)) (Nat.ne_of_lt (Nat.lt_succ_self _))
 have I2:=Inv.made (C:=C) I
 obtain ⟨hp,g,d,t,os⟩:=s
 refine wpAny_call (yi I.kIn M.makes M.init (fun self=>.of_pure (PySem.W.oi_bind self)) (ve I.kIn M.makes ?_))
 exact ⟨rfl,⟨V.ref (hp.objs.size+1),_,I2,rfl,hq⟩⟩
theorem Ry (M:MkZ X.K c C) (hg:Gl X (c:Str)) (hm:X.mg (c:Str)=some (.ref C)) (hdb:((c:Str)==("__debug__":Str))=false:=by decide) :
  QE X EX false (.Call (.Name (c:Str) p) [] [] pos) (Y5 c):=⟨(wG M hg hm hdb).imp fun U H Q ⟨sx,ρ,H0,s,e,h⟩ x dx hx hd hne=>by
 have hfs:=M.fs
 have:=h (.ref x) _ (Rz (vs:=[]) (ds:=[]) s hx hd hne M.nm (by rw [hfs];rfl) ⟨rfl,rfl⟩ .nil)
 rw [hfs] at this
 exact this⟩
end
def Mz (K:Frag):List V->Hp->VK->Prop:=fun xs H Q=>match xs with
 | [x,.ref p]=>∃C b,TyOf K H x (.ref C)/\kitOne K (.ref C) (.ref p)=some b/\Q (.bl b) H
 | _=>False
theorem y0d {X:Cx}:CallR X (.builtin "isinstance") (Mz X.K):=by
 intro pins s U H xs us Q I r h;unfold Mz at h;split at h
 . rename_i x p;obtain ⟨C,b,ty,hk,q⟩:=h;cases r with
   | cons r1 r=>cases r with
    | cons r2 r=>
     cases r
     cases (show _=_ from r2)
     exact K4 I r1 ty hk fun tk=>⟨.bl b,H,I.tok tk,rfl,q⟩
 . exact h.elim
structure BelO (K:Frag) (Dd:Addr) (tb:String->Option Bool):Prop where
 hn:specialIn K (.builtin "object.__class__") "__get__"=some (some (.builtin "getset_descriptor.__get__"))
 htk:takesIn K (.builtin "object.__class__")=some true
 h:∀c b,tb c=some b->∃C,nsIn K mainGlobals (Str.ofString c)=some (some (.ref C))/\Cls K C/\PySem.W.findIn K (.ref C) "__class__"=some (some (.builtin "object.__class__"))/\mroIn K C (.type "object")=some true/\kitOne K (.ref C) (.ref Dd)=some b
noncomputable def K9 (tb:String->Option Bool):D->Option D
 | .obj c _=>(tb c).map .bl
 | _=>none
section
variable {X:Cx} {EX:XW} {a b:Expr} {pos p:Pos} {x:Str} {f:DE->R D} {tb:String->Option Bool} {Dd:Addr}
theorem y0e {K:Frag} {U:St} {H:Hp} {Q:VK} (B:BelO K Dd tb) (h:TEd K EX false (eUn (K9 tb) f) U H Q):tCB (Mz K) (J8 (TEd K EX false f) (J8 (tC (.ref Dd)) O0)) U H Q:=by
 obtain ⟨sx,ρ,H0,s,e,h⟩:=h;unfold eUn at h;rw [Rk.bind] at h;refine TEd.go sx s e h fun d h v H1 H1' s1 e1 r1=>?_
 obtain ⟨z,hz,h⟩:=h.of;cases d<;>simp only [K9] at hz<;>first | cases hz | skip
 rename_i c _;obtain ⟨b,hb,rfl⟩:=Option.map_eq_some_iff.mp hz;obtain ⟨a,C,dx,vs,rfl,n1,n2,n3,n4,n5⟩:=r1.obj;obtain ⟨C',h1,h2,h3,h4,h5⟩:=B.h c b hb;rw [n1] at h1;cases h1;exact ⟨C,b,.ins (e1.2.1 _ _ n2) h2 h3 B.hn B.htk h4,h5,h (.bl b) H1 (.val s1 e1 (by simp only [RD]))⟩
theorem y0f (hg:Gl X x) (hm:X.mg x=none) (hv:bootBuiltins x=some (.builtin "isinstance")) (ha:QE X EX false a f) (hb:PE X b (tC (.ref Dd))) (B:BelO X.K Dd tb) (hn:x≠"__name__":=by decide) (hdb:(x==("__debug__":Str))=false:=by decide)
 (he:starEach [a,b] X.env=(false,eval a X.env)::starEach [b] X.env:=by rfl) (hpl:(backTo pos (starEach [b] X.env)).any (·.1)=false:=by rfl) (hs:starEach [b] X.env=(false,eval b X.env)::starEach [] X.env:=by rfl) :
 QE X EX false (.Call (.Name x p) [a,b] [] pos) (eUn (K9 tb) f):=⟨(Lx y0d hg hm hv (G8 ha.h (G8 hb pa_nil hs) he) hn hdb he hpl).imp fun _ _ _ q=>y0e B q⟩
end
abbrev Kp (is:List Nat) (U σ':St):Prop:=∀i∈is,σ'[i]?=U[i]?
theorem SK.mon {K:Frag} {EX:XW} {fr:Bool} {Hc Hb:Hp} {D1 D2:Ends} {r:SR} (h:SK K EX fr Hc Hb D1 r) (hn:∀U H,D1.nx U H->D2.nx U H) (hb:∀U H,D1.bk U H->D2.bk U H) (hc:∀U H,D1.ct U H->D2.ct U H) (hr:∀v H,D1.rt v H->D2.rt v H):SK K EX fr Hc Hb D2 r:=by
 cases r with
 | nx ρ=>exact fun U H H0 R=>hn U H (h U H H0 R)
 | bk ρ=>exact fun U H H0 R=>hb U H (h U H H0 R)
 | ct ρ=>exact fun U H H0 R=>hc U H (h U H H0 R)
 | rt d=>exact fun v H o=>hr v H (h v H o)
 | er x=>exact h
 | st=>exact h
theorem TSd.mon {K:Frag} {EX:XW} {fr:Bool} {D1 D2:Ends} {g:DS->SR} {U:St} {H:Hp} (h:TSd K EX fr g D1 U H) (hn:∀U H,D1.nx U H->D2.nx U H) (hb:∀U H,D1.bk U H->D2.bk U H) (hc:∀U H,D1.ct U H->D2.ct U H) (hr:∀v H,D1.rt v H->D2.rt v H):TSd K EX fr g D2 U H:=by obtain ⟨Hc,Hb,H0,ρ,sb,R,h⟩:=h;exact ⟨Hc,Hb,H0,ρ,sb,R,h.mon hn hb hc hr⟩
theorem Kp.trans (h:Kp is a b) (k:Kp is b c):Kp is a c:=fun i hi=>(k i hi).trans (h i hi)
theorem Kp.set (h:i∉is):Kp is U (U.set i v):=fun j hj=>List.getElem?_set_ne (fun e:i=j=>h (by rw [e];exact hj))
theorem RDs.atR {K:Frag} {H:Hp}:∀{ds:List D} {ws:List V},RDs K H ds ws->∀(i:Nat) d,ds[i]?=some d->∃w,ws[i]?=some w/\RD K H d w
 | [],_,_,i,d,q=>by simp at q
 | e::es,_,r,i,d,q=>by
  simp only [RDs] at r;obtain ⟨y,ys,rfl,r1,r2⟩:=r;cases i with
  | zero=>cases q;exact ⟨y,rfl,r1⟩
  | succ i=>exact RDs.atR r2 i d q
section
variable {K:Frag} {U:St} {H:Hp}
theorem RS.hidden (R:RS K Hc Hb H0 ρ U H) (q:ρ[i]?=some (.ow d)) (h1:U[i]?=some (some (.ref a))) (s':Same (hid [a] H) H') (e':Ext H0 (hid [a] H) H0' H') (n':H0' a=none) (ob:OB K H0' H' a d'):RS K Hc Hb H0' (ρ.set i (.ow d')) U H':=by
 obtain ⟨a',z1,z2,z3,z4⟩:=R.ow i d q;rw [h1] at z1;cases z1;have sbh:Same Hb (hid [a] H):=fun b o hb=>by rw [Sa fun hm=>by rw [List.mem_singleton.mp hm,z3] at hb;cases hb];exact R.sb b o hb
 refine ⟨sbh.trans s',⟨R.ext.1.trans e'.1,e'.2.1,fun b hb hc=>e'.nt (sbh.ne hb) (R.ext.2.2 b hb hc)⟩,by simp [R.len],fun j e qj=>?_,fun j e qj=>?_,fun j k e1 e2 b q1 q2 s1 s2=>?_⟩
 . rcases Kt qj with ⟨_,z⟩ | ⟨_,qj⟩
   . cases z
   . obtain ⟨v,v1,v2⟩:=R.im j e qj;exact ⟨v,v1,v2.mono e'.1⟩
 . rcases Kt qj with ⟨e0,z⟩ | ⟨ne,qj⟩
   . subst e0;cases z;exact ⟨a,h1,n',z3,ob⟩
   . obtain ⟨b,b1,b2,b3,b4⟩:=R.ow j e qj;have na:b∉[a]:=fun hm=>ne (R.ap i j _ _ _ q qj h1 (by rw [b1,List.mem_singleton.mp hm]))
     obtain ⟨o,ho,ni⟩:=b4.some;have hh:hid [a] H b=some o:=by rw [Sa na];exact ho
     refine ⟨b,b1,e'.no s' hh ni b2,b3,?_⟩;exact (b4.at (by rw [ho];exact s' b o hh)).mono e'.1 (Same.refl _)
 . have back:∀(j:Nat) e,(ρ.set i (.ow d'))[j]?=some (.ow e)->∃e0,ρ[j]?=some (.ow e0):=fun j e qj=>by
    rcases Kt qj with ⟨e0,_⟩ | ⟨_,qj⟩
    . subst e0;exact ⟨_,q⟩
    . exact ⟨_,qj⟩
   obtain ⟨x1,y1⟩:=back j e1 q1
   obtain ⟨x2,y2⟩:=back k e2 q2
   exact R.ap j k _ _ b y1 y2 s1 s2
end
section
variable {prog:Program} {w:World}
theorem vd {K:Type} [DecidableEq K] {knd:HeapKind prog w K} {A:Around} {E:Value->Shared->Prop} {s:Shared} {d a:Addr} {k:K} {xs:List (K×Addr×Value)} {v:Value} {Q:Value->Shared->Prop} (hr:knd.room A) (hk:knd.is s.heap k a) (hd:Heap.DictOfH knd s.heap d xs) (hz:xs.length<=sizeLine)
  (h1:∀(j:Nat) p,xs[j]?=some (k,p)->Q p.2 { s with toks:=s.toks+knd.draws k })
  (h2:(∀(j:Nat) p,xs[j]?≠some (k,p))->∀h',Heap.DictOfH knd h' d (xs++[(k,a,v)])->Heap.SameBut d s.heap h'->Q v { s with heap:=h',toks:=s.toks+knd.draws k }):wpAny (model prog w) A (dictSetDefault d (.ref a) v) Q E s:=by
 obtain ⟨o,es,ep,ho,hx,hdat,hes,his,hnd⟩:=hd
 unfold dictSetDefault
 refine wpAny_holding (δ (knd.pyHash hr hk (δ (wpAny_dictFind_heap (s:={ s with toks:=s.toks+knd.draws k }) hr hk ho hdat hes his hnd (fun hn=>?_) fun j p hj=>?_))))
 . have hsz:=size_of_entries hes;refine δ (wpAny_rule (δ (wpAny_updateDictKeys ho hdat (ω (h2 hn _ ?_ (Heap.SameBut.update _ _ _))) (by omega) (by simp))));have e2:=Heap.get?_update_self (Obj.mapDictKeys fun x=>x.push { hash:=knd.hash k,key:=.ref a,val:=v }) ho (Obj.isFreed_of_dict (Obj.data_mapDictKeys hdat _));have sb:=Heap.SameBut.update s.heap d (Obj.mapDictKeys fun x=>x.push { hash:=knd.hash k,key:=.ref a,val:=v });refine ⟨_,_,_,e2,hx.mapDictKeys _,Obj.data_mapDictKeys hdat _,?_,fun x hx'=>?_,?_⟩
   . rw [Array.toList_push,hes,List.map_append];rfl
   . rcases List.mem_append.mp hx' with z | z
     . exact knd.keeps (his x z) ho hdat sb
     . rw [List.mem_singleton.mp z];exact knd.keeps hk ho hdat sb
   . rw [List.map_append,List.map_cons,List.map_nil];refine List.nodup_append.mpr ⟨hnd,by simp,fun x hx1 y hy e=>?_⟩;rw [List.mem_singleton.mp hy] at e;subst e;obtain ⟨z,hz1,hz2⟩:=List.mem_map.mp hx1;obtain ⟨i,hi⟩:=List.mem_iff_getElem?.mp hz1;exact hn i z.2 (by rw [hi,<-hz2])
 . have e:=entry_at hes j;rw [hj] at e;refine δ (wpAny_dictEntries ho hdat ?_);rw [e];exact δ (wpAny_rule (ω (h1 j p hj)))
theorem xP {K:Type} [DecidableEq K] (knd:HeapKind prog w K) (d a:Addr) (hs:(d==sysModules)=false) (v:Value) :
  MeetsIn prog w (Builtin.«dict.setdefault» ⟨[.ref d,.ref a,v],[]⟩) fun A R s=>knd.room A.in1/\∃k xs,knd.is s.heap k a/\Heap.DictOfH knd s.heap d xs/\xs.length<=sizeLine /\
   (∀(j:Nat) p,xs[j]?=some (k,p)->R (.ok (.ret p.2)) { s with toks:=s.toks+knd.draws k }) /\
   ((∀(j:Nat) p,xs[j]?≠some (k,p))->∀h',Heap.DictOfH knd h' d (xs++[(k,a,v)])->Heap.SameBut d s.heap h'->R (.ok (.ret v)) { s with heap:=h',toks:=s.toks+knd.draws k }):=by
 refine MeetsIn.of_wp fun A R s ⟨hr,k,xs,hk,hd,hz,h1,h2⟩=>?_
 unfold Builtin.«dict.setdefault» Builtin.Dict.keyAndDefault
 refine δ (δ (wpAny_notOrdered_dict hd.typeIs ?_))
 show wpAny (model prog w) A.in1 _ _ _ s
 refine δ (ω ?_)
 refine δ (ω ?_)
 refine δ (ω ?_)
 refine ω ?_
 dsimp only
 rw [ξ (by rw [hs];exact θ)]
 exact δ (vd hr hk hd hz (fun j p hj=>ω ⟨_,rfl,h1 j p hj⟩) fun hn h' hd' sb=>ω ⟨_,rfl,h2 hn h' hd' sb⟩)
noncomputable instance:DecidableEq (Str×NK):=fun a b=>Classical.propDecidable (a=b)
def TKv (h:Heap) (k:Str×NK) (a:Addr):Prop:=∃t v,h.IsTuple a #[.str k.1 t,v]/\NKv h k.2 v
def tagKind (prog:Program) (w:World):HeapKind prog w (Str×NK) where
 is:=fun h k a=>TKv h k a/\k.2.dep<=7
 hash:=tkH (hashStr w)
 draws:=fun k=>1+k.2.dr+1
 room:=fun A=>A.units+8<cLine
 inj:=fun {h a x y} p q=>by obtain ⟨⟨t,v,p1,p2⟩,_⟩:=p;obtain ⟨⟨t',v',q1,q2⟩,_⟩:=q;have e:=Mi p1 q1;have e':[Value.str x.1 t,v]=[Value.str y.1 t',v']:=congrArg Array.toList e;cases x;cases y;simp only [List.cons.injEq,Value.str.injEq,and_true] at e';obtain ⟨⟨rfl,_⟩,rfl⟩:=e';exact congrArg (Prod.mk _) (NKv.inj p2 q2)
 keeps:=fun {h h' k a d o es ep} p e eo sb=>by
  obtain ⟨⟨t,v,p1,p2⟩,p3⟩:=p;have st:∀b its,h.IsTuple b its->h'.IsTuple b its:=fun b its z=>by
   obtain ⟨ob,eb,cb,n,db⟩:=z;have hne:b≠d:=fun z=>by subst z;rw [e] at eb;cases eb;rw [eo] at db;cases db
   exact ⟨ob,(sb.2 b hne).trans eb,cb,n,db⟩
  exact ⟨⟨t,v,st _ _ p1,NKv.stay st p2⟩,p3⟩
 pyHash:=fun {A E s k a Q} hr p q=>by
  obtain ⟨⟨t,v,⟨o,e,c,n,d⟩,p2⟩,p3⟩:=p;show wpAny (model prog w) A (pyHashByItsType (.ref a)) Q E s;refine W.pyHash_slot (T:="tuple") ⟨o,e,c⟩ F.slot_tuple_hash F.entry_tuple_hash (F.args_tuple_hash_1 _) rfl (.inr (by have:A.units+8<cLine:=hr;omega)) ?_;refine δ (wpAny_of_eq (show slotArgs "__hash__" 0 ⟨[.ref a],[]⟩=pure (.ref a,[]) from rfl) ?_);show wpAny (model prog w) A.in1 (Builtin.Tuple.tupleItemsOf (.ref a) >>= _) _ _ s;refine δ (wpAny_tupleItemsOf e d ?_);refine δ ?_;rw [<-Array.forIn_toList];show wpAny (model prog w) A.in1 (forIn [Value.str k.1 t,v] (#[]:Array Int) fun x r=>do
   let h <-pyHash x
   pure (ForInStep.yield (r.push h))) _ _ s
  rw [List.forIn_cons];refine δ (δ (wpAny_pyHash_str (ω ?_)));show wpAny (model prog w) A.in1 (forIn [v] _ _) _ _ _;rw [List.forIn_cons];refine δ (δ (Td 7 p3 (by have:A.units+8<cLine:=hr;show A.units+1+7<cLine;omega) p2 (ω ?_)));refine ω ?_;show wpAny (model prog w) A.in1 (retInt (Builtin.Tuple.tupleHashOf [hashStr w k.1,k.2.hs])) _ _ _;refine wpAny_mono (wpAny_ret_mkInt (Q:=fun v s'=>∃n t,v=Value.int n t/\Q (reduceHash n) s') ⟨_,_,rfl,?_⟩) (fun fin s' h=>?_) fun _ _ h=>h
  . simpa only [tkH,Nat.add_assoc] using q
  . obtain ⟨v,rfl,n,t,rfl,hq⟩:=h;exact ⟨n,t,rfl,hq⟩
 eqBool:=fun {A E s x y a b Q} hr p p' q=>by
  obtain ⟨⟨t,v,p1,p2⟩,p3⟩:=id p;obtain ⟨⟨t',v',q1,q2⟩,q3⟩:=id p';have hu:A.units+8<cLine:=hr
  suffices hE:SeqAt.EqAt A s (.ref a) (.ref b) (decide (x=y)) from hE prog w E Q q
  by_cases hab:a=b
  . subst hab;have exy:x=y:=by have e':[Value.str x.1 t,v]=[Value.str y.1 t',v']:=congrArg Array.toList (Mi p1 q1);cases x;cases y;simp only [List.cons.injEq,Value.str.injEq,and_true] at e';obtain ⟨⟨rfl,_⟩,rfl⟩:=e';exact congrArg (Prod.mk _) (NKv.inj p2 q2)
    rw [decide_eq_true exy];exact .same _
  . have q0:=SeqAt.RcAt.tuples (A:=A) p1 q1 (by omega) (e:=fun j=>if j=0 then (x.1==y.1) else decide (x.2=y.2)) fun j h1 h2=>by
     match j,h1 with
     | 0,_=>exact .str_str _ _ _ _
     | 1,_=>exact Oa 7 p3 (by show A.units+1+7<cLine;omega) p2 q2
    have eb:((List.range (min (#[Value.str x.1 t,v]:Array Value).size (#[Value.str y.1 t',v']:Array Value).size)).all (fun j=>if j=0 then (x.1==y.1) else decide (x.2=y.2))&&(#[Value.str x.1 t,v]:Array Value).size==(#[Value.str y.1 t',v']:Array Value).size)=decide (x=y):=by show ((List.range 2).all (fun j=>if j=0 then (x.1==y.1) else decide (x.2=y.2))&&(2==2))=_;have e2:List.range 2=[0,1]:=rfl;rw [e2];obtain ⟨x1,x2⟩:=x;obtain ⟨y1,y2⟩:=y;rw [Bool.eq_iff_iff];simp
    rw [eb] at q0
    exact .of_refs hab q0
 quiet:=fun {A E s k a Q} p q=>by
  obtain ⟨⟨t,v,⟨o,e,c,n,d⟩,p2⟩,p3⟩:=p;rw [eqIsQuiet.eq_2];refine δ (wpAny_specialOf (T:="tuple") ⟨o,e,c⟩ F.slot_tuple_eq.lookup ?_);show wpAny (model prog w) A (isInstance (.ref a) (.type "tuple") >>= _) _ _ s;refine δ (wpAny_isInstance (T:="tuple") (b:=true) ⟨o,e,c⟩ (by rfl) ?_);show wpAny (model prog w) A (seqItems? (.ref a) >>= _) _ _ s;refine δ (wpAny_seqItems e d ?_);refine δ ?_;show wpAny (model prog w) A (forIn (#[Value.str k.1 t,v]:Array Value) ((none,()):Option Bool×Unit) _) _ _ s;rw [<-Array.forIn_toList];show wpAny (model prog w) A (forIn [Value.str k.1 t,v] ((none,()):Option Bool×Unit) fun y __s=>do
   let __do_lift <-eqIsQuiet 7 y
   if (!__do_lift)=true then pure (ForInStep.done (some false,()))
    else pure (ForInStep.yield (none,()))) _ _ s
  rw [List.forIn_cons];refine δ (δ ?_);rw [eqIsQuiet.eq_3 _ _ (fun a e=>by cases e)];refine ω (ω ?_);show wpAny (model prog w) A (forIn [v] _ _) _ _ s;rw [List.forIn_cons];refine δ (δ (Ud 7 p3 p2 (ω ?_)));refine ω ?_;exact ω q
end
noncomputable def zp (qs:List ((Str×NK)×Addr)) (vs:List Value):List ((Str×NK)×Addr×Value):=(qs.zip vs).map fun q=>(q.1.1,q.1.2,q.2)
theorem jR (qs:List ((Str×NK)×Addr)) (vs:List Value) (h:qs.length=vs.length):(zp qs vs).length=qs.length:=by simp only [zp,List.length_map,List.length_zip];omega
theorem Pq:∀(qs:List ((Str×NK)×Addr)) (vs:List Value),qs.length=vs.length->(zp qs vs).map (·.1)=qs.map (·.1)
 | [],_,_=>rfl
 | q::qs,[],h=>by simp at h
 | q::qs,v::vs,h=>by have:=Pq qs vs (by simpa using h);simp only [zp,List.zip_cons_cons,List.map_cons] at this ⊢;rw [this]
theorem y0g {qs:List ((Str×NK)×Addr)} {vs:List Value} {j:Nat} {k:Str×NK} {p:Addr×Value} (h:(zp qs vs)[j]?=some (k,p)):qs[j]?=some (k,p.1)/\vs[j]?=some p.2:=by
 unfold zp at h;rw [List.getElem?_map] at h;cases e:(qs.zip vs)[j]? with
 | none=>rw [e] at h;cases h
 | some q=>
  rw [e] at h
  cases h
  obtain ⟨e1,e2⟩:=List.getElem?_zip_eq_some.mp e
  exact ⟨e1,e2⟩
theorem Rx:∀{xs:List V} {vs:List Value},Vals xs vs->∀{j:Nat} {v:Value},vs[j]?=some v->∃x,xs[j]?=some x/\RelV x v
 | _,_,.nil,j,v,h=>by simp at h
 | _,_,.cons r rr,0,v,h=>by cases h;exact ⟨_,rfl,r⟩
 | _,_,.cons r rr,j+1,v,h=>Rx rr (j:=j) h
section
variable {X:Cx} {pins:List (Addr×Obj)} {U:St} {H:Hp} {s:Shared}
theorem Nm (I:Inv X pins U H s) (p:TKr H k (.ref a)):TKv s.heap k a:=by obtain ⟨b,y,e,p1,p2⟩:=p;cases e;obtain ⟨its,r1,t1,_⟩:=I.tuple (.of p1);obtain ⟨u,v,rfl,⟨t,rfl⟩,rv⟩:=Cs r1;exact ⟨t,v,t1,Nz I p2 rv⟩
theorem Rw (I:Inv X pins U H s) (e:H a=some (.ext (dpP (hashStr X.w) a qs xs ob))) (n:DP X.K H a qs xs):s.heap.get? a=some ob/\ob.ExactDict/\∃vs,Vals xs vs/\qs.length=vs.length/\Heap.DictOfH (tagKind X.prog X.w) s.heap a (zp qs vs):=by obtain ⟨p,_,_⟩:=(show ObjOk X.prog X.w H s.heap a (.ext (dpP (hashStr X.w) a qs xs ob)) from I.hok a _ e);obtain ⟨p3,vs,es,ep,p1,p2,p4,p5,p6⟩:=p;refine ⟨p3,p4,vs,p1,p2,ob,es,ep,p3,p4,p5,p6,fun x hx=>?_,by rw [Pq qs vs p2];exact n.1⟩;obtain ⟨q,hq,rfl⟩:=List.mem_map.mp hx;have hq':=(List.of_mem_zip hq).1;exact ⟨Nm I (n.2.1 _ hq').1,(n.2.1 _ hq').2⟩
end
def tSD (X:Cx) (to:TE) (t:TA):TE:=fun U H Q=>to U H fun x H1=>∃(a:Addr),x=.ref a/\(∃qs xs ob,H1 a=some (.ext (dpP (hashStr X.w) a qs xs ob))/\DP X.K H1 a qs xs)/\t U H1 fun vs H3=>
 ∃(y z:V) (k:Str×NK) (b:Addr) (qs:List ((Str×NK)×Addr)) (xs:List V) (ob:Obj),vs=[y,z]/\y=.ref b/\H3 a=some (.ext (dpP (hashStr X.w) a qs xs ob))/\DP X.K H3 a qs xs/\TKr H3 k (.ref b)/\k.2.dep<=7/\qs.length<sizeLine /\
  (∀(j:Nat) c x',qs[j]?=some (k,c)->xs[j]?=some x'->Q x' H3)/\((∀(j:Nat) c,qs[j]?≠some (k,c))->∀ob',Q z (upd H3 a (.ext (dpP (hashStr X.w) a (qs++[(k,b)]) (xs++[z]) ob'))))
section
variable {X:Cx} {o e:Expr} {es:List Expr} {td:TE} {t:TA} {apos cpos:Pos}
theorem y0h (hu:X.A.units+64<cLine) (ho:PE X o td) (ha:PA X (e::es) t)
  (hbase:attributeBase o "setdefault" X.env (eval o X.env)=eval o X.env:=by rfl)
  (hfew:((backTo cpos (starEach (e::es) X.env)).all (fun x=>!x.1)&&(backToKw cpos (keywordEach [] X.env)).all (fun x=>x.1.isSome)
   && decide ((e::es).length+([]:List Keyword).length+(if ([]:List Keyword).isEmpty then 0 else 1)<30))=true:=by rfl)
  (hline:(apos.endLine==cpos.line)=true:=by rfl) (hs:starEach (e::es) X.env=(false,eval e X.env)::starEach es X.env:=by rfl) (hplain:(backTo cpos (starEach es X.env)).any (·.1)=false:=by rfl) :
  PE X (.Call (.Attribute o "setdefault" apos) (e::es) [] cpos) (tSD X td t):=by
 intro pins s U H Q I h
 refine wpAny_Call_method_late hbase hfew hline rfl (thn (ho pins s U H _ I h) fun u s1 ⟨x,H1,I1,rx,a,ex,⟨qs,xs,ob,e1,n1⟩,q1⟩=>?_)
 subst ex
 obtain rfl:u=Value.ref a:=rx
 obtain ⟨g0,xd,_,_,_,dd0⟩:=Rw I1 e1 n1
 refine ⟨"dict","dict.setdefault",PySem.F.plainAttrs_dict,PySem.F.slot_dict_setdefault,PySem.F.type_dict_setdefault,dd0.typeIs,fun b z=>by cases z;exact ⟨_,g0,xd.2.1⟩,?_⟩
 have hA:=ha cpos pins s1 U H1 _ I1 q1
 rw [hs] at hA ⊢
 refine Calls.callWith_builtin (by show (false||(backTo cpos (starEach es X.env)).any (·.1))=false;rw [hplain]<;>rfl) (Calls.evalArgs_plain ?_)
 refine thn hA fun us s3 ⟨vs0,H3,I3,rv0,y,z,k,b,qs,xs,ob,ev,ey,e3,n3,hk,hd,hl,q3,q4⟩=>?_
 subst ev
 subst ey
 obtain ⟨iv,fv,rfl,ry,rz⟩:=Cs rv0
 cases ry
 obtain ⟨_,_,vs,p1,p2,dd⟩:=Rw I3 e3 n3
 refine call_meetsIn PySem.F.slot_dict_setdefault dd.typeIs PySem.F.entry_dict_setdefault (PySem.F.args_dict_setdefault_3 _ _ _) (xP (tagKind X.prog X.w) a b n3.2.2.1 fv)
  ⟨by show X.A.units+1+8<cLine;omega,k,zp qs vs,⟨Nm I3 hk,hd⟩,dd,by rw [jR qs vs p2];omega,fun j p hj=>?_,fun hn h' dd' hs=>?_⟩
 . obtain ⟨j1,j2⟩:=y0g hj;obtain ⟨x',hx',rx'⟩:=Rx p1 j2;exact ⟨x',H3,I3.tok _,rx',q3 j p.1 x' j1 hx'⟩
 . have hn':∀(j:Nat) c,qs[j]?≠some (k,c):=fun j c hc=>by
    have hj:j<qs.length:=by apply Classical.byContradiction;intro z;rw [List.getElem?_eq_none (by omega)] at hc;cases hc
    refine hn j (c,vs[j]'(by omega)) ?_
    unfold zp
    have hv:vs[j]?=some (vs[j]'(by omega)):=List.getElem?_eq_getElem (by omega)
    have hz2:(qs.zip vs)[j]?=some ((k,c),vs[j]'(by omega)):=List.getElem?_zip_eq_some.mpr ⟨hc,hv⟩
    rw [List.getElem?_map,hz2]
    rfl
   obtain ⟨o',es,ep,d1,d2,d3,d4,_⟩:=dd'
   have new:dpP (hashStr X.w) a (qs++[(k,b)]) (xs++[z]) o' h':=⟨d1,vs++[fv],es,ep,p1.append (.cons rz .nil),by simp [p2],d2,d3,by rw [d4];unfold zp;rw [List.zip_append p2,List.map_append,List.map_append,List.map_append];rfl⟩
   exact ⟨z,_,vR I3 (by rw [e3];exact True.intro) hs ⟨o',d1⟩ (show ObjOk X.prog X.w _ h' a (.ext _) from ⟨new,⟨o',d1⟩,dpP.stay⟩),rz,q4 hn' o'⟩
end
mutual
theorem jQ:∀{d:D} {k:NK},nkD d=some k->X2 k=d
 | .int n,k,h=>by simp only [nkD,Option.some.injEq] at h;subst h;rfl
 | .tup ds,k,h=>by simp only [nkD] at h;obtain ⟨ks,hk,rfl⟩:=Option.map_eq_some_iff.mp h;simp only [X2,Kr hk]
 | .non,_,h=>by simp [nkD] at h
 | .bl _,_,h=>by simp [nkD] at h
 | .str _,_,h=>by simp [nkD] at h
 | .lst _,_,h=>by simp [nkD] at h
 | .dk _ _,_,h=>by simp [nkD] at h
 | .dt _ _,_,h=>by simp [nkD] at h
 | .dn _ _,_,h=>by simp [nkD] at h
 | .scr _,_,h=>by simp [nkD] at h
 | .exc _ _,_,h=>by simp [nkD] at h
 | .obj _ _,_,h=>by simp [nkD] at h
 | .dp _ _,_,h=>by simp [nkD] at h
theorem Kr:∀{ds:List D} {ks:List NK},J2 ds=some ks->S8 ks=ds
 | [],ks,h=>by simp only [J2,Option.some.injEq] at h;subst h;rfl
 | d::ds,ks,h=>by
  simp only [J2] at h;cases h1:nkD d with
  | none=>rw [h1] at h;simp at h
  | some k=>
   cases h2:J2 ds with
   | none=>rw [h1,h2] at h;simp at h
   | some ks'=>
    rw [h1,h2] at h
    simp at h
    subst h
    simp only [S8,jQ h1,Kr h2]
end
def Cz (dk dv:D):Prop:=∃x y c fs k ns,dk=.tup [.str x,y]/\dv=.obj c fs/\nkD y=some k/\J2 fs=some ns/\k.dep<=7/\pdO (x,k)=some (c,ns)
open Classical in
def sRetP (hf:Str->Int) (i:Nat) (m:List Bool) (fs:DE->R (List D)):DS->SR:=fun ρ=>match ρ[i]? with
 | some (.ow (.dp hf' _))=>if hf'=hf then ((fs (vis m ρ)).toS fun ds=>match ds,(o9 (i9 ds) m ρ)[i]? with
  | [dk,dv],some (.ow (.dp hf2 n))=>if hf2=hf/\n<100000/\Cz dk dv then .bk (((o9 (i9 ds) m ρ).set i (.ow (.dp hf (n+1)))).set 0 (.im dv)) else .st
  | _,_=>.st) else .st
 | _=>.st
noncomputable def y0i (is:List Nat) (De:Ends) (U:St):Ends:={ De with nx:=fun σ' H'=>Kp is U σ'->De.nx σ' H',bk:=fun σ' H'=>Kp is U σ'->∃v,σ'[0]?=some (some v)/\De.rt v H',ct:=fun _ _=>False,rt:=fun _ _=>False }
def TSp (K:Frag) (EX:XW) (is:List Nat) (g:DS->SR):TS:=fun De U H=>TSd K EX false g (y0i is De U) U H
structure QP (X:Cx) (EX:XW) (is:List Nat) (st:Stmt) (g:DS->SR):Prop where
 h:PS X st (TSp X.K EX is g)
structure QPB (X:Cx) (EX:XW) (is:List Nat) (sts:List Stmt) (g:DS->SR):Prop where
 h:PSs X sts (TSp X.K EX is g)
section
variable {X:Cx} {EX:XW} {is:List Nat} {st:Stmt} {sts:List Stmt} {c e:Expr} {f:DE->R D} {t:DE->R Bool} {g g1 g2:DS->SR} {pos:Pos} {m:List Bool}
theorem Pp:QPB X EX is [] sNx:=⟨pss_nil.imp fun _ _ _ q=>(Xx q) fun _ _=>rfl⟩
theorem Js (h:QP X EX is st g):QPB X EX is [st] g:=⟨Tj h.h⟩
theorem Fx (h1:QP X EX is st g1) (h2:QPB X EX is sts g2):QPB X EX is (st::sts) (g8 g1 g2):=⟨(Lz h1.h h2.h).imp fun De U H q=>by
 have q:=Ny q;unfold Hj at q ⊢;refine TSd.mon q (fun σ1 H1 n k=>?_) (fun _ _ b=>b) (fun _ _ b=>b) fun _ _ b=>b
 exact TSd.mon n (fun σ2 H2 n2 k2=>n2 (k.trans k2)) (fun σ2 H2 n2 k2=>n2 (k.trans k2)) (fun σ2 H2 n2=>n2) fun _ _ b=>b⟩
theorem Xp (hc:QT X EX c t) (ha:QPB X EX is x g1) (hb:QPB X EX is y g2):QP X EX is (.If c x y pos) (sIf t g1 g2):=⟨(Op hc.h ha.h hb.h).imp fun _ _ _ q=>Nw q⟩
theorem Nl (hni:i∉is) (hN:X.N.Nodup) (hi:X.N[i]?=some x) (hx:Loc X.env.scope x) (he:QE X EX fr' e f) (hs:swapsWith e (some (.Name x pos')) pos.line X.env=pure false:=by rfl) (hf:X.fn x=true\/X.env.scope.names.lookup x=some .local:=by first | exact .inl rfl | exact .inr rfl | assumption) :
  QP X EX is (.Assign [.Name x pos'] e pos) (h9 fr' i m f):=⟨(Qu hN hi hx he.h hs hf).imp fun De U H q=>by
 have q:=Fh q
 unfold O2 B0 at q ⊢
 exact TEd.mono' q fun v H' n=>n (Kp.set hni)⟩
end
section
variable {X:Cx} {EX:XW} {is:List Nat} {o e:Expr} {es:List Expr} {apos cpos pos:Pos} {fs:DE->R (List D)} {m:List Bool} {i:Nat} {x:Str} {xp:Pos}
theorem y2w (h0:0∉is) (h:TSp X.K EX is (sRetP (hashStr X.w) i m fs) De U H):tSD X (w8 i) (TAd X.K EX fs) U H De.rt:=by
 obtain ⟨Hc,Hb,H0,ρ,sb,R,h⟩:=h;unfold sRetP at h;split at h
 . rename_i hf' n0 q0;split at h
   . rename_i ef;subst ef;rw [SK.toS] at h;obtain ⟨a,h1,h2,h3,h4⟩:=R.ow i _ q0;unfold tSD w8;rw [h1];simp only [OB] at h4;obtain ⟨qs,xs,ob,o1,o2,o3⟩:=h4;refine ⟨a,rfl,⟨qs,xs,ob,o1,o2.tk R.ext.2.1.tk⟩,?_⟩;refine ⟨sb.trans R.sb,vis m ρ,HeOf m ρ U H0 H,R.heH m,R.re m,h.mono fun ds h vs H' H0' s e rds=>?_⟩;obtain ⟨H0n,R',rd'⟩:=R.outs s e rds;split at h
     . rename_i dk dv hf2 n q;split at h
       . rename_i hc;obtain ⟨ef,hn,x,y,c,fs',k,ns,rfl,rfl,hk,hns,hdep,hpd⟩:=hc;subst ef;obtain ⟨a',z1,z2,z3,z4⟩:=R'.ow i _ q;rw [h1] at z1;cases z1;have z4':=z4;simp only [OB] at z4;obtain ⟨qs,xs,ob,o1,o2,o3⟩:=z4;simp only [RDs] at rd';obtain ⟨yv,r1,rfl,rk,zv,r2,rfl,rv,rfl⟩:=rd';have s0:Same H0n H':=R'.ext.2.1;obtain ⟨b,ys,rfl,hb,rb⟩:=rk.tup;simp only [RDs] at rb;obtain ⟨x1,_,rfl,rx1,x2,_,rfl,rx2,rfl⟩:=rb;cases rx1.str;have tkr:TKr H0n (x,k) (.ref b):=⟨b,x2,rfl,hb,Pt hk rx2⟩;have end_:∀(zv:V) (H3:Hp) (H03:Hp),RS X.K Hc Hb H03 ((o9 (i9 [D.tup [D.str x,y],D.obj c fs']) m ρ).set i (.ow (.dp (hashStr X.w) (n+1)))) U H3->RD X.K H03 (.obj c fs') zv->De.rt zv H3:=fun zv H3 H03 R3 r3=>by have hl:0<U.length:=Nat.lt_of_le_of_lt (Nat.zero_le i) (List.getElem?_eq_some_iff.mp h1).1;obtain ⟨v,hv,hr⟩:=h (U.set 0 (some zv)) H3 H03 (R3.put (fr:=false) (by unfold Apt;rw [ξ θ];exact r3) 0) (Kp.set h0);rw [List.getElem?_set_self hl] at hv;cases hv;exact hr
         refine ⟨_,zv,(x,k),b,qs,xs,ob,rfl,rfl,o1,o2.tk s0.tk,tkr.tk fun a ys q=>s0 _ _ q,hdep,by rw [sizeLine_eq];omega,fun j cc x' hj hx'=>?_,fun hno ob'=>?_⟩
         . have po:=o2.2.2.2.2 (((x,k),cc),x') (List.mem_iff_getElem?.mpr ⟨j,List.getElem?_zip_eq_some.mpr ⟨hj,hx'⟩⟩);obtain ⟨c',ns',b',C,dx,us,e1,e2,e3,e4,e5,e6⟩:=po;rw [hpd] at e1;cases e1;obtain ⟨_,_,_,_,_,_,_,_,n4,_⟩:=rv.obj;have r3:RD X.K H0n (.obj c fs') x':=by simp only [RD];refine ⟨b',C,dx,us,e2,e3,e4,e5,n4,?_⟩;rw [<-Kr hns];exact Ju e6
           refine end_ x' H' H0n (R'.hidden q h1 (fun b o hh=>?_) ⟨Same.refl _,s0,fun a ha e=>.inl e⟩ z2 ?_) r3
           . unfold hid at hh;split at hh
             . cases hh
             . exact hh
           . simp only [OB];exact ⟨qs,xs,ob,o1,o2,by omega⟩
         . obtain ⟨za,C,dx,us,rfl,n1,n2,n3,n4,n5⟩:=id rv.obj;refine end_ _ _ H0n (R'.mutate q h1 ?_) rv;simp only [OB];refine ⟨_,_,ob',u8,⟨?_,fun q hq=>?_,o2.2.2.1,by simp [o2.2.2.2.1],fun p hp=>?_⟩,by simp;omega⟩
           . rw [List.map_append,List.map_cons,List.map_nil];refine List.nodup_append.mpr ⟨o2.1,by simp,fun x1 hx1 y1 hy1 e=>?_⟩;rw [List.mem_singleton.mp hy1] at e;obtain ⟨w1,hw1,hw2⟩:=List.mem_map.mp hx1;obtain ⟨j,hj⟩:=List.mem_iff_getElem?.mp hw1;exact hno j w1.2 (by rw [hj];exact congrArg some (Prod.ext (hw2.trans e) rfl))
           . rcases List.mem_append.mp hq with z | z
             . exact o2.2.1 q z
             . rw [List.mem_singleton.mp z];exact ⟨tkr,hdep⟩
           . rw [List.zip_append o2.2.2.2.1] at hp;rcases List.mem_append.mp hp with z | z
             . exact o2.2.2.2.2 p z
             . rw [show p=(((x,k),b),V.ref za) by simpa using z];exact ⟨c,ns,za,C,dx,us,hpd,rfl,n1,n2,n3,Ks hns n5⟩
       . exact h.elim
     . exact h.elim
   . exact h.elim
 . exact h.elim
theorem Hr (hu:X.A.units+64<cLine) (h0:0∉is) (ho:PE X (.Name x xp) (w8 i)) (ha:QA X EX (e::es) fs)
 (hbase:attributeBase (.Name x xp) "setdefault" X.env (eval (.Name x xp) X.env)=eval (.Name x xp) X.env:=by rfl)
 (hfew:((backTo cpos (starEach (e::es) X.env)).all (fun x=>!x.1)&&(backToKw cpos (keywordEach [] X.env)).all (fun x=>x.1.isSome)
  && decide ((e::es).length+([]:List Keyword).length+(if ([]:List Keyword).isEmpty then 0 else 1)<30))=true:=by rfl)
 (hline:(apos.endLine==cpos.line)=true:=by rfl) (hs:starEach (e::es) X.env=(false,eval e X.env)::starEach es X.env:=by rfl) (hplain:(backTo cpos (starEach es X.env)).any (·.1)=false:=by rfl) :
 QP X EX is (.Return (some (.Call (.Attribute (.Name x xp) "setdefault" apos) (e::es) [] cpos)) pos) (sRetP (hashStr X.w) i m fs):=⟨(Kh (y0h hu ho ha.h hbase hfew hline hs hplain)).imp fun _ _ _ q=>y2w h0 q⟩
end
noncomputable def Fb (hf:Str->Int):DE->R D:=fun _=>.ok (.dp hf 0)
section
variable {X:Cx} {EX:XW} {pos:Pos} {hf:Str->Int}
theorem pe_dnewP:PE X (.Dict [] [] pos) (fun _ H Q=>∀p ob,H p=none->(p==sysModules)=false->Q (.ref p) (upd H p (.ext (dpP hf p [] [] ob)))):=fun pins s U H Q I h=>
 wpAny_Dict_empty ⟨.ref s.heap.objs.size,_,I.laid (a:=s.heap.objs.size) (o:=.ext (dpP hf s.heap.objs.size [] [] { cls:=.type "dict",data:=.dict #[] })) (t':=s.toks) (fun _ _ q=>τ _ q) (η _) ⟨⟨Ψ _ rfl,[],#[],0,.nil,rfl,⟨rfl,rfl,rfl⟩,rfl,rfl⟩,⟨_,Ψ _ rfl⟩,dpP.stay⟩,rfl,h _ _ (I.hok.fresh (η _)) (beq_eq_false_iff_ne.mpr (Ne.symm (Nat.ne_of_lt I.big)))⟩
theorem jP:QE X EX true (.Dict [] [] pos) (Fb hf):=⟨pe_dnewP.imp fun U H Q ⟨sx,ρ,H0,s,e,h⟩ p ob hp hq=>h _ _ (.new s hp fun H' hH=>by simp only [OB];exact ⟨[],[],ob,hH,⟨List.nodup_nil,fun q hq=>(by simp at hq),hq,rfl,fun p hp=>(by simp at hp)⟩,Nat.zero_le _⟩)⟩
end
def spP (K:Frag) (mP:List D->R (D×D)) (n:Nat):Sp:=fun vs H Q _=>∃(ds:List D) (ws:List V) (p:D) (a:Addr) (H0:Hp),vs=ws++[.ref a]/\ds.length=n/\Same H0 H/\H0 a=none/\OB K H0 H a p/\RDs K H0 ds ws /\
 Rk (fun _=>False) (mP (ds++[p])) fun r=>∀v H' H0',Same (hid [a] H) H'->Ext H0 (hid [a] H) H0' H'->H0' a=none->OB K H0' H' a r.2->RD K H0' r.1 v->Q v H'
noncomputable def mPl (n k:Nat) (g:DS->SR):List D->R (D×D):=fun ds=>if ds.length=n+1 then (match g ((ds.take n).map .im++((ds.drop n).map .ow++List.replicate k .em)) with
 | .bk ρ=>(match (ρ[0]?:Option Sl),(ρ[n]?:Option Sl) with
  | some (.im d),some (.ow p)=>.ok (d,p)
  | _,_=>.st)
 | _=>.st) else .st
theorem jO {K:Frag} {H0 H:Hp} {p:D} {ds:List D} {a:Addr} {ws:List V} (s:Same H0 H) (h0:H0 a=none) (ob:OB K H0 H a p) (r:RDs K H0 ds ws) (k:Nat) :
  RS K H0 (hid [a] H) H0 (ds.map .im++([p].map .ow++List.replicate k .em)) (ws.map some++([some (.ref a)]++List.replicate k none)) H:=by
 have hl:=r.length
 have cases_:∀(i:Nat) (s:Sl),(ds.map Sl.im++([p].map Sl.ow++List.replicate k Sl.em))[i]?=some s->(∃e,s=.im e/\ds[i]?=some e)\/(i=ds.length/\s=.ow p)\/s=.em:=fun i s q=>by
  by_cases hi:i<ds.length
  . rw [List.getElem?_append_left (by simpa using hi),List.getElem?_map,List.getElem?_eq_getElem hi] at q;exact .inl ⟨ds[i],(Option.some.inj q).symm,List.getElem?_eq_getElem hi⟩
  . rw [List.getElem?_append_right (by simpa using hi),List.length_map] at q;by_cases he:i=ds.length
    . subst he;rw [Nat.sub_self] at q;cases q;exact .inr (.inl ⟨rfl,rfl⟩)
    . obtain ⟨j,hj⟩:∃j,i - ds.length=j+1:=⟨i - ds.length - 1,by omega⟩;rw [hj] at q;exact .inr (.inr (List.mem_replicate.mp (List.mem_of_getElem? (l:=List.replicate k Sl.em) (i:=j) q)).2)
 have one:∀(i:Nat) e,(ds.map Sl.im++([p].map Sl.ow++List.replicate k Sl.em))[i]?=some (.ow e)->i=ds.length/\p=e:=fun i e q=>by
  rcases cases_ i _ q with ⟨_,z,_⟩ | ⟨z,z'⟩ | z
  . cases z
  . cases z';exact ⟨z,rfl⟩
  . cases z
 refine ⟨fun b o h=>?_,⟨Same.refl _,s,fun a ha e=>.inl e⟩,by simp [hl],fun i e q=>?_,fun i e q=>?_,fun i j e e' b qi qj si sj=>?_⟩
 . unfold hid at h;split at h
   . cases h
   . exact h
 . rcases cases_ i _ q with ⟨e',z,q'⟩ | ⟨_,z⟩ | z
   . cases z;obtain ⟨w,hw,rw'⟩:=r.atR i e q';refine ⟨w,?_,rw'⟩;have hi:i<ws.length:=by apply Classical.byContradiction;intro hn;rw [List.getElem?_eq_none (by omega)] at hw;cases hw
     rw [List.getElem?_append_left (by simpa using hi),List.getElem?_map,hw];rfl
   . cases z
   . cases z
 . obtain ⟨rfl,rfl⟩:=one i e q;refine ⟨a,?_,h0,jV (List.mem_singleton.mpr rfl),ob⟩;rw [List.getElem?_append_right (by simp [hl]),List.length_map,hl,Nat.sub_self];rfl
 . obtain ⟨rfl,_⟩:=one i e qi;obtain ⟨rfl,_⟩:=one j e' qj;rfl
theorem fnP {P:Program} {w:World} {K:Frag} {mg:Str->Option Value} {base:Heap} {x qual:Str} {st:Stmt} {f:Addr} {fd:FuncData} {N ps:List Str} {k n kk:Nat} {g:DS->SR} (F:Fun K x qual st f fd) (S:FnScope N ps (g7 st)) (hps:ps.length=n+1) (hN:N.length=n+1+kk)
  (hbody:∀(cdv:Value) (A:Around) (outer:List Env) (s:Shared) (H:Hp) (E:XK),Room k (A.deeper (envOfC qual (g7 st) s.heap.objs.size f cdv)) ->
   QPB (E3 (CX1 P w) P w K mg base N qual (g7 st) f cdv A outer s H E) F0 [n] (j7 st) g):FnOk P w K mg base (CX1 P w) (k+1) f fd ps (spP K (mPl n kk g) n):=by
 refine F.okX S (fun vs H Q E h=>?_) (fun cdv A outer s H vs Q E hr h=>?_)
 . obtain ⟨ds,ws,p,a,H0,rfl,hn,_,_,_,r,_⟩:=h;rw [hps,χ,<-r.length,hn];rfl
 . refine ⟨_,(hbody cdv A outer s H E hr).h,?_⟩;obtain ⟨ds,ws,p,a,H0,rfl,hn,s0,h0,ob,r,h⟩:=h;have hlw:ws.length=n:=by rw [<-r.length];exact hn
   have e:z8 N (ws++[.ref a])=ws.map some++([some (.ref a)]++List.replicate kk none):=by unfold z8;rw [hN,show n+1+kk - (ws++[V.ref a]).length=kk by simp [hlw],List.map_append,List.append_assoc];rfl
   rw [e];refine ⟨H0,hid [a] H,H0,_,F0.same _,jO s0 h0 ob r kk,?_⟩;unfold mPl at h;rw [ζ (by simp [hn]),List.take_left' hn,List.drop_left' hn] at h;cases q:g (ds.map .im++([p].map .ow++List.replicate kk .em)) with
   | bk ρ=>
    rw [q] at h
    simp only at h
    intro σ' H' H0' RR kp
    split at h
    . rename_i d p' q1 q2;obtain ⟨v,y1,y2⟩:=RR.im 0 d q1;obtain ⟨a',z1,z2,z3,z4⟩:=RR.ow n p' q2;have:=kp n (List.mem_singleton.mpr rfl);rw [z1,List.getElem?_append_right (by simp [hlw]),List.length_map,hlw,Nat.sub_self] at this;cases this;exact ⟨v,y1,h v H' H0' RR.sb RR.ext z2 z4 y2⟩
    . exact h.elim
   | nx ρ=>rw [q] at h;exact h.elim
   | rt d=>rw [q] at h;exact h.elim
   | er x=>rw [q] at h;exact h.elim
   | ct ρ=>rw [q] at h;exact h.elim
   | st=>rw [q] at h;exact h.elim
def X1 (i j:Nat) (m:List Bool) (mP:List D->R (D×D)) (n:Nat) (fs:DE->R (List D)):DS->SR:=fun ρ=>match ρ[i]? with
 | some (.ow (.lst _))=>(fs (vis m ρ)).toS fun ds=>(match (o9 (i9 ds) m ρ)[i]?,(o9 (i9 ds) m ρ)[j]? with
  | some (.ow (.lst xs)),some (.ow p)=>if i≠j/\xs.length<100000/\ds.length=n then (match mP (ds++[p]) with
   | .ok (d,p')=>.nx (((o9 (i9 ds) m ρ).set j (.ow p')).set i (.ow (.lst (xs++[d]))))
   | _=>.st) else .st
  | _,_=>.st)
 | _=>.st
noncomputable def Fa (t:TA) (u:TE):TA:=fun U H Q=>t U H fun vs H1=>u U H1 fun v H2=>Q (vs++[v]) H2
section
variable {K:Frag} {EX:XW} {fr:Bool} {De:Ends} {U:St} {H:Hp} {m:List Bool}
theorem jN (hm:Cb K A3 r) (h:TSd K EX fr (X1 i j m mP n fs) De U H) :
  X9 (tBM K "list" r (w8 i) (J8 (Y9 (spP K mP n) E (Fa (TAd K EX fs) (w8 j))) O0)) De U H:=by
 obtain ⟨Hc,Hb,H0,ρ,sb,R,h⟩:=h
 unfold X1 at h
 split at h
 . rename_i xs0 q0;rw [SK.toS] at h;obtain ⟨ai,i1,i2,i3,i4⟩:=R.ow i _ q0;unfold X9 tBM w8;rw [i1];refine ⟨U1 H0 H ai _ i4 rfl,?_⟩;show Y9 (spP K mP n) E (Fa (TAd K EX fs) (w8 j)) U H fun x H1=>O0 U H1 fun xs H2=>r (.ref ai) (x::xs) H2 _
   unfold Y9 Fa;refine ⟨sb.trans R.sb,vis m ρ,HeOf m ρ U H0 H,R.heH m,R.re m,h.mono fun ds h vs H' H0' s e rds=>?_⟩;obtain ⟨H0n,R',rd'⟩:=R.outs s e rds;split at h
   . rename_i xs p qi qj;split at h
     . rename_i hc;obtain ⟨hij,hx,hn⟩:=hc;split at h
       . rename_i d p' qm;obtain ⟨aj,j1,j2,j3,j4⟩:=R'.ow j _ qj;unfold w8;rw [j1];refine ⟨ds,vs,p,aj,H0n,rfl,hn,R'.ext.2.1,j2,j4,rd',?_⟩;rw [qm];intro v H2 H02 s2 e2 n2 ob rd;have R1:=R'.hidden qj j1 s2 e2 n2 ob;have qi':((o9 (i9 ds) m ρ).set j (.ow p'))[i]?=some (.ow (.lst xs)):=by rw [List.getElem?_set_ne (Ne.symm hij)];exact qi
         obtain ⟨a',z1,z2,z3,z4⟩:=R1.ow i _ qi';rw [i1] at z1;cases z1;show r (.ref ai) [v] H2 _;refine hm H02 H2 ai (.lst xs) (.lst (xs++[d])) [d] [v] _ R1.ext.2.1 z2 z4 (.one rd) (by simp only [A3,hx,if_true]) fun v' o ob=>?_
         exact h U _ H02 (R1.mutate qi' i1 ob)
       . exact h.elim
     . exact h.elim
   . exact h.elim
 . exact h.elim
end
section
variable {X:Cx} {EX:XW} {fr:Bool}
theorem jM (ho:PE X (.Name x xp) (w8 i)) (G:i0 X.prog X.w X.K X.mg X.base fn ps kl (spP X.K mP 2)) (hr:Room jj X.A) (hg:Gl X fn) (h0:QE X EX false e0 f0) (h1:QE X EX false e1 f1) (h2:PE X e2 (w8 j)) (hkj:kl<=jj:=by omega) (hdb:(fn==("__debug__":Str))=false:=by decide)
  (he:starEach [e0,e1,e2] X.env=(false,eval e0 X.env)::starEach [e1,e2] X.env:=by rfl) (he1:starEach [e1,e2] X.env=(false,eval e1 X.env)::starEach [e2] X.env:=by rfl) (he2:starEach [e2] X.env=(false,eval e2 X.env)::starEach [] X.env:=by rfl) (hpl:(backTo cp (starEach [e1,e2] X.env)).any (·.1)=false:=by rfl)
  (hbase:attributeBase (.Name x xp) "append" X.env (eval (.Name x xp) X.env)=eval (.Name x xp) X.env:=by rfl)
  (hfew:((backTo cpos (starEach [.Call (.Name fn fp) [e0,e1,e2] [] cp] X.env)).all (fun x=>!x.1)&&(backToKw cpos (keywordEach [] X.env)).all (fun x=>x.1.isSome)
   && decide ([Expr.Call (.Name fn fp) [e0,e1,e2] [] cp].length+([]:List Keyword).length+(if ([]:List Keyword).isEmpty then 0 else 1)<30))=true:=by rfl)
  (hline:(apos.endLine==cpos.line)=true:=by rfl) (hs:starEach [.Call (.Name fn fp) [e0,e1,e2] [] cp] X.env=(false,eval (.Call (.Name fn fp) [e0,e1,e2] [] cp) X.env)::starEach [] X.env:=by rfl) (hplain:(backTo cpos (starEach [] X.env)).any (·.1)=false:=by rfl)
  (hsw:swapsWith (.Call (.Attribute (.Name x xp) "append" apos) [.Call (.Name fn fp) [e0,e1,e2] [] cp] [] cpos) none pos.line X.env=pure false:=by rfl) :
  QS X EX fr (.Expr (.Call (.Attribute (.Name x xp) "append" apos) [.Call (.Name fn fp) [e0,e1,e2] [] cp] [] cpos) pos) (X1 i j m mP 2 (d7 f0 (d7 f1 d9))):=
 have pa:PA X [e0,e1,e2] (Fa (TAd X.K EX (d7 f0 (d7 f1 d9))) (w8 j)):=(G8 h0.h (G8 h1.h (G8 h2 pa_nil he2) he1) he).imp fun U H Q q=>by
  have q:=Dh (EX:=EX) q;refine TEd.mono' q fun v H1 q1=>?_
  refine TEd.mono' (Dh q1) fun v2 H2 q2=>?_
  exact Hx q2
 ⟨(Lf (Om PySem.F.plainAttrs_list PySem.F.slot_list_append PySem.F.type_list_append V1 ho (G8 (Sx G (N9 (X:=X)).on hr hg pa hkj hdb he hpl) pa_nil hs) hbase hfew hline hs hplain) hsw).imp fun _ _ _ q=>jN Y6 q⟩
end
theorem RDs.rev {K:Frag} {H:Hp}:∀{ds:List D} {xs:List V},RDs K H ds xs->RDs K H ds.reverse xs.reverse
 | [],xs,h=>by simp only [RDs] at h;subst h;simp [RDs]
 | d::ds,xs,h=>by simp only [RDs] at h;obtain ⟨x,r,rfl,h1,h2⟩:=h;rw [List.reverse_cons,List.reverse_cons];exact RDs.append (RDs.rev h2) (RDs.one h1)
section
variable {prog:Program} {w:World} {A:Around} {E:Value->Shared->Prop} {s:Shared} {it l:Addr}
theorem qZ (st:s.heap.IsRevIter it l i) (hq:Q false s):wpAny (model prog w) A (Builtin.List.listLengthHint (.ref it)) Q E s:=by obtain ⟨o,e,c,d⟩:=st;have ty:s.TypeIs (.ref it) "list_reverseiterator":=⟨o,e,c⟩;have l1:typeLookup (.type "list_reverseiterator") "__len__"=pure none:=rfl;have l2:typeLookup (.type "list_reverseiterator") "__length_hint__"=pure (some (.builtin "list_reverseiterator.__length_hint__")):=rfl;unfold Builtin.List.listLengthHint;refine δ (wpAny_specialOf ty l1 ?_);dsimp only;rw [ξ (by decide),ξ (by decide)];refine δ (wpAny_specialOf ty l2 ?_);dsimp only;rw [show splitId "list_reverseiterator.__length_hint__"=some ("list_reverseiterator","__length_hint__") by decide +kernel];dsimp only;refine δ (wpAny_isInstance (T:="list_reverseiterator") (b:=true) ty (by rfl) ?_);rw [ξ (by decide),ζ (by decide +kernel),ξ (by decide +kernel)];exact ω hq
theorem wF (hh:A.handled=none) (its:Array Value) (hne:l≠it) :
  Walks prog w A it [it,l] [it] its.size (fun i v=>its[its.size - 1 - i]?=some v) (fun i h=>h.IsRevIter it l ((its.size:Int) - 1 - i)/\h.IsList l its) where
 sub:=fun b hb=>by simp at hb;simp [hb]
 frame:=fun i h h' st kp=>⟨st.1.at fun o e=>kp it (by simp) o e,by obtain ⟨o,e,r⟩:=st.2;exact ⟨o,kp l (by simp) o e,r⟩⟩
 item:=fun i s Q E hi st k=>by
  have ei:(its.size:Int) - 1 - i=((its.size - 1 - i:Nat):Int):=by omega
  rw [ei] at st;have hx:its[its.size - 1 - i]?=some its[its.size - 1 - i]:=by simp
  refine wpAny_pyNext_rev_item st.1 st.2 hx fun h' st' sb=>k _ h' s.toks hx ⟨?_,?_⟩ fun b o hb e=>(sb.2 b (fun z=>hb (by simp [z]))).trans e
  . rw [show (its.size:Int) - 1 - ((i+1:Nat):Int)=((its.size - 1 - i:Nat):Int) - 1 by omega];exact st'
  . obtain ⟨o,e,r⟩:=st.2;exact ⟨o,(sb.2 l hne).trans e,r⟩
 done:=fun s Q E st k=>by rw [show (its.size:Int) - 1 - (its.size:Int)=-1 by omega] at st;exact wpAny_pyNext_rev_end hh st.1 fun h' eb=>k h' s.toks fun b o hb e=>eb b o (fun z=>hb (by simp [z])) e
 self:=fun _ _ _ _ st k=>wpAny_pyIter_revIter st.1 k
theorem qY (hh:A.handled=none) (st:s.heap.IsRevIter it l ((its.size:Int) - 1)) (hl:s.heap.IsList l its) (hne:l≠it) (hz:its.size<=sizeLine)
  (k:∀(h':Heap) (tk:Nat) (acc:Array Value) (c:Nat),(∀b o,b≠it->s.heap.get? b=some o->h'.get? b=some o)->h'.get? s.heap.objs.size=some { cls:=.type "list",data:=.seq acc c }->ItemsOf (fun i v=>its[its.size - 1 - i]?=some v) acc its.size->Q (.ref s.heap.objs.size) { s with heap:=h',toks:=tk }) :
  wpAny (model prog w) A (call (.type "list") [.ref it]) Q E s:=by
 obtain ⟨oi,ei,ci,di⟩:=id st
 obtain ⟨ol,el,rl⟩:=id hl
 have hit:it<s.heap.objs.size:=π ei
 have hlt:l<s.heap.objs.size:=π el
 have n1:s.heap.objs.size≠it:=Nat.ne_of_gt hit
 have n2':s.heap.objs.size≠l:=Nat.ne_of_gt hlt
 refine callType_codes F.called_list (F.typeCall_list_1 _) F.entry_list_init (code_list_new (Q₁:=fun v s1=>v=.ref s.heap.objs.size/\s1={ s with heap:=s.heap.push { cls:=.type "list",data:=.seq #[] } }) (.ref it) ⟨rfl,rfl⟩) ?_
 rintro obj s1 ⟨rfl,rfl⟩
 have e1:(s.heap.push { cls:=.type "list",data:=.seq #[] }).get? s.heap.objs.size=some { cls:=.type "list",data:=.seq #[] }:=Ψ _ rfl
 refine ⟨⟨_,e1,rfl⟩,F.args_list_init_2 _ _,?_⟩
 unfold Builtin.«list.__init__»
 dsimp only
 rw [ξ (by decide),ξ (by simp)]
 refine δ (δ (wpAny_seqItems e1 rfl (ω ?_)))
 refine δ (wpAny_updateSeq e1 rfl ?_ (Nat.zero_le _) (Nat.zero_le _))
 refine δ (wpAny_letGo ?_)
 dsimp only
 obtain ⟨h2,eh2⟩:∃h2,h2=(s.heap.push { cls:=.type "list",data:=.seq #[] }).update s.heap.objs.size (Obj.mapSeq fun _=>#[]):=⟨_,rfl⟩
 rw [<-eh2]
 have e2:∃n,h2.get? s.heap.objs.size=some { cls:=.type "list",data:=.seq #[] n }:=by rw [eh2];exact ⟨_,Heap.get?_update_self _ e1 rfl⟩
 obtain ⟨n2,e2⟩:=e2
 have keep:∀b o,s.heap.get? b=some o->h2.get? b=some o:=fun b o q=>by rw [eh2,Heap.get?_update_ne _ _ _ _ (Nat.ne_of_lt (π q))];exact τ _ q
 have st2:h2.IsRevIter it l ((its.size:Int) - 1):=⟨oi,keep _ _ ei,ci,di⟩
 have hl2:h2.IsList l its:=⟨ol,keep _ _ el,rl⟩
 unfold Builtin.List.listExtendWith
 refine δ (wpAny_typeOf ⟨oi,keep _ _ ei,ci⟩ ?_)
 have hns:(Builtin.List.listSameRef (.ref s.heap.objs.size) (.ref it)||(Value.type "list_reverseiterator"==Value.type "list")||(Value.type "list_reverseiterator"==Value.type "tuple"))=false:=by
  have:Builtin.List.listSameRef (.ref s.heap.objs.size) (.ref it)=false:=by unfold Builtin.List.listSameRef;simp [n1]
  rw [this];decide
 rw [hns,ξ θ]
 refine δ (wpAny_pyIter_revIter st2 ?_)
 refine δ (wpAny_holding (qZ st2 ?_))
 dsimp only
 rw [ξ (by decide +kernel)]
 refine ω ⟨plainId_quiet F.plain_extend_loop _,?_⟩
 refine codeAny_extend_loopS (wF (A:=A.in1.in1) (by exact hh) its hne).toS hz s.heap.objs.size (by simp [n1,n2']) .none its.size 0 _ #[] n2 (by omega) (Nat.zero_le _) ⟨by simpa using st2,hl2⟩ e2 ⟨rfl,fun j v q=>by simp at q⟩ fun s' acc c mv e3 it3=>?_
 rw [mv.eq_with]
 refine ⟨rfl,k s'.heap s'.toks acc c (fun b o hb q=>mv.heap b o (by simp;exact ⟨Nat.ne_of_lt (π q),hb⟩) (keep b o q)) e3 it3⟩
end
noncomputable def X0:D->Option D
 | .lst ds=>some (.lst ds.reverse)
 | _=>none
def y2x (tl:TE):TE:=fun U H Q=>tl U H fun x H1=>∃a xs,[x]=[V.ref a]/\H1 a=some (.lst xs)/\∀p,H1 p=none->Q (.ref p) (upd H1 p (.lst xs.reverse))
section
variable {X:Cx} {EX:XW} {l:Expr} {p q pos pos':Pos}
theorem jL (hc:X.calm=true) (hg:Gl X "list") (hm:X.mg "list"=none) (hg2:Gl X "reversed") (hm2:X.mg "reversed"=none) (hl:PE X l tl) (he:starEach [l] X.env=(false,eval l X.env)::starEach [] X.env:=by rfl) (hpl:(backTo pos' (starEach [] X.env)).any (·.1)=false:=by rfl)
  (he2:starEach [.Call (.Name "reversed" q) [l] [] pos'] X.env=(false,eval (.Call (.Name "reversed" q) [l] [] pos') X.env)::starEach [] X.env:=by rfl) (hpl2:(backTo pos (starEach [] X.env)).any (·.1)=false:=by rfl) :
  PE X (.Call (.Name "list" p) [.Call (.Name "reversed" q) [l] [] pos'] [] pos) (y2x tl):=by
 intro pins s U H Q I h
 refine wpAny_Call_Name_kw (T6 I hg hm boot_list ?_ (by decide) (by decide))
 refine PyProof.Rows.callWith_type1 ?_ he2 hpl2
 rw [he2]
 show wpAny _ _ (spliced ((false,eval (.Call (.Name "reversed" q) [l] [] pos') X.env)::backTo pos (starEach [] X.env))) _ _ s
 refine Calls.spliced_cons ?_
 refine wpAny_Call_Name_kw (T6 I hg2 hm2 boot_reversed ?_ (by decide) (by decide))
 have hA:PA X [l] (J8 tl O0):=G8 hl pa_nil he
 refine PyProof.Rows.callWith_type1 (thn (hA pos' pins s U H (fun vs H1=>∃a xs,vs=[V.ref a]/\H1 a=some (.lst xs)/\∀p,H1 p=none->Q (.ref p) (upd H1 p (.lst xs.reverse))) I h) fun us s1 ⟨vs,H1,I1,r1,a,xs,ev,ha,hR⟩=>?_) he hpl
 subst ev
 obtain ⟨u,rfl,ru⟩:=A9 r1
 cases ru
 obtain ⟨z,its,n,rv,hlen,e⟩:=I1.lstM ha
 have p:s1.heap.IsList a its.toArray:=⟨_,e,rfl,_,rfl⟩
 have kp:∀c o,s1.heap.get? c=some o->(s1.heap.push (revObj a ((its.toArray.size:Int) - 1))).get? c=some o:=fun c o e=>τ _ e
 refine call_reversed_list p ?_
 refine Calls.spliced_nil ?_
 have st:(s1.heap.push (revObj a ((its.toArray.size:Int) - 1))).IsRevIter s1.heap.objs.size a ((its.toArray.size:Int) - 1):=⟨_,Ψ _ rfl,rfl,rfl⟩
 have hne:a≠s1.heap.objs.size:=Nat.ne_of_lt (π e)
 have hz:its.toArray.size<=sizeLine:=by rw [List.size_toArray,<-hlen];exact z
 refine qY (s:={ s1 with heap:=s1.heap.push (revObj a ((its.toArray.size:Int) - 1)) }) (I1.ok.hd hc) st ⟨_,kp _ _ e,rfl,_,rfl⟩ hne hz fun h' tk acc c k3 e3 it3=>?_
 rw [Heap.size_push] at e3 ⊢
 have kk:∀b u,s1.heap.get? b=some u->h'.get? b=some u:=fun b u q=>k3 b u (Nat.ne_of_lt (π q)) (kp b u q)
 have hv:Vals xs.reverse acc.toList:=by
  have hs:acc.size=its.length:=by rw [it3.1,List.size_toArray]
  refine Sb (by simp [hs,hlen]) fun i x u hx hu=>?_
  have hi:i<xs.length:=by have:=(List.getElem?_eq_some_iff.mp hx).1;simpa using this
  rw [List.getElem?_reverse hi] at hx;have hu2:=it3.2 i u (by simpa using hu);rw [List.size_toArray,List.getElem?_toArray,<-hlen] at hu2;obtain ⟨u',h1,h2⟩:=rv.get hx;rw [h1] at hu2;cases hu2;exact h2
 have I2:=I1.laid (h':=h') (t':=tk) (a:=s1.heap.objs.size+1) (o:=.lst xs.reverse) kk (Nat.le_succ _) ⟨by rw [List.length_reverse];exact z,acc.toList,c,hv,by simpa using e3⟩
 exact ⟨.ref (s1.heap.objs.size+1),_,I2,rfl,hR _ (I1.hok.fresh (Nat.le_succ _))⟩
theorem Nk (hc:X.calm=true) (hg:Gl X "list") (hm:X.mg "list"=none) (hg2:Gl X "reversed") (hm2:X.mg "reversed"=none) (hl:QE X EX false l f) (he:starEach [l] X.env=(false,eval l X.env)::starEach [] X.env:=by rfl) (hpl:(backTo pos' (starEach [] X.env)).any (·.1)=false:=by rfl)
  (he2:starEach [.Call (.Name "reversed" q) [l] [] pos'] X.env=(false,eval (.Call (.Name "reversed" q) [l] [] pos') X.env)::starEach [] X.env:=by rfl) (hpl2:(backTo pos (starEach [] X.env)).any (·.1)=false:=by rfl) :
  QE X EX true (.Call (.Name "list" p) [.Call (.Name "reversed" q) [l] [] pos'] [] pos) (eUn X0 f):=⟨(jL hc hg hm hg2 hm2 hl.h he hpl he2 hpl2).imp fun U H Q ⟨sx,ρ,H0,s,e,h⟩=>by
 unfold eUn at h
 rw [Rk.bind] at h
 refine TEd.go sx s e h fun d h v H1 H1' s1 e1 r1=>?_
 obtain ⟨z,hz,h⟩:=h.of
 cases d<;>first | (cases hz;done) | skip
 cases hz
 obtain ⟨a,xs,rfl,ha,ra⟩:=r1.lst
 exact ⟨a,xs,rfl,e1.2.1 _ _ ha,fun p hp=>h _ _ ((Out.new e1.2.1 hp fun H' hH=>by simp only [OB];exact ⟨_,hH,ra.rev⟩).after s1 e1)⟩⟩
end
section
variable {prog:Program} {w:World} {A:Around} {E:Value->Shared->Prop} {s:Shared} {κ:SortKind} {a₀:Array Keyed} {rk:Keyed->Nat}
noncomputable def tk (rk:Keyed->Nat) (xs:Array Keyed) (i:Nat):Nat:=match xs[i]? with
 | some p=>rk p
 | none=>0
def W9 (prog:Program) (w:World) (A:Around) (E:Value->Shared->Prop) (s:Shared) (κ:SortKind) (a₀:Array Keyed) (rk:Keyed->Nat):Prop:=
 ∀x y,x∈a₀->y∈a₀->∀(st:SortSt) (Q:Option Bool->SortSt->Prop),kindOf st=κ->Q (some (decide (rk x<rk y))) st->wpS (model prog w) A E s (lt' x y) Q st
structure TBs (κ:SortKind) (a₀:Array Keyed) (st:SortSt):Prop where
 perm:(arrOf st).Perm a₀
 kind:kindOf st=κ
 ok:failedOf st=none
def TSo (rk:Keyed->Nat) (xs:Array Keyed) (lo hi:Nat):Prop:=∀i j,lo<=i->i<=j->j<hi->tk rk xs i<=tk rk xs j
theorem Ez (h:i<xs.size):tk rk xs i=rk xs[i]:=by unfold tk;rw [getElem?_pos xs i h]
theorem Gf (h:xs[i]?=ys[j]?):tk rk xs i=tk rk ys j:=by unfold tk;rw [h]
theorem TBs.size {st:SortSt} (B:TBs κ a₀ st):(arrOf st).size=a₀.size:=B.perm.size_eq
theorem TBs.mem {st:SortSt} (B:TBs κ a₀ st) {x:Keyed} (h:x∈arrOf st):x∈a₀:=Array.mem_def.mpr ((Array.perm_iff_toList_perm.mp B.perm).mem_iff.mp (Array.mem_def.mp h))
theorem TBs.set {st:SortSt} (B:TBs κ a₀ st) {xs:Array Keyed} (hp:xs.Perm (arrOf st)):TBs κ a₀ (setArr st xs):=⟨hp.trans B.perm,B.kind,B.ok⟩
theorem Po {st:SortSt} {xs:Array Keyed} {i:Nat} {Q:Keyed->SortSt->Prop} (h:i<xs.size) (q:Q xs[i] st):wpS (model prog w) A E s (elem' xs i) Q st:=by rw [elem'_eq,getElem?_pos xs i h];exact wpS_pure q
theorem V8 (hc:W9 prog w A E s κ a₀ rk) {st:SortSt} (B:TBs κ a₀ st) {i j:Nat} (hi:i<a₀.size) (hj:j<a₀.size) {Q:Option Bool->SortSt->Prop}
  (h:Q (some (decide (tk rk (arrOf st) i<tk rk (arrOf st) j))) st):wpS (model prog w) A E s (ltAt' i j) Q st:=by
 rw [ltAt'_eq]
 have hi':i<(arrOf st).size:=by rw [B.size];exact hi
 have hj':j<(arrOf st).size:=by rw [B.size];exact hj
 rw [Ez hi',Ez hj'] at h
 refine γ (wpS_get (γ (Po hi' (γ (Po hj' ?_)))))
 exact hc _ _ (B.mem (Array.getElem_mem _)) (B.mem (Array.getElem_mem _)) st Q B.kind h
theorem Md (hj:j<=xs.size) (k:Nat):tk rk (mirror xs i j ((j - i) / 2)) k=if i<=k/\k<j then tk rk xs (i+j - 1 - k) else tk rk xs k:=by
 by_cases h:i<=k/\k<j<;>simp only [h,if_true,if_false]<;>refine Gf ?_<;>rw [getElem?_mirror_all hj]
 . rw [ζ h]
 . rw [ξ h]
theorem xO (hs:src<xs.size) (hd:d<=src) (k:Nat) :
  tk rk (bubble xs src d) k=if k=src - d then tk rk xs src else if src - d<k/\k<=src then tk rk xs (k - 1) else tk rk xs k:=by
 have e:=getElem?_bubble hs d hd k
 by_cases h1:k=src - d
 . rw [ζ h1] at e ⊢;exact Gf e
 . rw [ξ h1] at e ⊢;by_cases h2:src - d<k/\k<=src
   . rw [ζ h2] at e ⊢;exact Gf e
   . rw [ξ h2] at e ⊢;exact Gf e
theorem Ll (hj:j<=xs.size) (ha:∀k,i<=k->k<j->tk rk xs k=tk rk xs (j - 1)) (k:Nat):tk rk (mirror xs i j ((j - i) / 2)) k=tk rk xs k:=by
 rw [Md hj];by_cases h:i<=k/\k<j
 . rw [ζ h,ha (i+j - 1 - k) (by omega) (by omega),ha k h.1 h.2]
 . rw [ξ h]
theorem TSo.step {xs:Array Keyed} {lo n:Nat} (h:TSo rk xs lo (lo+n)) (h1:1<=n) (hn:tk rk xs (lo+n - 1)<=tk rk xs (lo+n)):TSo rk xs lo (lo+(n+1)):=fun i j h0 h1' h2=>by
 by_cases hj:j=lo+n
 . subst hj;by_cases hi:i=lo+n
   . rw [hi];exact η _
   . exact Nat.le_trans (h i (lo+n - 1) h0 (by lia) (by lia)) hn
 . exact h i j h0 h1' (by lia)
theorem TSo.one (lo:Nat):TSo rk xs lo (lo+1):=fun i j h0 h1 h2=>by
 obtain rfl:i=j:=by lia
 exact η _
structure TL (st st':SortSt) (lo:Nat):Prop where
 low:∀k,k<lo->(arrOf st')[k]?=(arrOf st)[k]?
 pend:pendingOf st'=pendingOf st
theorem TL.refl (st:SortSt) (lo:Nat):TL st st lo:=⟨fun _ _=>rfl,rfl⟩
theorem TL.trans {a b c:SortSt} {lo:Nat} (h:TL a b lo) (k:TL b c lo):TL a c lo:=⟨fun i hi=>(k.low i hi).trans (h.low i hi),k.pend.trans h.pend⟩
theorem TL.mirror {st:SortSt} {lo i j:Nat} (hi:lo<=i) (hj:j<=(arrOf st).size):TL st (setArr st (mirror (arrOf st) i j ((j - i) / 2))) lo:=
 ⟨fun k hk=>by show (PyProof.Rows.mirror (arrOf st) i j ((j - i) / 2))[k]?=_;rw [getElem?_mirror_all hj,ξ (by lia)],rfl⟩
theorem Ey {st:SortSt} {i j:Nat} {Q:Unit->SortSt->Prop} (h:Q () (setArr st (mirror (arrOf st) i j ((j - i) / 2)))):wpS (model prog w) A E s (reverseSlice' i j) Q st:=by rw [reverseSlice'_eq];exact wpS_modify h
theorem TSo.ups' {xs:Array Keyed} {lo a:Nat} (h:TSo rk xs lo (lo+a)) (ha:1<=a):∀{n:Nat},a<=n->(∀i,a<=i->i<n->tk rk xs (lo+i - 1)<=tk rk xs (lo+i))->TSo rk xs lo (lo+n)
 | 0,z,_=>by lia
 | n+1,z,up=>by
  by_cases e:a=n+1
  . rw [<-e];exact h
  . exact (TSo.ups' h ha (n:=n) (by lia) fun i a b=>up i a (by lia)).step (by lia) (up n (by lia) (by lia))
theorem TSo.ups {xs:Array Keyed} {lo n:Nat} (h:TSo rk xs lo (lo+1)) (hn:1<=n) (up:∀i,1<=i->i<n->tk rk xs (lo+i - 1)<=tk rk xs (lo+i)):TSo rk xs lo (lo+n):=h.ups' (η _) hn up
theorem Pn {U:Type} {r:String} {Q:Unit->U->Prop} {st:U} (h:Q () st):wpS (model prog w) A E s (liftM (rule r):StateT U Sem Unit) Q st:=wpS_lift (wpAny_rule ⟨rfl,h⟩)
theorem Xo (mk:Nat->β) (st:U) (down:Nat->Bool) (hab:a<=b)
  (go:∀x n (Q:ForInStep β->U->Prop),a<=n->n<b->Q (if down n=true then .done (mk n) else .yield (mk (n+1))) st->wpS (model prog w) A E s (f x (mk n)) Q st)
  (h:∀n,a<=n->n<=b->(∀i,a<=i->i<n->down i=false)->(n<b->down n=true)->Q (mk n) st):wpS (model prog w) A E s (forIn [a:b] (mk a) f) Q st:=by
 refine wpS_forRange (I:=fun x c u=>u=st/\c=mk x/\∀i,a<=i->i<x->down i=false) (fun x c u hx hb hI=>?_) (fun c u hI=>?_) ⟨rfl,rfl,fun i y z=>by lia⟩
 . obtain ⟨rfl,rfl,up⟩:=hI;refine go x x _ hx hb ?_;cases hd:down x
   . exact ⟨rfl,rfl,fun i y z=>by
      by_cases e:i=x
      . rw [e];exact hd
      . exact up i y (by lia)⟩
   . exact h x hx (Nat.le_of_lt hb) up fun _=>hd
 . obtain ⟨rfl,rfl,up⟩:=hI;rw [Nat.max_eq_right hab] at up ⊢;exact h b hab (η _) up fun z=>absurd z (Nat.lt_irrefl _)
theorem jK (mk:Nat->Nat->β) (st:U) (mid:Nat->Nat->Nat) (p:Nat->Bool) (hmid:∀l r,l<r->l<=mid l r/\mid l r<r)
  (go:∀x l r (Q:ForInStep β->U->Prop),l0<=l->l<r->r<=r0->Q (.yield (if p (mid l r)=true then mk (mid l r+1) r else mk l (mid l r))) st->wpS (model prog w) A E s (f x (mk l r)) Q st)
  (stop:∀x l (Q:ForInStep β->U->Prop),l<=r0->Q (.done (mk l l)) st->wpS (model prog w) A E s (f x (mk l l)) Q st)
  (mono:∀i j,l0<=i->i<=j->j<r0->p j=true->p i=true) (hl:l0<=r0) (hN:r0<=l0+N)
  (h:∀k,l0<=k->k<=r0->(∀i,l0<=i->i<k->p i=true)->(∀i,k<=i->i<r0->p i=false)->Q (mk k k) st):wpS (model prog w) A E s (forIn [0:N] (mk l0 r0) f) Q st:=by
 have key:∀l r,l0<=l->l<=r->r<=r0->(∀i,l0<=i->i<l->p i=true)->(∀i,r<=i->i<r0->p i=false)->l=r->Q (mk l r) st:=fun l r a b c d e z=>by subst z;exact h l a c d e
 refine wpS_forRange (I:=fun x c u=>u=st/\∃l r,(l0<=l/\l<=r/\r<=r0/\r+x<=l+N)/\c=mk l r/\(∀i,l0<=i->i<l->p i=true)/\∀i,r<=i->i<r0->p i=false)
  (fun x c u _ hb hI=>?_) (fun c u hI=>?_) ⟨rfl,l0,r0,⟨η _,hl,η _,by lia⟩,rfl,fun i a b=>by lia,fun i a b=>by lia⟩
 . obtain ⟨rfl,l,r,⟨b1,b2,b3,b4⟩,rfl,lt,gt⟩:=hI;by_cases e:l=r
   . subst e;exact stop x l _ b3 (key l l b1 b2 b3 lt gt rfl)
   . have hm:=hmid l r (by lia);refine go x l r _ b1 (by lia) b3 ?_;cases hp:p (mid l r)
     . exact ⟨rfl,l,mid l r,⟨b1,hm.1,by lia,by lia⟩,rfl,lt,fun i a b=>by
        cases hi:p i
        . rfl
        . rw [mono (mid l r) i (by lia) a b hi] at hp;cases hp⟩
     . exact ⟨rfl,mid l r+1,r,⟨by lia,by lia,b3,by lia⟩,rfl,fun i a b=>mono i (mid l r) a (by lia) (by lia) hp,gt⟩
 . obtain ⟨rfl,l,r,⟨b1,b2,b3,b4⟩,rfl,lt,gt⟩:=hI;exact key l r b1 b2 b3 lt gt (by simp only [Nat.zero_max] at b4;lia)
theorem Rv {α:Type} {Q:α->SortSt->Prop} {st:SortSt} {p:Prop} [Decidable p] {t g:StateT SortSt Sem α} (R:SortSt->Prop) (hg:∀u,R u->wpS (model prog w) A E s g Q u) (ht:p->(∀u,R u->wpS (model prog w) A E s g Q u)->wpS (model prog w) A E s t Q st) (hn:¬p->R st):wpS (model prog w) A E s (if p then t else g) Q st:=by
 split
 . exact ht ‹_› hg
 . exact hg _ (hn ‹_›)
theorem qX (hc:W9 prog w A E s κ a₀ rk) {st:SortSt} (B:TBs κ a₀ st) {lo nrem:Nat} (hz:lo+nrem<=a₀.size) (h1:1<=nrem) {Q:Option Nat->SortSt->Prop}
  (h:∀n st',1<=n->n<=nrem->TBs κ a₀ st'->TL st st' lo->TSo rk (arrOf st') lo (lo+n)->Q (some n) st'):wpS (model prog w) A E s (countRun' lo nrem) Q st:=by
 rw [countRun'_eq]
 refine γ (Xo (fun n=>(none,n)) st (fun n=>decide (tk rk (arrOf st) (lo+n)<tk rk (arrOf st) (lo+n - 1))) h1 (fun x n Q a b q=>γ (V8 hc B (by lia) (by lia) ?_)) fun n hn1 hn2 up dn=>?_)
 . by_cases hl:tk rk (arrOf st) (lo+n)<tk rk (arrOf st) (lo+n - 1)
   . simp only [hl,decide_true,if_true] at q ⊢;exact wpS_pure q
   . simp only [hl,decide_false,Bool.false_eq_true,if_false] at q ⊢;exact wpS_pure q
 have hs:=TSo.ups (n:=n) (TSo.one (rk:=rk) (xs:=arrOf st) lo) hn1 fun i a b=>by have:=up i a b;simp only [decide_eq_false_iff_not] at this;lia
 have hd:n<nrem->tk rk (arrOf st) (lo+n)<tk rk (arrOf st) (lo+n - 1):=fun z=>by simpa using dn z
 dsimp only
 by_cases hnr:n=nrem
 . rw [ζ (by simp [hnr])];exact wpS_pure (h n _ hn1 hn2 B (.refl _ _) hs)
 rw [ξ (by simp [hnr])]
 have hd':=hd (by lia)
 have flat:∀(xs:Array Keyed),TSo rk xs lo (lo+n)->¬tk rk xs lo<tk rk xs (lo+n - 1)->∀k,lo<=k->k<lo+n->tk rk xs k=tk rk xs (lo+n - 1):=fun xs hs hr k h0 h1=>by
  have a:=hs lo k (η _) h0 h1;have b:=hs k (lo+n - 1) h0 (by lia) (by lia)
  lia
 have ni0:∀(xs:Array Keyed),(∀k,lo<=k->k<lo+n->tk rk xs k=tk rk xs (lo+n - 1))->tk rk xs (lo+n)<tk rk xs (lo+n - 1)->∀i j,lo<=i->i<=j->j<lo+(n+1)->tk rk xs j<=tk rk xs i:=fun xs fl hd i j h0 h1 h2=>by
  by_cases hj:j=lo+n
  . subst hj;by_cases hi:i=lo+n
    . rw [hi];exact η _
    . rw [fl i h0 (by lia)];lia
  . rw [fl i h0 (by lia),fl j (by lia) (by lia)];exact η _
 refine Rv (fun u=>TBs κ a₀ u/\TL st u lo/\∀i j,lo<=i->i<=j->j<lo+(n+1)->tk rk (arrOf u) j<=tk rk (arrOf u) i) (fun st1 z=>?_) (fun hn J=>?_) fun hn=>⟨B,.refl _ _,ni0 _ (flat _ hs (by rw [show lo+n - 1=lo by lia];exact Nat.lt_irrefl _)) hd'⟩
 rotate_left
 . refine γ (V8 hc B (by lia) (by lia) ?_);by_cases hr:tk rk (arrOf st) lo<tk rk (arrOf st) (lo+n - 1)
   . rw [decide_eq_true hr];dsimp only;rw [ζ rfl];exact wpS_pure (h n _ hn1 hn2 B (.refl _ _) hs)
   rw [decide_eq_false hr];dsimp only;rw [ξ θ];have hz0:lo+n<=(arrOf st).size:=by rw [B.size];lia
   have fl:=flat _ hs hr;have ea:=Ll hz0 fl;exact γ (Ey (J _ ⟨B.set (mirror_perm _ _ _ _),.mirror (η _) hz0,fun i j h0 h1 h2=>by show tk rk (mirror (arrOf st) _ _ _) j<=tk rk (mirror (arrOf st) _ _ _) i;rw [ea,ea];exact ni0 _ fl hd' i j h0 h1 h2⟩))
 clear flat ni0 hd hd' hs up dn
 obtain ⟨B1,L1,ni⟩:=z
 refine γ (Pn ?_)
 refine γ (wpS_mono (wpS_forRange (I:=fun x c st2=>TBs κ a₀ st2/\TL st st2 lo/\∃q,c=(none,x,q)/\q+1<=x/\(∀i j,lo<=i->i<=j->j<lo+x->tk rk (arrOf st2) j<=tk rk (arrOf st2) i)/\∀k,lo+x - (q+1)<=k->k<lo+x->tk rk (arrOf st2) k=tk rk (arrOf st2) (lo+x - 1))
  (Q:=fun c st2=>TBs κ a₀ st2/\TL st st2 lo/\∃x q,c=(none,x,q)/\1<=x/\x<=nrem/\q+1<=x/\(∀i j,lo<=i->i<=j->j<lo+x->tk rk (arrOf st2) j<=tk rk (arrOf st2) i)/\∀k,lo+x - (q+1)<=k->k<lo+x->tk rk (arrOf st2) k=tk rk (arrOf st2) (lo+x - 1)) ?step ?fin ⟨B1,L1,0,rfl,by lia,ni,fun k h0 h1=>by rw [show k=lo+(n+1) - 1 by lia]⟩) ?post)
 case fin=>
  rintro c st2 ⟨B2,L2,q,rfl,hq,ni2,al⟩
  rw [show max (n+1) nrem=nrem by lia] at *
  exact ⟨B2,L2,nrem,q,rfl,h1,η _,hq,ni2,al⟩
 case post=>
  rintro c st2 ⟨B2,L2,x,q,rfl,hx1,hx2,hq,ni2,al⟩
  have hz2:lo+x<=(arrOf st2).size:=by rw [B2.size];lia
  dsimp only
  refine Rv (fun u=>TBs κ a₀ u/\TL st u lo/\∀i j,lo<=i->i<=j->j<lo+x->tk rk (arrOf u) j<=tk rk (arrOf u) i) (fun st3 z=>?_) (fun hq0 J=>?_) fun _=>⟨B2,L2,ni2⟩
  rotate_left
  . have ea:=Ll hz2 al;exact γ (Ey (J _ ⟨B2.set (mirror_perm _ _ _ _),L2.trans (.mirror (by lia) hz2),fun i j h0 h1 h2=>by show tk rk (mirror (arrOf st2) _ _ _) j<=tk rk (mirror (arrOf st2) _ _ _) i;rw [ea,ea];exact ni2 i j h0 h1 h2⟩))
  obtain ⟨B3,L3,ni3⟩:=z
  have hz3:lo+x<=(arrOf st3).size:=by rw [B3.size];lia
  refine γ (Ey ?_)
  obtain ⟨st4,e4⟩:∃st4,st4=setArr st3 (mirror (arrOf st3) lo (lo+x) ((lo+x - lo) / 2)):=⟨_,rfl⟩
  have B4:TBs κ a₀ st4:=e4 ▸ B3.set (mirror_perm _ _ _ _)
  have L4:TL st st4 lo:=e4 ▸ L3.trans (.mirror (η _) hz3)
  have s0:TSo rk (arrOf st4) lo (lo+x):=fun i j h0 h1 h2=>by rw [e4];show tk rk (mirror (arrOf st3) lo (lo+x) _) i<=tk rk (mirror (arrOf st3) lo (lo+x) _) j;rw [Md hz3,Md hz3,ζ (by lia),ζ (by lia)];exact ni3 _ _ (by lia) (by lia) (by lia)
  rw [<-e4]
  clear e4
  refine γ (Xo (fun n=>(none,n)) st4 (fun n=>decide (tk rk (arrOf st4) (lo+n)<tk rk (arrOf st4) (lo+n - 1))) hx2 (fun y m Q a b q=>γ (V8 hc B4 (by lia) (by lia) ?_)) fun m hm1 hm2 up _=>?_)
  . by_cases hl:tk rk (arrOf st4) (lo+m)<tk rk (arrOf st4) (lo+m - 1)
    . simp only [hl,decide_true,if_true] at q ⊢;exact wpS_pure q
    . simp only [hl,decide_false,Bool.false_eq_true,if_false] at q ⊢;exact wpS_pure q
  . dsimp only;refine wpS_pure (h m _ (by lia) hm2 B4 L4 (s0.ups' hx1 hm1 fun i a b=>?_));have:=up i a b;simp only [decide_eq_false_iff_not] at this
    lia
 case step=>
  rintro x c st2 hnx hxr ⟨B2,L2,q,rfl,hq,ni2,al⟩
  have hz2:lo+x<=(arrOf st2).size:=by rw [B2.size];lia
  dsimp only
  refine γ (V8 hc B2 (by lia) (by lia) ?_)
  have ext:∀(xs:Array Keyed),(∀i j,lo<=i->i<=j->j<lo+x->tk rk xs j<=tk rk xs i)->tk rk xs (lo+x)<=tk rk xs (lo+x - 1)->∀i j,lo<=i->i<=j->j<lo+(x+1)->tk rk xs j<=tk rk xs i:=fun xs nx hx i j h0 h1 h2=>by
   by_cases hj:j=lo+x
   . subst hj;by_cases hi:i=lo+x
     . rw [hi];exact η _
     . exact Nat.le_trans hx (nx i (lo+x - 1) h0 (by lia) (by lia))
   . exact nx i j h0 h1 (by lia)
  by_cases hl:tk rk (arrOf st2) (lo+x)<tk rk (arrOf st2) (lo+x - 1)
  . simp only [hl,decide_true,if_true];by_cases hq0:q > 0
    . rw [ζ hq0];have ea:=Ll hz2 al;refine γ (Ey (wpS_pure ⟨B2.set (mirror_perm _ _ _ _),L2.trans (.mirror (by lia) hz2),0,rfl,by lia,ext _ (fun i j h0 h1 h2=>?_) ?_,fun k h0 h1=>by rw [show k=lo+(x+1) - 1 by lia]⟩))
      . show tk rk (mirror (arrOf st2) _ _ _) j<=tk rk (mirror (arrOf st2) _ _ _) i;rw [ea,ea];exact ni2 i j h0 h1 h2
      . show tk rk (mirror (arrOf st2) _ _ _) _<=tk rk (mirror (arrOf st2) _ _ _) _;rw [ea,ea];exact Nat.le_of_lt hl
    . rw [ξ hq0];exact wpS_pure ⟨B2,L2,0,rfl,by lia,ext _ ni2 (Nat.le_of_lt hl),fun k h0 h1=>by rw [show k=lo+(x+1) - 1 by lia]⟩
  . simp only [hl,decide_false,Bool.false_eq_true,if_false];refine γ (V8 hc B2 (by lia) (by lia) ?_);by_cases hg:tk rk (arrOf st2) (lo+x - 1)<tk rk (arrOf st2) (lo+x)
    . simp only [hg,decide_true,if_true];exact wpS_pure ⟨B2,L2,x,q,rfl,by lia,by lia,hq,ni2,al⟩
    . simp only [hg,decide_false,Bool.false_eq_true,if_false];refine wpS_pure ⟨B2,L2,q+1,rfl,by lia,ext _ ni2 (by lia),fun k h0 h1=>?_⟩;rw [show lo+(x+1) - 1=lo+x by lia];by_cases hk:k=lo+x
      . rw [hk]
      . rw [al k (by lia) (by lia)];lia
theorem TSo.down {xs:Array Keyed} {lo k l:Nat} (hz:lo+k<xs.size) (hl:l<=k) (hs:TSo rk xs lo (lo+k)) (below:∀i,i<l->tk rk xs (lo+i)<=tk rk xs (lo+k)) (above:∀i,l<=i->i<k->tk rk xs (lo+k)<tk rk xs (lo+i)) :
  TSo rk (bubble xs (lo+k) (lo+k - (lo+l))) lo (lo+(k+1)):=fun i j h0 hij hj=>by
 obtain ⟨i,rfl⟩:∃i',i=lo+i':=⟨i - lo,by lia⟩
 obtain ⟨j,rfl⟩:∃j',j=lo+j':=⟨j - lo,by lia⟩
 have val:∀m,m<=k->tk rk (bubble xs (lo+k) (lo+k - (lo+l))) (lo+m)=if m<l then tk rk xs (lo+m) else if m=l then tk rk xs (lo+k) else tk rk xs (lo+(m - 1)):=fun m hm=>by
  rw [xO hz (by lia)];by_cases a:m<l
  . rw [ξ (by lia),ξ (by lia),ζ a]
  . by_cases b:m=l
    . rw [ζ (by lia),ξ a,ζ b]
    . rw [ξ (by lia),ζ (by lia),ξ a,ξ b,show lo+m - 1=lo+(m - 1) by lia]
 have st:∀a b,a<=b->b<k->tk rk xs (lo+a)<=tk rk xs (lo+b):=fun a b u v=>hs _ _ (by lia) (by lia) (by lia)
 rw [val i (by lia),val j (by lia)]
 by_cases a:j<l
 . rw [ζ a,ζ (by lia)];exact st i j (by lia) (by lia)
 . rw [ξ a];by_cases b:i<l
   . rw [ζ b];by_cases c:j=l
     . rw [ζ c];exact below i b
     . rw [ξ c];exact st i (j - 1) (by lia) (by lia)
   . rw [ξ b];by_cases c:i=l
     . rw [ζ c];by_cases d:j=l
       . rw [ζ d];exact η _
       . rw [ξ d];exact Nat.le_of_lt (above _ (by lia) (by lia))
     . rw [ξ c,ξ (by lia)];exact st _ _ (by lia) (by lia)
theorem y0j (hc:W9 prog w A E s κ a₀ rk) {st:SortSt} (B:TBs κ a₀ st) {lo n ok:Nat} (hz:lo+n<=a₀.size) (h1:1<=ok) (hok:ok<=n) (hs:TSo rk (arrOf st) lo (lo+ok)) {Q:Bool->SortSt->Prop}
  (h:∀u,TBs κ a₀ u->TL st u lo->TSo rk (arrOf u) lo (lo+n)->Q true u):wpS (model prog w) A E s (binarySort' lo n ok) Q st:=by
 rw [binarySort'_eq,Nat.max_eq_left h1]
 refine γ (wpS_mono (wpS_forRange (I:=fun k c u=>c=(none,())/\TBs κ a₀ u/\TL st u lo/\TSo rk (arrOf u) lo (lo+k))
  (Q:=fun c u=>c=(none,())/\TBs κ a₀ u/\TL st u lo/\TSo rk (arrOf u) lo (lo+n)) (fun k c u ha hb hI=>?_) (fun c u hI=>by rwa [Nat.max_eq_right hok] at hI) ⟨rfl,B,.refl _ _,hs⟩) fun c u hI=>?_)
 . obtain ⟨rfl,B1,L1,hs⟩:=hI;have hz1:lo+k<(arrOf u).size:=by rw [B1.size];lia
   refine γ (jK (fun l r=>(none,l,r)) u (fun l r=>(l+r) / 2) (fun i=>decide (tk rk (arrOf u) (lo+i)<=tk rk (arrOf u) (lo+k))) (fun l r _=>by lia) (fun x l r Q a b c q=>?_) (fun x l Q _ q=>?_) (fun i j _ a b c=>?_) (Nat.zero_le _) (by lia) fun l _ hl lt gt=>?_)
   . dsimp only;rw [ξ (by lia)];refine γ (V8 hc B1 (by lia) (by lia) ?_);by_cases z:tk rk (arrOf u) (lo+k)<tk rk (arrOf u) (lo+(l+r) / 2)
     . simp only [z,Nat.not_le.mpr z,decide_true,decide_false,Bool.false_eq_true,if_true,if_false] at q ⊢;exact wpS_pure q
     . simp only [z,Nat.not_lt.mp z,decide_true,decide_false,Bool.false_eq_true,if_true,if_false] at q ⊢;exact wpS_pure q
   . dsimp only;rw [ζ (η _)];exact wpS_pure q
   . simp only [decide_eq_true_eq] at c ⊢;exact Nat.le_trans (hs _ _ (by lia) (by lia) (by lia)) c
   . dsimp only;rw [moveDown'_eq];refine γ (wpS_modify (wpS_pure ⟨rfl,B1.set (bubble_perm _ _ _),L1.trans ⟨fun j hj=>?_,rfl⟩,?_⟩))
     . show (bubble (arrOf u) (lo+k) (lo+k - (lo+l)))[j]?=_;rw [getElem?_bubble hz1 _ (by lia),ξ (by lia),ξ (by lia)]
     . exact TSo.down hz1 hl hs (fun i a=>by simpa using lt i (Nat.zero_le _) a) fun i a b=>by simpa using gt i a b
 . obtain ⟨rfl,B1,L1,hs⟩:=hI;exact wpS_pure (h u B1 L1 hs)
end
abbrev Asc (rk:Keyed->Nat) (l:List Keyed):Prop:=l.Pairwise fun x y=>rk x<=rk y
section
variable {rk:Keyed->Nat}
theorem jJ {xs:Array Keyed} (h:TSo rk xs 0 xs.size):Asc rk xs.toList:=by
 refine List.pairwise_iff_getElem.mpr fun i j hi hj hij=>?_
 simp only [Array.length_toList] at hi hj;have:=h i j (Nat.zero_le _) (Nat.le_of_lt hij) hj;rw [Ez hi,Ez hj] at this;simpa using this
theorem jI:∀n,n<64->minRun' n n 0=n:=by decide
end
section
variable {prog:Program} {w:World} {E:Value->Shared->Prop} {s:Shared} {A:Around} {κ:SortKind} {a₀:Array Keyed} {rk:Keyed->Nat}
theorem qW {α:Type} {Q:α->SortSt->Prop} {C:Nat->SortSt->Prop} {p:Nat->Prop} {dp:∀n,Decidable (p n)} {t g:Nat->StateT SortSt Sem α} (R:Nat->SortSt->Prop) (hg:∀m u,R m u->wpS (model prog w) A E s (g m) Q u) (ht:∀n u,C n u->p n->(∀m u,R m u->wpS (model prog w) A E s (g m) Q u)->wpS (model prog w) A E s (t n) Q u) (hn:∀n u,C n u->¬p n->R n u):∀n u,C n u->wpS (model prog w) A E s (if p n then t n else g n) Q u:=by
 intro n u c;by_cases h:p n
 . rw [ζ h];exact ht n u c h hg
 . rw [ξ h];exact hg _ _ (hn n u c h)
theorem jH (hc:W9 prog w A E s κ a₀ rk) {st:SortSt} (B:TBs κ a₀ st) (h2:2<=a₀.size) (h64:a₀.size<64) (hp:pendingOf st=#[]) {Q:Unit->SortSt->Prop} (h:∀u,TBs κ a₀ u->Asc rk (arrOf u).toList->Q () u):wpS (model prog w) A E s sortRuns' Q st:=by
 rw [sortRuns'_eq];refine γ (wpS_get ?_);dsimp only;rw [B.size];refine γ (wpS_mono (wpS_forRange (I:=fun x c u=>TBs κ a₀ u/\((x=0/\c=(none,0)/\pendingOf u=#[])\/(c=(none,a₀.size)/\TSo rk (arrOf u) 0 a₀.size/\(pendingOf u).size<=1)))
  (Q:=fun c u=>TBs κ a₀ u/\c=(none,a₀.size)/\TSo rk (arrOf u) 0 a₀.size/\(pendingOf u).size<=1) ?step ?fin ⟨B,.inl ⟨rfl,rfl,hp⟩⟩) ?post)
 case fin=>
  rintro c u ⟨B1,⟨q,_⟩ | q⟩
  . exact absurd q (by simp only [Nat.zero_max];lia)
  . exact ⟨B1,q⟩
 case post=>
  rintro c u ⟨B1,rfl,so,z⟩
  dsimp only
  refine γ (wpS_mono (wpS_forRange (I:=fun x c v=>c=(none,())/\v=u) (Q:=fun c v=>c=(none,())/\v=u) (fun x c v _ _ hI=>?_) (fun c v hI=>hI) ⟨rfl,rfl⟩) fun c v hI=>?_)
  . obtain ⟨rfl,rfl⟩:=hI;refine γ (wpS_get ?_);rw [ζ z];exact wpS_pure ⟨rfl,rfl⟩
  . obtain ⟨rfl,rfl⟩:=hI;exact wpS_pure (h v B1 (jJ (by rw [B1.size];exact so)))
 case step=>
  rintro x c u _ _ ⟨B1,⟨_,rfl,hp⟩ | ⟨rfl,so,z⟩⟩
  rotate_left
  . dsimp only;rw [ζ (η _)];exact wpS_pure ⟨B1,rfl,so,z⟩
  dsimp only
  rw [ξ (by lia),jI _ h64]
  refine γ (qX hc B1 (by lia) (by lia) fun n u1 n1 n2 B2 L2 so=>?_)
  dsimp only
  have hh:=And.intro n1 (And.intro n2 (And.intro B2 (And.intro L2 so)))
  clear n1 n2 B2 L2 so
  revert n u1
  refine qW (fun m u2=>m=a₀.size/\TSo rk (arrOf u2) 0 m/\TBs κ a₀ u2/\TL u u2 0) (fun m u2 hR=>?_) (fun n u1 ⟨n1,n2,B2,L2,so⟩ hn k=>?_) fun n u1 ⟨n1,n2,B2,L2,so⟩ hn=>⟨by lia,by simpa using so,B2,L2⟩
  rotate_left
  . refine γ (Pn ?_);refine γ (y0j hc B2 (n:=min (a₀.size - 0) a₀.size) (by lia) n1 (by lia) so fun u2 B3 L3 so2=>?_);rw [ξ (by simp)];exact k _ _ ⟨by lia,by simpa using so2,B3,L2.trans L3⟩
  . obtain ⟨rfl,so3,B3,L4⟩:=hR;refine γ (wpS_get ?_);have hp2:pendingOf u2=#[]:=L4.pend.trans hp;rw [hp2];show wpS (model prog w) A E s _ _ u2;refine γ (wpS_modify (wpS_pure ?_));refine ⟨⟨B3.perm,B3.kind,B3.ok⟩,.inr ⟨by simp,so3,?_⟩⟩;show ((pendingOf u2).push _).size<=1;rw [hp2];simp
end
section
variable {prog:Program} {w:World} {E:Value->Shared->Prop} {s:Shared} {A:Around}
noncomputable def B7 (h:Heap) (a:Addr) (vs:List Value):Heap:=((h.update a (Obj.mapSeq fun _=>#[])).push (seqObj "tuple" vs.toArray 0)).push (seqObj "list" #[] 0)
theorem Vu (ho:h.get? a=some (seqObj "list" vs.toArray n)) :
  ∃k,(h.update a (Obj.mapSeq fun _=>#[])).get? a=some (seqObj "list" #[] k)/\(B7 h a vs).get? a=some (seqObj "list" #[] k):=
 ⟨_,get?_update_seq ho fun _=>#[],τ _ (τ _ (get?_update_seq ho fun _=>#[]))⟩
theorem wE (ho:s.heap.get? a=some (seqObj "list" vs.toArray n)) (h2:2<=vs.length) (h64:vs.length<64) (hz:vs.length<=sizeLine)
  (hκ:∀(Q:SortKind->Shared->Prop),Q κ { s with heap:=B7 s.heap a vs }->wpAny (model prog w) A (keyKind' vs.toArray) Q E { s with heap:=B7 s.heap a vs })
  (hc:W9 prog w A E { s with heap:=B7 s.heap a vs } κ (pairsOf vs) rk)
  (h:∀out:Array Keyed,out.Perm (pairsOf vs)->Asc rk out.toList->P (.done (.ret .none)) { s with heap:=sortedHeap s.heap a vs (out.map (·.2)) }):wpAny (model prog w) A (Builtin.«list.sort» ⟨[.ref a],[]⟩) P E s:=by
 obtain ⟨k,k1,k2⟩:=Vu ho
 have nn:¬vs.toArray.size<2:=by rw [List.size_toArray];lia
 rw [list_sort_plain]
 refine δ (listItems_at ho rfl (δ (listUpdate_at ho rfl (δ (seqEpoch_at k1 rfl (δ (wpAny_newTuple (δ (wpAny_newList (wpAny_holding ?_) (Nat.zero_le _))) hz)))) (by rw [List.size_toArray];exact hz) (Nat.zero_le _))))
 show wpAny (model prog w) A _ P E { s with heap:=B7 s.heap a vs }
 rw [ξ nn,ξ nn]
 refine δ (hκ _ (δ (wpAny_mono (jH (st:=SortSt.mk' κ (pairsOf vs) #[] 7 none) hc ⟨.refl _,rfl,rfl⟩ (by rw [pairsOf_size];exact h2) (by rw [pairsOf_size];exact h64) rfl (Q:=fun _ u=>TBs κ (pairsOf vs) u/\Asc rk (arrOf u).toList) fun u B a=>⟨B,a⟩) ?_ fun _ _ x=>x)))
 rintro ⟨⟨⟩,u⟩ s' ⟨rfl,B,hA⟩
 refine δ (seqEpoch_at k2 rfl (δ (listUpdate_at k2 rfl ?_ (Nat.zero_le _) (by rw [Array.size_map,B.size,pairsOf_size];exact Nat.le_succ_of_le hz))))
 rw [B.ok,bne_self_eq_false]
 exact ω (h _ B.perm hA)
noncomputable def C8 (h:Heap) (vs:List Value):Heap:=((h.push (seqObj "list" #[] 0)).update h.objs.size (Obj.mapSeq (·++vs.toArray))).push (seqObj "list" vs.toArray 0)
theorem Mc (h:Heap) (vs:List Value):(C8 h vs).get? (h.objs.size+1)=some (seqObj "list" vs.toArray 0):=by
 have e:((h.push (seqObj "list" #[] 0)).update h.objs.size (Obj.mapSeq (·++vs.toArray))).objs.size=h.objs.size+1:=(Heap.size_update _ _ _).trans (size_push' _ _);unfold C8
 conv=>lhs;arg 2;rw [<-e]
 exact Ψ _ rfl
theorem yw (q:h.get? b=some o):(B7 (C8 h vs) (h.objs.size+1) vs).get? b=some o:=by have lt:b<h.objs.size:=π q;refine τ _ (τ _ ?_);rw [Heap.get?_update_ne _ _ _ _ (Nat.ne_of_lt (Nat.lt_add_right 1 lt))];refine τ _ ?_;rw [Heap.get?_update_ne _ _ _ _ (Nat.ne_of_lt lt)];exact τ _ q
theorem yu (hl:s.heap.IsList l vs.toArray) (h2:2<=vs.length) (h64:vs.length<64) (hz:vs.length<=sizeLine)
  (hκ:∀(Q:SortKind->Shared->Prop),Q κ { s with heap:=B7 (C8 s.heap vs) (s.heap.objs.size+1) vs }->wpAny (model prog w) A.in1.in1 (keyKind' vs.toArray) Q (fun _ _=>False) { s with heap:=B7 (C8 s.heap vs) (s.heap.objs.size+1) vs })
  (hc:W9 prog w A.in1.in1 (fun _ _=>False) { s with heap:=B7 (C8 s.heap vs) (s.heap.objs.size+1) vs } κ (pairsOf vs) rk)
  (h:∀out:Array Keyed,out.Perm (pairsOf vs)->Asc rk out.toList->Q (.ref (s.heap.objs.size+1)) { s with heap:=sortedAll s.heap vs (out.map (·.2)) }):wpAny (model prog w) A (call (.builtin "sorted") [.ref l]) Q E s:=by
 have e:((s.heap.push (seqObj "list" #[] 0)).update s.heap.objs.size (Obj.mapSeq (·++vs.toArray))).objs.size=s.heap.objs.size+1:=(Heap.size_update _ _ _).trans (size_push' _ _)
 have b:=wE (s:={ s with heap:=C8 s.heap vs }) (E:=fun _ _=>False) (P:=fun f s'=>∃x,f=.done (.ret x)/\Q (.ref (s.heap.objs.size+1)) s') (Mc s.heap vs) h2 h64 hz hκ hc fun out p a=>⟨_,rfl,h out p a⟩
 apply Calls.call_function_entry kind_sorted plain_sorted entry_sorted (args_sorted1 (.ref l))
 unfold Builtin.«sorted»
 refine δ (m:=checkCount "sorted" 1 1 _) (ω (δ (collect_list hl (δ (wpAny_newList ?_ hz)) hz)))
 show wpAny _ _ _ _ _ { s with heap:=C8 s.heap vs }
 rw [e]
 refine δ (wpAny_holding (wpAny_call_entry slot_list_sort ⟨_,Mc s.heap vs,rfl⟩ entry_list_sort (wpAny_mono b (fun f s' q=>?_) fun _ _ x=>x.elim) (args_list_sort _)))
 obtain ⟨x,rfl,q⟩:=q
 exact ⟨_,rfl,ω ⟨_,rfl,q⟩⟩
end
def rkD (ds:List D) (d:D):Nat:=ds.countP fun e=>ltT e d
theorem Pm (h:ois ds=true) (hd:d∈ds) (he:e∈ds):decide (rkD ds d<rkD ds e)=ltT d e:=by
 have ho:∀x∈ds,x.oi=true:=fun x hx=>ois_mem.mp h x hx
 have up:∀{d e:D},d∈ds->e∈ds->ltT d e=true->rkD ds d<rkD ds e:=fun {d e} hd he q=>by
  unfold rkD;have le:∀l:List D,(∀x∈l,x∈ds)->l.countP (fun x=>ltT x d)<=l.countP (fun x=>ltT x e):=fun l hl=>
   List.countP_mono_left fun x hx hxd=>Fd (ho x (hl x hx)) (ho d hd) (ho e he) hxd q
  obtain ⟨l1,l2,rfl⟩:=List.append_of_mem hd;have a:=le l1 fun x hx=>by simp [hx]
  have b:=le l2 fun x hx=>by simp [hx]
  simp only [List.countP_append,List.countP_cons,q,Kd (ho d hd)];simp
  lia
 cases q:ltT d e with
 | true=>simpa using up hd he q
 | false=>
  cases q':ltT e d with
  | true=>have:=up he hd q';simp;lia
  | false=>obtain rfl:=Fp (ho d hd) (ho e he) q q';simp
theorem oi_split {d:D} (h:d.oi=true):(∃a,d=.int a)\/∃ds,d=.tup ds/\ois ds=true:=by
 cases d with
 | int a=>exact .inl ⟨a,rfl⟩
 | tup ds=>exact .inr ⟨ds,rfl,by simpa only [D.oi] using h⟩
 | _=>exact nomatch h
theorem qV {K:Frag} {H:Hp} {n:Nat} (ih:∀{d e:D} {x:V},d.dep<=n->d.oi=true->e.oi=true->RD K H d x->RD K H e x->d=e):∀{ds es:List D} {xs:List V},o4 ds<=n->ois ds=true->ois es=true->RDs K H ds xs->RDs K H es xs->ds=es:=by
 intro ds;induction ds with
 | nil=>
  intro es xs _ _ _ r1 r2
  have l:=r2.length
  rw [<-r1.length] at l
  exact (List.length_eq_zero_iff.mp l).symm
 | cons d ds ihl=>
  intro es xs hd o1 o2 r1 r2
  cases es with
  | nil=>
   have l:=r1.length
   rw [<-r2.length] at l
   cases l
  | cons e es=>
   simp only [RDs] at r1 r2
   obtain ⟨x,ys,h1,p1,q1⟩:=r1
   obtain ⟨y,zs,h2,p2,q2⟩:=r2
   rw [h1] at h2;cases h2
   simp only [ois,Bool.and_eq_true] at o1 o2
   simp only [o4] at hd
   rw [ih (Nat.le_trans (Nat.le_max_left _ _) hd) o1.1 o2.1 p1 p2,ihl (Nat.le_trans (Nat.le_max_right _ _) hd) o1.2 o2.2 q1 q2]
theorem jG {K:Frag} {H:Hp}:∀(n:Nat) {d e:D} {x:V},d.dep<=n->d.oi=true->e.oi=true->RD K H d x->RD K H e x->d=e:=by
 intro n;induction n with
 | zero=>
  intro d e x hd o1 o2 r1 r2
  rcases oi_split o1 with ⟨a,rfl⟩ | ⟨ds,rfl,_⟩
  . have h1:=r1.int;rcases oi_split o2 with ⟨b,rfl⟩ | ⟨es,rfl,_⟩
    . have h2:=r2.int;rw [h1] at h2;cases h2;rfl
    . obtain ⟨_,_,h2,_⟩:=r2.tup;rw [h1] at h2;cases h2
  . simp only [D.dep] at hd;exact absurd hd (Nat.not_succ_le_zero _)
 | succ n ih=>
  intro d e x hd o1 o2 r1 r2
  rcases oi_split o1 with ⟨a,rfl⟩ | ⟨ds,rfl,p1⟩
  . have h1:=r1.int;rcases oi_split o2 with ⟨b,rfl⟩ | ⟨es,rfl,_⟩
    . have h2:=r2.int;rw [h1] at h2;cases h2;rfl
    . obtain ⟨_,_,h2,_⟩:=r2.tup;rw [h1] at h2;cases h2
  . obtain ⟨a,ys,h1,q1,w1⟩:=r1.tup;rcases oi_split o2 with ⟨b,rfl⟩ | ⟨es,rfl,p2⟩
    . have h2:=r2.int;rw [h1] at h2;cases h2
    . obtain ⟨b,zs,h2,q2,w2⟩:=r2.tup;rw [h1] at h2;cases h2;rw [q1] at q2;cases q2;simp only [D.dep] at hd;rw [qV ih (Nat.le_of_succ_le_succ hd) p1 p2 w1 w2]
theorem y0k {K:Frag} {H:Hp} {d e:D} {x:V} (o1:d.oi=true) (o2:e.oi=true) (r1:RD K H d x) (r2:RD K H e x):d=e:=jG d.dep (η _) o1 o2 r1 r2
theorem yT (p:l.Perm m):∀{xs:List α},m=xs.map f->∃ys:List α,ys.Perm xs/\l=ys.map f:=by
 induction p with
 | nil=>intro xs h;exact ⟨xs,.refl _,h⟩
 | cons a p ih=>
  intro xs h
  cases xs with
  | nil=>cases h
  | cons x xs=>
   simp only [List.map_cons,List.cons.injEq] at h
   obtain ⟨ys,p',e⟩:=ih h.2
   exact ⟨x::ys,p'.cons x,by rw [e,h.1];rfl⟩
 | swap a b l=>
  intro xs h
  match xs,h with
  | x::y::xs,h=>
   simp only [List.map_cons,List.cons.injEq] at h
   exact ⟨y::x::xs,.swap _ _ _,by rw [h.1,h.2.1,h.2.2];rfl⟩
 | trans p q ih1 ih2=>
  intro xs h
  obtain ⟨ys,p',e⟩:=ih2 h
  obtain ⟨zs,q',e'⟩:=ih1 e
  exact ⟨zs,q'.trans p',e'⟩
theorem Vt (l:List D):(List.range l.length).map (fun i=>l.getD i (.int 0))=l:=by
 apply List.ext_getElem?;intro i;rw [List.getElem?_map];by_cases hi:i<l.length
 . rw [List.getElem?_range hi];simp [hi]
 . rw [List.getElem?_eq_none (by simpa using hi),List.getElem?_eq_none (by simpa using hi)];rfl
noncomputable def atOf (its:List Value) (v:Value):Nat:=Classical.epsilon fun i=>i<its.length/\its.getD i Value.none=v
theorem Kq (h:i<its.length):atOf its (its.getD i Value.none)<its.length/\its.getD (atOf its (its.getD i Value.none)) Value.none=its.getD i Value.none:=by have hh:∃j,j<its.length/\its.getD j Value.none=its.getD i Value.none:=⟨i,h,rfl⟩;exact Classical.epsilon_spec hh
def Dl (ds:List D):Bool:=ois ds&&decide (o4 ds<=20)&&ds.all (fun d=>ds.all fun e=>(j6 d e).isSome)&&(ds.all isI||ds.all E1||ds.all N6)&&decide (ds.length<64)
def C7:List D->Option D
 | [.lst ds]=>if Dl ds=true then some (.lst (y6 ds)) else none
 | _=>none
def Pl (K:Frag):List V->Hp->VK->Prop:=fun xs H Q=>∃p ys ds,xs=[.ref p]/\H p=some (.lst ys)/\RDs K H ds ys/\Dl ds=true/\∀(l:Addr) (is:List Nat),H l=none->(∀i∈is,i<ys.length)->y6 ds=is.map (fun i=>ds.getD i (.int 0))->Q (.ref l) (upd H l (.lst (is.map fun i=>ys.getD i .non)))
theorem U4 {K:Frag}:A7 K true C7 (Pl K):=by
 intro H0 H xs ds z Q s r ho k;unfold C7 at ho;split at ho<;>first | cases ho | skip
 split at ho<;>cases ho;rename_i es hok;obtain ⟨x,rfl,q1⟩:=r.uno;obtain ⟨p,ys,rfl,hp,ry⟩:=q1.lst;refine ⟨p,ys,es,rfl,s _ _ hp,ry.mono s,hok,fun l is hl hi he=>k _ _ (.new s hl fun H' hH=>?_)⟩;simp only [OB];refine ⟨_,hH,?_⟩;rw [he];exact ry.pick hi
section
variable {X:Cx} {pins:List (Addr×Obj)} {U:St} {H:Hp} {s:Shared}
theorem qU (hx:(∃k,x=.int k)\/∃a,x=.ref a) (hy:(∃k,y=.int k)\/∃a,y=.ref a) (r1:RelV x v) (r2:RelV y v):x=y:=by
 rcases hx with ⟨k,rfl⟩ | ⟨a,rfl⟩<;>rcases hy with ⟨j,rfl⟩ | ⟨b,rfl⟩<;>simp only [RelV] at r1 r2
 . obtain ⟨t,rfl⟩:=r1;obtain ⟨u,h⟩:=r2;cases h;rfl
 . obtain ⟨t,rfl⟩:=r1;cases r2
 . obtain ⟨t,rfl⟩:=r2;cases r1
 . subst r1;cases r2;rfl
theorem Xn {K:Frag} {d:D} {x:V} (o:d.oi=true) (r:RD K H d x):(∃k,x=.int k)\/∃a,x=.ref a:=by
 cases d<;>simp only [D.oi] at o<;>first | cases o | skip
 . exact .inl ⟨_,r.int⟩
 . obtain ⟨a,_,h,_⟩:=r.tup;exact .inr ⟨a,h⟩
theorem Wh (vs:List Value):(pairsOf vs).toList=(List.range vs.length).map fun i=>((vs.getD i Value.none,vs.getD i Value.none):Keyed):=by
 unfold pairsOf;rw [Array.toList_zip];apply List.ext_getElem
 . simp
 . intro i h1 h2;simp at h1;simp [h1]
theorem Ur (h:x∈pairsOf vs):∃i,i<vs.length/\x=(vs.getD i Value.none,vs.getD i Value.none):=by rw [Array.mem_def,Wh] at h;obtain ⟨i,hi,e⟩:=List.mem_map.mp h;exact ⟨i,List.mem_range.mp hi,e.symm⟩
theorem Vs:∀(vs:List Value),(∀i,i<vs.length->∃n t,vs.getD i Value.none=.int n t)->∃ns,IntsAre vs ns
 | [],_=>⟨[],.nil⟩
 | v::vs,h=>by
  obtain ⟨n,t,e⟩:=h 0 (by simp);obtain ⟨ns,r⟩:=Vs vs fun i hi=>by simpa using h (i+1) (by simpa using hi)
  have e':v=.int n t:=by simpa using e
  subst e';exact ⟨n::ns,.cons n t r⟩
theorem qT (ia:IntsAre vs ns) (h:2<=vs.length):keyKind' vs.toArray=pure oneType':=by
 match vs,ia,h with
 | v1::v2::vs,ia,_=>exact keyKind_ints ia
theorem T9 (hc:X.calm=true) (hu:X.A.units+64<cLine):CallR X (.builtin "sorted") (Pl X.K):=by
 intro pins s U H xs us Q I r h;obtain ⟨p,ys,ds,rfl,hp,rd,hok,k⟩:=h;obtain ⟨u,rfl,ru⟩:=A9 r;cases ru;obtain ⟨its,rv,pl,hz⟩:=I.list (.of hp);obtain ⟨m,hn,_⟩:=id I.loc;have F:=Att.fr_all hn;have N:=Dx (g:=Att.noObjs s.heap) (h:=s.heap) (L:=X.env.locals);unfold Dl at hok;simp only [Bool.and_eq_true,Bool.or_eq_true,decide_eq_true_eq] at hok;obtain ⟨⟨⟨⟨hoi,hdep⟩,hcmp⟩,hkind⟩,h64⟩:=hok;have hl1:=rd.length;have hl2:=rv.length;have fin:∀{vs':Array Value} {is:List Nat},(∀i∈is,i<ys.length)->y6 ds=is.map (fun i=>ds.getD i (.int 0))->vs'=(is.map fun i=>its.getD i Value.none).toArray->EP X pins U Q (.ref (s.heap.objs.size+1)) { s with heap:=sortedAll s.heap its vs' }:=fun {vs' is} hi he hv=>by
  have hlen:(is.map fun i=>ys.getD i .non).length<=sizeLine:=by
   have e1:is.length=ds.length:=by have:=congrArg List.length he;rw [List.length_map,(Q2 ds).length_eq] at this;exact this.symm
   rw [List.length_map,e1,hl1];exact hz
  obtain ⟨e,he'⟩:=sortedAll_at s.heap its vs';have kp:∀b o,s.heap.get? b=some o->(sortedAll s.heap its vs').get? b=some o:=fun b o q=>sortedAll_old q
  have hN:=N.kept_cons F kp (Nat.le_succ _) he';obtain ⟨HD,I'⟩:=I.frnew (tk:=s.toks) (o:=.lst (is.map fun i=>ys.getD i .non)) hn (F.kept kp) hN (Heap.get?_none_of_le (Nat.le_succ _)) ⟨hlen,_,e,rv.pick hi,by subst hv;exact (hN _ (.head _)).1⟩;exact ⟨.ref _,_,I',rfl,k _ is HD hi he⟩
 by_cases h2:2<=its.length
 . have kp:∀b o,s.heap.get? b=some o->(B7 (C8 s.heap its) (s.heap.objs.size+1) its).get? b=some o:=fun b o q=>yw q
   have I':Inv X pins U H { s with heap:=B7 (C8 s.heap its) (s.heap.objs.size+1) its }:=I.frn (tk:=s.toks) hn (F.kept kp) fun q hq=>(N.kept_cons F kp (Nat.le_succ _) (Vu (Mc s.heap its)).choose_spec.2) q (.tail _ hq)
   have huu:X.A.in1.in1.units+20<cLine:=by show X.A.units+1+1+20<cLine;lia
   have main:∀κ:SortKind,(∀(Q:SortKind->Shared->Prop),Q κ { s with heap:=B7 (C8 s.heap its) (s.heap.objs.size+1) its }->wpAny (model X.prog X.w) X.A.in1.in1 (keyKind' its.toArray) Q (fun _ _=>False) { s with heap:=B7 (C8 s.heap its) (s.heap.objs.size+1) its }) ->
     (∀(E:Value->Shared->Prop) (C:Bool->Shared->Prop) (i j:Nat),i<ys.length->j<ys.length->C (ltI ds i j) { s with heap:=B7 (C8 s.heap its) (s.heap.objs.size+1) its }->wpAny (model X.prog X.w) X.A.in1.in1 (keyLt' κ (its.getD i Value.none) (its.getD j Value.none)) C E { s with heap:=B7 (C8 s.heap its) (s.heap.objs.size+1) its }) ->
     wpAny (model X.prog X.w) X.A (call (.builtin "sorted") [.ref p]) (EP X pins U Q) X.xe s:=by
    intro κ hκ hlt
    refine yu (rk:=fun q=>rkD ds (ds.getD (atOf its q.1) (.int 0))) pl.isList h2 (by lia) (by lia) hκ ?_ fun out hp' hA=>?_
    . intro x y hx hy st Q' hk q;obtain ⟨i,hi,rfl⟩:=Ur hx;obtain ⟨j,hj,rfl⟩:=Ur hy;have ai:=Kq hi;have aj:=Kq hj;dsimp only at q;rw [Pm hoi (Q1 (by lia)) (Q1 (by lia))] at q;rw [lt'_eq];refine γ (wpS_get (γ (wpS_lift (wpAny_attempt ?_))));rw [hk];dsimp only;generalize atOf its (its.getD i Value.none)=i' at *;generalize atOf its (its.getD j Value.none)=j' at *;rw [<-ai.2,<-aj.2];exact hlt _ _ i' j' (by lia) (by lia) ⟨rfl,wpS_pure q⟩
    . have e0:(pairsOf its).toList=(List.range its.length).map fun i=>((its.getD i Value.none,its.getD i Value.none):Keyed):=Wh its
      obtain ⟨is,hip,hie⟩:=yT (Array.perm_iff_toList_perm.mp hp') e0;have him:∀i∈is,i<its.length:=fun i hi=>List.mem_range.mp (hip.mem_iff.mp hi)
      have pm:(is.map fun i=>ds.getD i (.int 0)).Perm ds:=by refine (hip.map _).trans ?_;rw [show its.length=ds.length by lia,Vt]
      refine fin (is:=is) (fun i hi=>by have:=him i hi;lia) (Gg (Gh (Q2 _) hoi) ((Q2 _).trans pm.symm) (Dy hoi) ?_) ?_
      . rw [hie] at hA;refine List.pairwise_map.mpr ((List.pairwise_map.mp hA).imp_of_mem fun {a b} ha hb hab=>?_);have same:∀i,i<its.length->ds.getD (atOf its (its.getD i Value.none)) (.int 0)=ds.getD i (.int 0):=fun i hi=>by have q:=Kq hi;have v1:=rv.getD (i:=atOf its (its.getD i Value.none)) (by lia);have v2:=rv.getD (i:=i) (by lia);have r1:=rd.getD (i:=atOf its (its.getD i Value.none)) (by lia);have r2:=rd.getD (i:=i) (by lia);have o1:=Ku (i:=atOf its (its.getD i Value.none)) hoi;have o2:=Ku (i:=i) hoi;rw [q.2] at v1;rw [qU (Xn o1 r1) (Xn o2 r2) v1 v2] at r1;exact y0k o1 o2 r1 r2
        dsimp only at hab;rw [same a (him a ha),same b (him b hb)] at hab;have z:=Pm hoi (d:=ds.getD b (.int 0)) (e:=ds.getD a (.int 0)) (Q1 (by have:=him b hb;lia)) (Q1 (by have:=him a ha;lia));rw [<-z,decide_eq_false_iff_not]
        lia
      . rw [<-Array.toList_inj,Array.toList_map,hie,List.map_map];rfl
   by_cases hI:ds.all isI=true
   . have getI:∀i,i<ys.length->∃n t,ds.getD i (.int 0)=.int n/\its.getD i Value.none=.int n t:=fun i hi=>by
      have r1:=rd.getD hi
      have v1:=rv.getD hi
      have m1:isI (ds.getD i (.int 0))=true:=List.all_eq_true.mp hI _ (Q1 (by lia))
      generalize ds.getD i (.int 0)=d at *
      cases d<;>simp only [isI] at m1<;>first | cases m1 | skip
      rw [r1.int] at v1
      obtain ⟨t,e⟩:=v1
      exact ⟨_,t,rfl,e⟩
     refine main oneType' (fun Q' q=>?_) fun E C i j hi hj hC=>?_
     . have ia:∃ns,IntsAre its ns:=Vs its fun i hi=>by obtain ⟨n,t,_,e⟩:=getI i (by lia);exact ⟨n,t,e⟩
       obtain ⟨ns,ia⟩:=ia;rw [qT ia h2];exact ω q
     . obtain ⟨n,t,e1,e2⟩:=getI i hi;obtain ⟨n',t',e3,e4⟩:=getI j hj;rw [e2,e4];refine PySem.W.kat_lt_int ?_;unfold ltI at hC;rw [e1,e3] at hC;simpa only [ltT] using hC
   . obtain ⟨T,hT⟩:∃T:Bool,∀d∈ds,(if T=true then N6 d else E1 d)=true:=by
      rcases hkind with (z | z) | z
      . exact absurd z hI
      . exact ⟨false,fun d hd=>by rw [ξ θ];exact List.all_eq_true.mp z d hd⟩
      . exact ⟨true,fun d hd=>by rw [ζ rfl];exact List.all_eq_true.mp z d hd⟩
     obtain ⟨fs,t1,t2,t3⟩:=Qb (M:=model X.prog X.w) I' T hT rd rv
     refine main (tuples' ((.type (if T=true then "tuple" else "int"):Value) != Value.type "tuple")) (fun Q' q=>PySem.W.kat_kind t1 (by lia) t3 (by cases T<;>rfl) q) fun E C i j hi hj hC=>?_
     have r1:=rd.getD hi
     have r2:=rd.getD hj
     have v1:=rv.getD hi
     have v2:=rv.getD hj
     have m1:ds.getD i (.int 0)∈ds:=Q1 (by lia)
     have m2:ds.getD j (.int 0)∈ds:=Q1 (by lia)
     have o1:=(ois_mem.mp hoi) _ m1
     have o2:=(ois_mem.mp hoi) _ m2
     have d1:=Lu m1
     have f1:=hT _ m1
     have f2:=hT _ m2
     obtain ⟨b,hb⟩:=Option.isSome_iff_exists.mp (List.all_eq_true.mp (List.all_eq_true.mp hcmp _ m1) _ m2)
     have hbl:b=ltI ds i j:=Qg hb
     rw [<-hbl] at hC
     generalize ds.getD i (.int 0)=da at *
     generalize ds.getD j (.int 0)=db at *
     have tp:∀{d:L2.D},(if T=true then N6 d else E1 d)=true->∃es,d=.tup es/\(T=false->∃k r,es=.int k::r):=fun {d} h=>by
      cases T with
      | false=>
       rw [ξ θ] at h
       cases d<;>simp only [E1] at h<;>first | cases h | skip
       rename_i es
       cases es with
       | nil=>simp at h
       | cons e es=>cases e<;>simp at h;exact ⟨_,rfl,fun _=>⟨_,_,rfl⟩⟩
      | true=>
       rw [ζ rfl] at h
       cases d<;>simp only [N6] at h<;>first | cases h | skip
       exact ⟨_,rfl,fun z=>nomatch z⟩
     obtain ⟨ea,rfl,ka⟩:=tp f1
     obtain ⟨eb,rfl,kb⟩:=tp f2
     obtain ⟨a,xa,e1,ha,ra⟩:=r1.tup
     obtain ⟨c,xc,e2,hcc,rc⟩:=r2.tup
     rw [e1] at v1;rw [e2] at v2
     rw [show its.getD i Value.none=Value.ref a from v1,show its.getD j Value.none=Value.ref c from v2]
     obtain ⟨ia,va,oa,hoa,_,na,hda⟩:=I'.tupA ha
     obtain ⟨ic,vc,oc,hoc,_,nc,hdc⟩:=I'.tupA hcc
     simp only [L2.D.oi] at o1 o2
     simp only [L2.D.dep] at d1
     simp only [j6] at hb
     refine PySem.W.kat_lt hoa hda hoc hdc (Sk I' huu hC 0 (fun hb0 _=>?_) o1 o2 (by lia) ra rc va vc hb (by simp))
     cases T with
     | false=>exact ⟨ka rfl,kb rfl⟩
     | true=>exact absurd hb0 (by simp)
 . have hs1:y6 ds=ds:=by
    match ds,hl1,hl2 with
    | [],_,_=>rfl
    | [d],_,_=>rfl
    | _::_::_,a,b=>simp at a;lia
   have pz:∀l:List Value,l.length<2->(pairsOf l).map (·.2)=(List.map (fun i=>l.getD i Value.none) (List.range l.length)).toArray:=fun l hl=>by
    match l,hl with
    | [],_=>simp [pairsOf]
    | [v],_=>simp [pairsOf]
    | _::_::_,z=>simp at z;lia
   refine zu pl.isList (by lia) (fin (is:=List.range its.length) (fun i hi=>by simp at hi;lia) ?_ (pz its (by lia)))
   rw [hs1,show its.length=ds.length by lia,Vt]
end
section
variable {P:Program} {h:Heap} {x:Str} {f:Addr} {ps:List Str}
def BP:List Str->(List Value->Prop)->Prop
 | [],P=>P []
 | _::r,P=>∀u,BP r fun us=>P (u::us)
theorem BP.all (h:BP ps Q) (us:List Value) (hl:us.length=ps.length):Q us:=by
 induction ps generalizing Q us with
 | nil=>rw [List.eq_nil_of_length_eq_zero hl];exact h
 | cons p r ih=>
  cases us with
  | nil=>cases hl
  | cons u us=>exact ih (h u) us (Nat.succ.inj hl)
theorem fsc (a:sc.kind=.function:=by rfl) (b:sc.isCoroutine=false:=by rfl) (c:sc.isGenerator=false:=by rfl) (d:N.Nodup:=by decide +kernel) (e:N.take ps.length=ps:=by rfl)
 (f:∀x∈ps,sc.names.lookup x=some .local\/sc.names.lookup x=some .cell:=by decide +kernel) (g:∀y∈sc.names,y.2≠.free:=by decide +kernel):FnScope N ps sc:=⟨a,b,c,d,e,f,g⟩
end
section
variable {X:Cx} {EX:XW} {fr fr':Bool} {a b e:Expr} {f g:DE->R D} {pos p:Pos} {m:List Bool} {j:Nat}
theorem qI (hr:Room j X.A) (ha:QE X EX false a f) (hb:QE X EX false b g) (hs:Lc b:=by exact fun _ _=>rfl):QE X EX false (.Subscript a b pos) (eOp dIx f g):=y2k (y2j hr.units) Zd ha hb hs
theorem qL (hm:X.mg "len"=none) (ha:QE X EX false e f) (hg:Gl X "len":=by rfl) (he:starEach [e] X.env=(false,eval e X.env)::starEach [] X.env:=by rfl) (hpl:(backTo pos (starEach [] X.env)).any (·.1)=false:=by rfl) :
 QE X EX false (.Call (.Name "len" p) [e] [] pos) (eCB p8 (d7 f d9)):=A5 kz ku hg hm PySem.boot_len (d8 ha e9 he) (he:=he) (hpl:=hpl)
theorem sA (i:Nat) (hN:X.N.Nodup) (he:QE X EX fr' e f) (hi:X.N[i]?=some x:=by rfl) (hx:Loc X.env.scope x:=by first | exact .inl rfl | exact .inr rfl) (hs:swapsWith e (some (.Name x pos')) pos.line X.env=pure false:=by rfl) (hf:X.fn x=true\/X.env.scope.names.lookup x=some .local:=by exact .inl rfl) :
 QS X EX fr (.Assign [.Name x pos'] e pos) (h9 fr' i m f):=Yz hN hi hx he hs hf
theorem tE (hr:Room j X.A) (ha:QE X EX false a f) (hb:QE X EX false b g) (hm:behindInMarks .Eq b=false):QT X EX (.Compare a [.Eq] [b] pos) (i6 asB (eOp dEq f g)):=x4 (M3 hr.units) M2 ha hb hm
theorem tN (hr:Room j X.A) (ha:QE X EX false a f) (hb:QE X EX false b g) (hm:behindInMarks .NotEq b=false):QT X EX (.Compare a [.NotEq] [b] pos) (i6 asB (eOp dNe f g)):=x4 (Zh hr.units) Zg ha hb hm
end
open PySem.W in
noncomputable def Fw (tb:String->Option Builtin) (p:Program) (w:World) (m:Nat) (ann:Option Value):Nat->SharedT->Thread->Option SharedT
 | 0,_,_=>none
 | n+1,s,t=>match through t with
  | true=>some s
  | false=>match stepOk m ann t with
   | false=>none
   | true=>match stepT (denote tb) p w s t with
    | some (s',t')=>Fw tb p w m ann n s' t'
    | none=>none
open PySem.W in
theorem Vr:∀(n:Nat) {s s':SharedT} {t:Thread},Fw tb p w m ann n s t=some s'->topRun tb p w m ann n s.abs t=some s'.abs
 | 0,_,_,_,h=>nomatch h
 | n+1,s,s',t,h=>by
  unfold Fw at h;unfold topRun;cases a:through t with
  | true=>rw [a] at h;cases h;rfl
  | false=>
   rw [a] at h
   cases b:stepOk m ann t with
   | false=>rw [b] at h;cases h
   | true=>
    rw [b] at h
    cases c:stepT (denote tb) p w s t with
    | none=>rw [c] at h;cases h
    | some z=>
     obtain ⟨s2,t2⟩:=z
     rw [c] at h
     rw [stepT_spec c]
     exact Vr n h
open PySem.W in
noncomputable def Pk:List Obj->Nat->BT->BT
 | [],_,t=>t
 | o::l,i,t=>Pk l (i+1) (t.ins i o)
open PySem.W in
def bootS (w:World) (os:OsState):SharedT:=⟨Pk (boot_heap w.params).objs.toList 0 .nil,(boot_heap w.params).objs.size,(boot_heap w.params).life,Array.mk [],boot_drawn,boot_toks,os⟩
open PySem.W in
noncomputable def seenAt (p q:Program) (loose:List Str) (Xt:Shared->Bool) {α:Type} (Yf:Shared->α) (w:World) (t:Shared):=
 (staticsOk (importedModules p.main.body) (boot_heap w.params) t.heap&&namesBound p t.heap&&gensDone t&&laidKept (boot_heap w.params) t.heap,openSeen q loose (importedModules p.main.body) Xt true t,Yf t)
open PySem.W in
def outAt (p q:Program) (loose:List Str) (Xt:Shared->Bool) {α:Type} (Yf:Shared->α) (N:Nat) (w:World) (os:OsState):=
 (Fw treeTable p w (boot_heap w.params).objs.size ((boot_heap w.params).nsMap mainGlobals "__annotations__") N (bootS w os) (topStub p)).map fun s=>seenAt p q loose Xt Yf w s.abs
open PySem.W in
theorem wD:∀(w:World) (os:OsState),(bootS w os).abs=⟨boot_heap w.params,Array.mk [],boot_drawn,boot_toks,os⟩:=fun _ _=>by kernel_rfl
open PySem.W in
theorem qS:∀w:World,(boot_heap w.params).isNs mainGlobals=true:=fun _=>by kernel_rfl
open PySem.W in
theorem qR (e:opening p=plainProg p.main.scope.names) (hN:Nat.ble 600 N=true)
  (f:∀s,fenceModules? p s=some s) (h:∀w os,outAt p q loose Xt Yf N w os=some (true,openGood q loose,Ya w)):LeftO p q loose Xt Yf Ya N:=fun w=>by
 obtain ⟨⟨hp,gs,d,k,os⟩,a,b⟩:=Option.map_eq_some_iff.mp (boot_open e hN f w)
 obtain ⟨rfl,rfl,rfl,rfl⟩:hp=boot_heap w.params/\gs=Array.mk []/\d=boot_drawn/\k=boot_toks:=by simpa using b
 obtain ⟨s,r,c⟩:=Option.map_eq_some_iff.mp (h w os)
 have r2:=Vr N r
 rw [wD] at r2
 obtain ⟨l1,l2,l3⟩:_/\_/\_:=by simpa only [seenAt,Prod.mk.injEq] using c
 have t:topFrom treeTable p w N ⟨boot_heap w.params,Array.mk [],boot_drawn,boot_toks,os⟩=some s.abs:=by unfold topFrom;dsimp only;rw [qS,r2];show (match staticsOk (importedModules p.main.body) (boot_heap w.params) s.abs.heap&&namesBound p s.abs.heap&&gensDone s.abs&&laidKept (boot_heap w.params) s.abs.heap with | true=>_ | false=>_)=_;rw [l1]
 unfold openEnds
 rw [a]
 show (topFrom treeTable p w N _).map _=_
 rw [t]
 exact congrArg some (Prod.ext l2 l3)
abbrev vs (x:String) (t:Nat):Value:=.str (Str.ofString x) t
abbrev en (P:Params) (x:String) (t:Nat) (v:Value):DictEntry:=⟨PyData.keyHash P (Str.ofString x),.str (Str.ofString x) t,v⟩
abbrev oT (l:List Value):Obj:={ cls:=.type "tuple",data:=.seq l.toArray }
abbrev oD (l:List DictEntry) (n:Nat):Obj:={ cls:=.type "dict",data:=.dict l.toArray n }
abbrev oF (st:Stmt) (x q:String) (dV kV doc pm:Value) (an:Option Addr) (cd ct:Value):Obj:={ cls:=.type "function",data:=.func (PySem.W.fnOf (Str.ofString x) (Str.ofString q) (m7 st) (j7 st) (g7 st) dV kV doc pm an cd ct) }
noncomputable def G4:Stmt->Nat->Stmt
 | .ClassDef _ _ _ b _ _ _ _ _ _ _,j=>b.getD j (.Pass ⟨0,0,0,0⟩)
 | s,_=>s
end L2
namespace Cu
abbrev P2:=Int×Int
abbrev P3:=Int×Int×Int
def sh (at' x:Int):Int:=if x > at' then x+1 else x
def sh2 (c:Int) (p:P2):P2:=(sh c p.1,sh c p.2)
def sh3 (c:Int) (p:P3):P3:=(sh c p.1,sh c p.2.1,sh c p.2.2)
def outer (p:P3):P2:=(p.1,p.2.2)
def u7 (n c:Int):P2:=if c=n - 1 then (0,c) else (c,c+2)
def J1 (n c:Int):P3:=if c=n - 1 then (0,c,n) else (c,c+1,c+2)
structure CInv (n:Int) (ls:List P2) (T:List P3):Prop where
 n3:3<=n
 tri:∀a c b,(a,c,b)∈T->0<=a/\a<c/\c<b/\b<=n - 1/\((a,c)∈ls\/c=a+1)/\((c,b)∈ls\/b=c+1)
 lin:∀a b,(a,b)∈ls->0<=a/\a+2<=b/\b<=n - 1/\¬(a=0/\b=n - 1)
 nc:∀a b c d,(a,b)∈ls->(c,d)∈ls->¬(a<c/\c<b/\b<d)
 nd:ls.Nodup
 prm:(T.map outer).Perm ((0,n - 1)::ls)
theorem y2y:CInv 3 [] [(0,1,2)] where
 n3:=by omega
 tri:=fun a c b h=>by simp only [List.mem_cons,Prod.mk.injEq,List.not_mem_nil,or_false] at h;omega
 lin:=fun a b h=>by simp at h
 nc:=fun a b c d h=>by simp at h
 nd:=List.nodup_nil
 prm:=.refl _
theorem Z7 {c:Int} {ls:List P2} {x y:Int} (h:(x,y)∈ls.map (sh2 c)):∃a b,(a,b)∈ls/\x=sh c a/\y=sh c b:=by obtain ⟨⟨a,b⟩,hm,e⟩:=List.mem_map.mp h;simp only [sh2,Prod.mk.injEq] at e;exact ⟨a,b,hm,e.1.symm,e.2.symm⟩
theorem Ru {c:Int} {ls:List P2} {a b:Int} (h:(a,b)∈ls):(sh c a,sh c b)∈ls.map (sh2 c):=List.mem_map.mpr ⟨(a,b),h,rfl⟩
theorem Pj (h:sh c x=sh c y):x=y:=by unfold sh at h;split at h<;>split at h<;>lia
theorem CInv.grow (I:CInv n ls T) (c:Int) (h0:0<=c) (h1:c<n):CInv (n+1) (ls.map (sh2 c)++[u7 n c]) (T.map (sh3 c)++[J1 n c]) where
 n3:=by have:=I.n3;lia
 tri:=fun x y z h=>by
  have h3:=I.n3;rcases List.mem_append.mp h with h | h
  . obtain ⟨⟨a,m,b⟩,hm,e⟩:=List.mem_map.mp h;simp only [sh3,Prod.mk.injEq] at e;obtain ⟨rfl,rfl,rfl⟩:=e;obtain ⟨g1,g2,g3,g4,g5,g6⟩:=I.tri a m b hm;have k1:0<=sh c a:=by unfold sh;split<;>lia
    have k2:sh c a<sh c m:=by unfold sh;split<;>split<;>lia
    have k3:sh c m<sh c b:=by unfold sh;split<;>split<;>lia
    have k4:sh c b<=n+1 - 1:=by unfold sh;split<;>lia
    have side:∀u w,u+1=w->w<=n - 1->(sh c u,sh c w)∈ls.map (sh2 c)++[u7 n c]\/sh c w=sh c u+1:=fun u w e hw=>by
     by_cases q:u=c
     . left;refine List.mem_append.mpr (.inr ?_);have e1:sh c u=c:=by unfold sh;split<;>lia
       have e2:sh c w=c+2:=by unfold sh;split<;>lia
       rw [e1,e2];unfold u7;rw [ξ (by lia)];simp
     . right;unfold sh;split<;>split<;>lia
    refine ⟨k1,k2,k3,k4,?_,?_⟩
    . rcases g5 with g5 | g5
      . exact .inl (List.mem_append.mpr (.inl (Ru g5)))
      . exact side a m (by lia) (by lia)
    . rcases g6 with g6 | g6
      . exact .inl (List.mem_append.mpr (.inl (Ru g6)))
      . exact side m b (by lia) (by lia)
  . simp only [List.mem_singleton] at h;unfold J1 at h;by_cases q:c=n - 1
    . rw [ζ q] at h;simp only [Prod.mk.injEq] at h;obtain ⟨rfl,rfl,rfl⟩:=h;refine ⟨by lia,by lia,by lia,by lia,.inl (List.mem_append.mpr (.inr ?_)),.inr (by lia)⟩;unfold u7;rw [ζ q];simp
    . rw [ξ q] at h;simp only [Prod.mk.injEq] at h;obtain ⟨rfl,rfl,rfl⟩:=h;exact ⟨by lia,by lia,by lia,by lia,.inr rfl,.inr (by lia)⟩
 lin:=fun x y h=>by
  have h3:=I.n3;rcases List.mem_append.mp h with h | h
  . obtain ⟨a,b,hm,rfl,rfl⟩:=Z7 h;obtain ⟨g1,g2,g3,g4⟩:=I.lin a b hm;unfold sh;split<;>split<;>lia
  . simp only [List.mem_singleton] at h;unfold u7 at h;by_cases q:c=n - 1
    . rw [ζ q] at h;simp only [Prod.mk.injEq] at h;lia
    . rw [ξ q] at h;simp only [Prod.mk.injEq] at h;lia
 nc:=fun x y z w h h'=>by
  have h3:=I.n3;rcases List.mem_append.mp h with h | h<;>rcases List.mem_append.mp h' with h' | h'
  . obtain ⟨a,b,hm,rfl,rfl⟩:=Z7 h;obtain ⟨a',b',hm',rfl,rfl⟩:=Z7 h';have:=I.nc a b a' b' hm hm';unfold sh;split<;>split<;>split<;>split<;>lia
  . obtain ⟨a,b,hm,rfl,rfl⟩:=Z7 h;simp only [List.mem_singleton] at h';have:=I.lin a b hm;unfold u7 at h';by_cases q:c=n - 1
    . rw [ζ q] at h';simp only [Prod.mk.injEq] at h';unfold sh;split<;>split<;>lia
    . rw [ξ q] at h';simp only [Prod.mk.injEq] at h';unfold sh;split<;>split<;>lia
  . obtain ⟨a,b,hm,rfl,rfl⟩:=Z7 h';simp only [List.mem_singleton] at h;have:=I.lin a b hm;unfold u7 at h;by_cases q:c=n - 1
    . rw [ζ q] at h;simp only [Prod.mk.injEq] at h;unfold sh;split<;>split<;>lia
    . rw [ξ q] at h;simp only [Prod.mk.injEq] at h;unfold sh;split<;>split<;>lia
  . simp only [List.mem_singleton] at h h';rw [<-h'] at h;simp only [Prod.mk.injEq] at h;lia
 nd:=by
  have h3:=I.n3;rw [List.nodup_append];refine ⟨?_,by simp,fun p hp q hq=>?_⟩
  . refine (List.pairwise_map.mpr (I.nd.imp fun {p q} hne e=>hne ?_));simp only [sh2,Prod.mk.injEq] at e;exact Prod.ext (Pj e.1) (Pj e.2)
  . simp only [List.mem_singleton] at hq;subst hq;obtain ⟨x,y⟩:=p;obtain ⟨a,b,hm,rfl,rfl⟩:=Z7 hp;have:=I.lin a b hm;intro e;unfold u7 at e;by_cases q:c=n - 1
    . rw [ζ q] at e;simp only [Prod.mk.injEq] at e;unfold sh at e;split at e<;>split at e<;>lia
    . rw [ξ q] at e;simp only [Prod.mk.injEq] at e;unfold sh at e;split at e<;>split at e<;>lia
 prm:=by
  have h3:=I.n3;have e1:(T.map (sh3 c)++[J1 n c]).map outer=(T.map outer).map (sh2 c)++[outer (J1 n c)]:=by simp only [List.map_append,List.map_map,List.map_cons,List.map_nil];rfl
  have p1:((T.map outer).map (sh2 c)++[outer (J1 n c)]).Perm (((0,n - 1)::ls).map (sh2 c)++[outer (J1 n c)]):=(I.prm.map (sh2 c)).append_right _;rw [e1];refine p1.trans ?_;have e0:sh c 0=0:=by unfold sh;split<;>lia
  rw [List.map_cons];by_cases q:c=n - 1
  . have e2:sh2 c (0,n - 1)=u7 n c:=by
     unfold u7 sh2;rw [ζ q];simp only [Prod.mk.injEq];exact ⟨e0,by unfold sh;split<;>lia⟩
    have e3:outer (J1 n c)=(0,n+1 - 1):=by unfold J1 outer;rw [ζ q];simp
    rw [e2,e3]
    refine (List.perm_append_comm (l₁:=_::_) (l₂:=[_])).trans ?_
    refine List.Perm.cons _ ?_
    exact (List.perm_append_comm (l₁:=[u7 n c]) (l₂:=ls.map (sh2 c)))
  . have e2:sh2 c (0,n - 1)=(0,n+1 - 1):=by
     unfold sh2;simp only [Prod.mk.injEq];exact ⟨e0,by unfold sh;split<;>lia⟩
    have e3:outer (J1 n c)=u7 n c:=by unfold J1 u7 outer;rw [ξ q,ξ q]
    rw [e2,e3];exact .refl _
end Cu
namespace Cu
open L2 (mxD Jx T2 T3 so3 Tw U6)
def pk (x:Int) (p l:P2):Bool:=decide (l.1=x)&&(decide (l.2<=p.2)&&!(decide (l.1=p.1)&&decide (l.2=p.2)))
theorem jF:pk x p l=true↔l.1=x/\l.2<=p.2/\¬(l.1=p.1/\l.2=p.2):=by
 simp only [pk,Bool.and_eq_true,decide_eq_true_eq,Bool.not_eq_true',Bool.and_eq_false_iff,decide_eq_false_iff_not];constructor
 . rintro ⟨h1,h2,h3⟩;exact ⟨h1,h2,fun h=>by rcases h3 with z | z<;>lia⟩
 . rintro ⟨h1,h2,h3⟩;refine ⟨h1,h2,?_⟩;by_cases z:l.1=p.1
   . exact .inr fun w=>h3 ⟨z,w⟩
   . exact .inl z
def ends (x:Int) (p:P2) (ls:List P2):List Int:=(ls.filter (pk x p)).map (·.2)
theorem mem_ends:y∈ends x p ls↔(x,y)∈ls/\y<=p.2/\¬(x=p.1/\y=p.2):=by
 simp only [ends,List.mem_map,List.mem_filter,jF];constructor
 . rintro ⟨⟨a,b⟩,⟨h1,h2,h3,h4⟩,rfl⟩;simp only at h2 h3 h4 ⊢;subst h2;exact ⟨h1,h3,h4⟩
 . rintro ⟨h1,h2,h3⟩;exact ⟨(x,y),⟨h1,rfl,h2,h3⟩,rfl⟩
section
variable {n:Int} {ls ls':List P2} {T:List P3} {a b c:Int}
theorem CInv.beh1 (I:CInv n ls T) (p:ls'.Perm ls) (h:(a,c,b)∈T):mxD (a+1) (ends a (a,b) ls')=c:=by
 obtain ⟨g1,g2,g3,g4,g5,g6⟩:=I.tri a c b h;have key:∀y∈ends a (a,b) ls',y<=c:=fun y hy=>by
  obtain ⟨m1,m2,m3⟩:=mem_ends.mp hy;have m1:=p.mem_iff.mp m1;simp only at m2 m3;have:¬y=b:=fun z=>m3 (by simpa using z)
  rcases g6 with g6 | g6
  . have:=I.nc a y c b m1 g6;lia
  . lia
 refine Jx key ?_;rcases g5 with g5 | g5
 . left;exact mem_ends.mpr ⟨p.mem_iff.mpr g5,by simp only;lia,by simp only;lia⟩
 . by_cases z:ends a (a,b) ls'=[]
   . exact .inr ⟨z,by lia⟩
   . obtain ⟨y,hy⟩:=List.exists_mem_of_ne_nil _ z;have:=key y hy;obtain ⟨m1,m2,m3⟩:=mem_ends.mp hy;have:=I.lin a y (p.mem_iff.mp m1);lia
theorem CInv.beh2 (I:CInv n ls T) (p:ls'.Perm ls) (h:(a,c,b)∈T):mxD (c+1) (ends c (a,b) ls')=b:=by
 obtain ⟨g1,g2,g3,g4,g5,g6⟩:=I.tri a c b h;refine Jx (fun y hy=>(mem_ends.mp hy).2.1) ?_;rcases g6 with g6 | g6
 . left;exact mem_ends.mpr ⟨p.mem_iff.mpr g6,by simp only;lia,by simp only;lia⟩
 . by_cases z:ends c (a,b) ls'=[]
   . exact .inr ⟨z,by lia⟩
   . obtain ⟨y,hy⟩:=List.exists_mem_of_ne_nil _ z;obtain ⟨m1,m2,m3⟩:=mem_ends.mp hy;have:=I.lin c y (p.mem_iff.mp m1);simp only at m2;lia
def thr (T:List P3) (p:P2):P3:=(T.find? fun t=>decide (outer t=p)).getD (0,0,0)
theorem Pi (h:p∈T.map outer):thr T p∈T/\outer (thr T p)=p:=by
 obtain ⟨t,ht,e⟩:=List.mem_map.mp h;unfold thr;cases hf:T.find? fun t=>decide (outer t=p) with
 | none=>
  have:=List.find?_eq_none.mp hf t ht
  simp [e] at this
 | some u=>
  have h1:=List.mem_of_find?_eq_some hf
  have h2:=List.find?_some hf
  exact ⟨h1,by simpa using h2⟩
theorem CInv.thr_outer (I:CInv n ls T) (h:t∈T):thr T (outer t)=t:=by obtain ⟨h1,h2⟩:=Pi (T:=T) (List.mem_map.mpr ⟨t,h,rfl⟩);obtain ⟨a,c,b⟩:=t;generalize thr T (outer (a,c,b))=u at h1 h2;obtain ⟨a',c',b'⟩:=u;simp only [outer,Prod.mk.injEq] at h2;obtain ⟨rfl,rfl⟩:=h2;have e1:=I.beh1 (.refl _) h1;have e2:=I.beh1 (.refl _) h;rw [e1] at e2;rw [e2]
theorem CInv.tops (I:CInv n ls T) (p:ls'.Perm ls):(((0,n - 1)::ls').map (thr T)).Perm T:=by
 have q:((0,n - 1)::ls').Perm (T.map outer):=(p.cons _).trans I.prm.symm;refine (q.map (thr T)).trans ?_;rw [List.map_map];have:T.map (thr T∘outer)=T:=by
  conv=>rhs;rw [<-List.map_id T]
  exact List.map_congr_left fun t ht=>I.thr_outer ht
 rw [this]
theorem CInv.top_in (I:CInv n ls T) (p:ls'.Perm ls) (h:q∈(0,n - 1)::ls'):thr T q∈T/\outer (thr T q)=q:=
 Pi ((((p.cons _).trans I.prm.symm).mem_iff).mp h)
theorem CInv.len (I:CInv n ls T):T.length=ls.length+1:=by have:=I.prm.length_eq;simpa using this
end
def bth (x y:Int) (t:P3):Bool:=(decide (x=t.1)||(decide (x=t.2.1)||decide (x=t.2.2)))&&(decide (y=t.1)||(decide (y=t.2.1)||decide (y=t.2.2)))
theorem bth_iff:bth x y (a,c,b)=true↔(x=a\/x=c\/x=b)/\(y=a\/y=c\/y=b):=by simp only [bth,Bool.and_eq_true,Bool.or_eq_true,decide_eq_true_eq]
open Classical in
noncomputable def ee (n:Int) (ls:List P2) (x y:Int):Nat:=(if (x,y)∈ls then 2 else 0)+(if y=x+1/\0<=x/\y<=n - 1 then 1 else 0)+(if x=0/\y=n - 1 then 1 else 0)
def Cnt (n:Int) (ls:List P2) (T:List P3):Prop:=∀x y,x<y->(T.filter (bth x y)).length=ee n ls x y
end Cu
namespace Cu
structure Lns (n:Int) (ls:List P2):Prop where
 n3:3<=n
 lin:∀a b,(a,b)∈ls->0<=a/\a+2<=b/\b<=n - 1/\¬(a=0/\b=n - 1)
 nc:∀a b c d,(a,b)∈ls->(c,d)∈ls->¬(a<c/\c<b/\b<d)
 nd:ls.Nodup
structure Nx (t:P2) (ls:List P2) (nx:Int->Int):Prop where
 up:∀c,c<t.2->c<nx c/\nx c<=t.2
 or:∀c,c<t.2->((c,nx c)∈ls/\(c,nx c)≠t)\/nx c=c+1
 ge:∀c e,(c,e)∈ls->e<=t.2->(c,e)≠t->e<=nx c
inductive Ch (b:Int) (nx:Int->Int):Int->List Int->List P2->Prop
 | last:Ch b nx b [b] []
 | step {c:Int} {l:List Int} {es:List P2} (h:c<b) (r:Ch b nx (nx c) l es):Ch b nx c (c::l) ((c,nx c)::es)
section
variable {b:Int} {nx:Int->Int} {c:Int} {l:List Int} {es:List P2}
theorem Ch.ge (h:Ch b nx c l es) (hu:∀c,c<b->c<nx c/\nx c<=b):(∀x∈l,c<=x/\x<=b)/\l.Pairwise (·<·)/\c∈l/\b∈l:=by
 induction h with
 | last=>exact ⟨fun x hx=>by simp at hx;lia,by simp,by simp,by simp⟩
 | step h r ih=>
  have u:=hu _ h
  refine ⟨fun x hx=>?_,List.pairwise_cons.mpr ⟨fun x hx=>?_,ih.2.1⟩,by simp,List.mem_cons_of_mem _ ih.2.2.2⟩
  . rcases List.mem_cons.mp hx with rfl | hx
    . lia
    . have:=ih.1 x hx;lia
  . have:=ih.1 x hx;lia
theorem Ch.edge (h:Ch b nx c l es) (hu:∀c,c<b->c<nx c/\nx c<=b):(∀x y,(x,y)∈es↔x∈l/\x<b/\y=nx x)/\es.Nodup:=by
 induction h with
 | last=>exact ⟨fun x y=>by simp;lia,List.nodup_nil⟩
 | @step c l es h r ih=>
  have g:=r.ge hu
  have u:=hu _ h
  refine ⟨fun x y=>?_,List.nodup_cons.mpr ⟨fun hm=>?_,ih.2⟩⟩
  . rw [List.mem_cons,ih.1,List.mem_cons,Prod.mk.injEq];constructor
    . rintro (⟨rfl,rfl⟩ | ⟨h1,h2,h3⟩)
      . exact ⟨.inl rfl,h,rfl⟩
      . exact ⟨.inr h1,h2,h3⟩
    . rintro ⟨rfl | h1,h2,h3⟩
      . exact .inl ⟨rfl,h3⟩
      . exact .inr ⟨h1,h2,h3⟩
  . have:=(ih.1 c _).mp hm;have:=g.1 c this.1
    lia
theorem Ch.le (h:Ch b nx c l es) (hu:∀c,c<b->c<nx c/\nx c<=b):∀x y,x∈l->y∈l->x<y->nx x<=y:=by
 induction h with
 | last=>intro x y hx hy;simp at hx hy;lia
 | @step c l es h r ih=>
  have g:=r.ge hu
  have u:=hu _ h
  intro x y hx hy hl
  rcases List.mem_cons.mp hx with e1 | kx<;>rcases List.mem_cons.mp hy with e2 | ky
  . lia
  . rw [e1];exact (g.1 y ky).1
  . have:=g.1 x kx;lia
  . exact ih x y kx ky hl
theorem Ch.lo (h:Ch b nx c l es):∀z,c<=z->z<=b->∃p,p∈l/\p<=z/\(z=p\/(p<b/\z<nx p)):=by
 induction h with
 | last=>intro z h1 h2;exact ⟨b,by simp,by lia,.inl (by lia)⟩
 | @step c l es h r ih=>
  intro z h1 h2
  by_cases q:z<nx c
  . exact ⟨c,by simp,h1,.inr ⟨h,q⟩⟩
  . obtain ⟨p,p1,p2,p3⟩:=ih z (by lia) h2;exact ⟨p,List.mem_cons_of_mem _ p1,p2,p3⟩
theorem Ch.ends (h:Ch b nx c l es):(∃m,l=m++[b])/\∃m,l=c::m:=by
 induction h with
 | last=>exact ⟨⟨[],rfl⟩,[],rfl⟩
 | @step c l es h r ih=>obtain ⟨⟨m,e⟩,_⟩:=ih;exact ⟨⟨c::m,by rw [e];rfl⟩,l,rfl⟩
theorem Ch.zip (h:Ch b nx c l es):es=l.zip l.tail:=by
 induction h with
 | last=>rfl
 | @step c l es h r ih=>
  obtain ⟨m,e⟩:=r.ends.2
  rw [ih,e];rfl
theorem Ch.ex (hu:∀c,c<b->c<nx c/\nx c<=b):∀(k:Nat) (c:Int),c<=b->(b - c).toNat<=k->∃l es,Ch b nx c l es
 | 0,c,h,hk=>by
  have:c=b:=by lia
  subst this;exact ⟨_,_,.last⟩
 | k+1,c,h,hk=>by
  by_cases q:c<b
  . have u:=hu c q;obtain ⟨l,es,r⟩:=Ch.ex hu k (nx c) u.2 (by lia);exact ⟨_,_,.step q r⟩
  . have:c=b:=by lia
    subst this;exact ⟨_,_,.last⟩
theorem Ch.len (h:Ch b nx c l es) (hu:∀c,c<b->c<nx c/\nx c<=b):(l.length:Int)<=b - c+1:=by
 induction h with
 | last=>simp
 | @step c l es h r ih=>have u:=hu _ h;simp;lia
end
theorem Ph (f:α->Nat) (P:α->Prop) (l:List α):∀(k:Nat),(∃x∈l,P x/\f x<=k)->∃x∈l,P x/\∀y∈l,P y->f x<=f y
 | 0,⟨x,h1,h2,h3⟩=>⟨x,h1,h2,fun y _ _=>by lia⟩
 | k+1,⟨x,h1,h2,h3⟩=>by
  by_cases q:∃y∈l,P y/\f y<=k
  . exact Ph f P l k q
  . refine ⟨x,h1,h2,fun y hy py=>?_⟩;by_cases z:f y<=k
    . exact absurd ⟨y,hy,py,z⟩ q
    . lia
section
variable {n:Int} {ls:List P2}
def x3 (n:Int) (ls:List P2) (t:P2):Prop:=t=(0,n - 1)\/t∈ls
theorem Lns.top (I:Lns n ls) (h:x3 n ls (a,b)):0<=a/\a+2<=b/\b<=n - 1:=by
 have:=I.n3;rcases h with h | h
 . cases h;lia
 . have:=I.lin a b h;lia
theorem Lns.tnc (I:Lns n ls) (h:x3 n ls (a,b)) (h':x3 n ls (c,d)):¬(a<c/\c<b/\b<d):=by
 have t1:=I.top h;have t2:=I.top h';rcases h with h | h
 . cases h;omega
 rcases h' with h' | h'
 . cases h';omega
 exact I.nc a b c d h h'
def Eg (n:Int) (ls:List P2) (f:P2):Prop:=f∈ls\/(f.2=f.1+1/\0<=f.1/\f.2<=n - 1)
theorem Lns.room (I:Lns n ls) (ht:x3 n ls t) (X:Nx t ls nx) (Z:Ch t.2 nx t.1 C E) :
  3<=C.length/\(∀x∈C,0<=x/\x<=n - 1)/\t∉E/\(∀f∈E,Eg n ls f/\f.1<f.2)/\∀c e,(c,e)∈ls->c∈C->e∈C->(c,e)∈E\/(c,e)=t:=by
 obtain ⟨a,b⟩:=t
 have tt:=I.top ht
 have G:=Z.ge X.up
 have Ed:=Z.edge X.up
 have ua:=X.up a (by simp only;lia)
 simp only at ua
 have na:nx a<b:=by
  rcases X.or a (by simp only;lia) with ⟨o1,o2⟩ | o
  . have:nx a≠b:=fun z=>o2 (by rw [z])
    lia
  . lia
 refine ⟨?_,fun x hx=>?_,fun hm=>?_,fun f hf=>?_,fun c e h hc he=>?_⟩
 . cases Z with
   | last=>lia
   | step h r=>
    rename_i l es
    generalize hx:nx a=x at *
    cases r with
    | last=>lia
    | step h2 r2=>
     obtain ⟨m,e⟩:=r2.ends.2
     rw [e];simp
 . have:=G.1 x hx;simp only at this;lia
 . have:=(Ed.1 a b).mp hm;lia
 . obtain ⟨c,e⟩:=f;obtain ⟨h1,h2,h3⟩:=(Ed.1 c e).mp hf;have u:=X.up c h2;have:=(G.1 c h1).1;simp only at this u h2;refine ⟨?_,by simp only;lia⟩;rcases X.or c h2 with ⟨o1,o2⟩ | o
   . exact .inl (by rw [h3];exact o1)
   . exact .inr ⟨by simp only;lia,by simp only;lia,by simp only;lia⟩
 . by_cases q:(c,e)=(a,b)
   . exact .inr q
   . left;have l:=I.lin c e h;have h1:=G.1 e he;simp only at h1;have g:=X.ge c e h h1.2 q;have k:=Z.le X.up c e hc he (by lia);exact (Ed.1 c e).mpr ⟨hc,by simp only;lia,by lia⟩
variable {N:P2->Int->Int} (hN:∀t,x3 n ls t->Nx t ls (N t))
include hN
theorem Lns.inner (I:Lns n ls) (C:P2->List Int) (E:P2->List P2) (hC:∀t,x3 n ls t->Ch t.2 (N t) t.1 (C t) (E t)) (hf:Eg n ls f) :
  ∃t,x3 n ls t/\f∈E t/\∀t',x3 n ls t'->f∈E t'->t'=t:=by
 have h3:=I.n3
 obtain ⟨c,e⟩:=f
 have hce:0<=c/\c<e/\e<=n - 1:=by
  rcases hf with h | h
  . have:=I.lin c e h;lia
  . simp only at h;lia
 have ncf:∀p q,x3 n ls (p,q)->p<c->c<q->e<=q:=fun p q hp h1 h2=>by
  rcases hf with h | h
  . have:=I.tnc hp (.inr h);lia
  . simp only at h;lia
 have f0:((0:Int),n - 1)≠(c,e):=fun z=>by
  cases z;rcases hf with h | h
  . have:=I.lin _ _ h;lia
  . simp only at h;lia
 obtain ⟨t,ht,⟨ht1,ht2,ht3⟩,hmin⟩:=Ph (fun t:P2=>(t.2 - t.1).toNat) (fun t=>t.1<=c/\e<=t.2/\t≠(c,e)) ((0,n - 1)::ls) (n - 1).toNat ⟨(0,n - 1),by simp,⟨hce.1,hce.2.2,f0⟩,by simp⟩
 obtain ⟨a,b⟩:=t
 have hT:x3 n ls (a,b):=List.mem_cons.mp ht
 have hmin:∀p q,x3 n ls (p,q)->p<=c->e<=q->(p,q)≠(c,e)->b - a<=q - p:=fun p q hp h1 h2 h3=>by
  have t1:=I.top hT;have t2:=I.top hp;have:=hmin (p,q) (List.mem_cons.mpr hp) ⟨h1,h2,h3⟩;simp only at this
  lia
 simp only at ht1 ht2
 have tt:=I.top hT
 have X:=hN _ hT
 have Z:=hC _ hT
 have G:=Z.ge X.up
 have Ed:=Z.edge X.up
 refine ⟨(a,b),hT,?_,fun t' hT' hm=>?_⟩
 . -- c is a corner of the room
   obtain ⟨p,p1,p2,p3⟩:=Z.lo c ht1 (by simp only;lia);have hpa:=(G.1 p p1).1;simp only at hpa p3;have hpc:c=p:=by
    rcases p3 with p3 | ⟨p3,p4⟩
    . exact p3
    . by_cases q:c=p
      . exact q
      . exfalso;have u:=X.up p p3;simp only at u;rcases X.or p p3 with ⟨o1,o2⟩ | o
        . have o3:x3 n ls (p,N (a,b) p):=.inr o1;have:=ncf _ _ o3 (by lia) p4;have:=hmin _ _ o3 (by lia) this (fun z=>by cases z;lia);exact o2 (Prod.ext (by simp only;lia) (by simp only;lia))
        . lia
   subst hpc;refine (Ed.1 _ _).mpr ⟨p1,by simp only;lia,?_⟩;have u:=X.up c (by simp only;lia);simp only at u;have hge:e<=N (a,b) c:=by
    rcases hf with h | h
    . exact X.ge c e h ht2 (fun z=>ht3 z.symm)
    . simp only at h;lia
   by_cases q:e=N (a,b) c
   . exact q
   . exfalso;rcases X.or c (by simp only;lia) with ⟨o1,o2⟩ | o
     . have o3:x3 n ls (c,N (a,b) c):=.inr o1;have:=hmin _ _ o3 (by lia) hge (fun z=>by cases z;lia);exact o2 (Prod.ext (by simp only;lia) (by simp only;lia))
     . lia
 . obtain ⟨a',b'⟩:=t';have X':=hN _ hT';have Z':=hC _ hT';have G':=Z'.ge X'.up;have Ed':=(Z'.edge X'.up).1 c e;obtain ⟨m1,m2,m3⟩:=Ed'.mp hm;have u':=X'.up c m2;have mc:=(G'.1 c m1).1;simp only at m2 u' mc;have tt':=I.top hT';have ne':(a',b')≠(c,e):=fun z=>by
    cases z;rcases X'.or c m2 with ⟨o1,o2⟩ | o
    . exact o2 (by rw [<-m3])
    . rw [<-m3] at o;lia
   have hl:=hmin a' b' hT' mc (by lia) ne';have n1:=I.tnc hT hT';have n2:=I.tnc hT' hT;have ha:a'<=a:=by lia
   have hb:b<=b':=by lia
   by_cases eq:(a',b')=(a,b)
   . exact eq
   exfalso;have hin:(a,b)∈ls:=by
    rcases hT with h | h
    . cases h;exact absurd (Prod.ext (by simp only;lia) (by simp only;lia)) eq
    . exact h
   have hge:=X'.ge a b hin hb (fun z=>eq z.symm);by_cases q:a=c
   . subst q;exact ht3 (Prod.ext rfl (by simp only;lia))
   . obtain ⟨p,p1,p2,p3⟩:=Z'.lo a ha (by simp only;lia);have hpc:=Z'.le X'.up p c p1 m1 (by lia);simp only at p3;rcases p3 with p3 | ⟨p3,p4⟩
     . subst p3;lia
     . by_cases q2:a=p
       . subst q2;lia
       . rcases X'.or p p3 with ⟨o1,o2⟩ | o
         . have:=I.tnc (.inr o1) hT
           lia
         . lia
end
theorem Dv:∀{l:List α},(∀x∈l,φ x=0)->(l.map φ).sum=0
 | [],_=>rfl
 | a::l,h=>by rw [List.map_cons,List.sum_cons,h a (by simp),Dv fun x hx=>h x (by simp [hx])]
theorem Du:∀{l:List α},l.Nodup->t∈l->(∀x∈l,x≠t->φ x=0)->(l.map φ).sum=φ t
 | [],_,h,_=>by cases h
 | a::l,nd,h,hz=>by
  rw [List.map_cons,List.sum_cons];have nd':=List.nodup_cons.mp nd;by_cases e:a=t
  . subst e;rw [Dv fun x hx=>hz x (by simp [hx]) fun z=>nd'.1 (by rw [<-z];exact hx)];lia
  . rw [hz a (by simp) e,Du nd'.2 ((List.mem_cons.mp h).resolve_left fun z=>e z.symm) fun x hx hn=>hz x (by simp [hx]) hn];lia
theorem Rt {α:Type} {φ ψ:α->Nat}:∀{l:List α},(l.map fun x=>φ x+ψ x).sum=(l.map φ).sum+(l.map ψ).sum
 | []=>rfl
 | a::l=>by rw [List.map_cons,List.map_cons,List.map_cons,List.sum_cons,List.sum_cons,List.sum_cons,Rt (l:=l)];lia
section
variable {n:Int} {ls:List P2} {N:P2->Int->Int}
theorem Lns.tops_nd (I:Lns n ls):((0,n - 1)::ls).Nodup:=List.nodup_cons.mpr ⟨fun h=>by have:=I.lin _ _ h;omega,I.nd⟩
theorem Lns.twice (I:Lns n ls) (hN:∀t,x3 n ls t->Nx t ls (N t)) (C:P2->List Int) (E:P2->List P2) (hC:∀t,x3 n ls t->Ch t.2 (N t) t.1 (C t) (E t)) (hf:f=(0,n - 1)\/Eg n ls f) :
  (((0,n - 1)::ls).map fun t=>(E t++[t]).count f).sum=if f∈ls then 2 else 1:=by
 have e1:(fun t=>(E t++[t]).count f)=fun t=>(E t).count f+[t].count f:=by funext t;rw [List.count_append]
 rw [e1,Rt]
 have nd:=I.tops_nd
 have mt:∀t,t∈(0,n - 1)::ls↔x3 n ls t:=fun t=>List.mem_cons
 have c1:∀t,x3 n ls t->(E t).count f=if f∈E t then 1 else 0:=fun t ht=>by rw [(((hC t ht).edge (hN t ht).up).2).count]
 have s2:∀t,[t].count f=if t=f then 1 else 0:=fun t=>by
  rw [List.count_singleton];by_cases z:t=f
  . rw [ζ z];simp [z]
  . rw [ξ z,ξ (by simpa using z)]
 by_cases h0:f∈ls
 . rw [ζ h0];obtain ⟨t,ht,hm,hu⟩:=I.inner hN C E hC (.inl h0);rw [Du nd ((mt t).mpr ht) (fun x hx hn=>by rw [c1 x ((mt x).mp hx),ξ fun z=>hn (hu x ((mt x).mp hx) z)]),Du (t:=f) nd (by simp [h0]) (fun x hx hn=>by rw [s2,ξ hn]),c1 t ht,ζ hm,s2,ζ rfl]
 . rw [ξ h0];rcases hf with hf | hf
   . rw [Dv (fun x hx=>by
      rw [c1 x ((mt x).mp hx),ξ fun z=>?_];have:=((I.room ((mt x).mp hx) (hN _ ((mt x).mp hx)) (hC _ ((mt x).mp hx))).2.2.2.1 f z).1;rcases this with q | q
      . exact h0 q
      . have:=I.n3;rw [hf] at q;simp only at q;lia),Du (t:=f) nd (by simp [hf]) (fun x hx hn=>by rw [s2,ξ hn]),s2,ζ rfl]
   . obtain ⟨t,ht,hm,hu⟩:=I.inner hN C E hC hf;rw [Du nd ((mt t).mpr ht) (fun x hx hn=>by
      rw [c1 x ((mt x).mp hx),ξ fun z=>hn (hu x ((mt x).mp hx) z)]),Dv (φ:=fun t=>[t].count f) (fun x hx=>by
      rw [s2,ξ fun z=>?_];rw [z] at hx;rcases List.mem_cons.mp hx with q | q
      . rcases hf with hf | hf
        . exact h0 hf
        . have:=I.n3;rw [q] at hf;simp only at hf;lia
      . exact h0 q),c1 t ht,ζ hm]
end
def b1n (b:Bool):Nat:=if b=true then 1 else 0
theorem qQ (x y a c b:Int):b1n (bth x y (a,c,b))=if ((x=a\/x=c\/x=b)/\(y=a\/y=c\/y=b)) then 1 else 0:=by
 unfold b1n;by_cases h:bth x y (a,c,b)=true
 . rw [ζ h,ζ (bth_iff.mp h)]
 . rw [ξ h,ξ (fun z=>h (bth_iff.mpr z))]
def e2 (x y a b:Int):Nat:=if x=a/\y=b then 1 else 0
theorem y0l (hxy:x<y) (h1:a<c) (h2:c<b):b1n (bth x y (a,c,b))=e2 x y a c+e2 x y c b+e2 x y a b:=by
 rw [qQ];unfold e2;by_cases z1:x=a/\y=c
 . rw [ζ ⟨.inl z1.1,.inr (.inl z1.2)⟩,ζ z1,ξ (fun z=>by lia),ξ (fun z=>by lia)]
 . by_cases z2:x=c/\y=b
   . rw [ζ ⟨.inr (.inl z2.1),.inr (.inr z2.2)⟩,ξ z1,ζ z2,ξ (fun z=>by clear z1;lia)]
   . by_cases z3:x=a/\y=b
     . rw [ζ ⟨.inl z3.1,.inr (.inr z3.2)⟩,ξ z1,ξ z2,ζ z3]
     . rw [ξ (fun z=>by rcases z with ⟨h | h | h,k | k | k⟩<;>first | exact z1 ⟨h,k⟩ | exact z2 ⟨h,k⟩ | exact z3 ⟨h,k⟩ | (clear z1 z2 z3;lia)),ξ z1,ξ z2,ξ z3]
theorem CInv.top_or (I:CInv n ls T) (h:(a,c,b)∈T):(a,b)∈ls\/(a=0/\b=n - 1):=by
 have:(a,b)∈(0,n - 1)::ls:=I.prm.mem_iff.mp (List.mem_map.mpr ⟨(a,c,b),h,rfl⟩);rcases List.mem_cons.mp this with z | z
 . simp only [Prod.mk.injEq] at z;exact .inr z
 . exact .inl z
structure Cut (n:Int) (ls:List P2) (T:List P3):Prop where
 inv:CInv n ls T
 cnt:Cnt n ls T
theorem nc2 (I:CInv n ls T) (h:(a,b)∈ls\/b=a+1) (hx:(x,y)∈ls):¬(a<x/\x<b/\b<y)/\¬(x<a/\a<y/\y<b):=by
 rcases h with h | h
 . exact ⟨I.nc a b x y h hx,I.nc x y a b hx h⟩
 . lia
theorem nc3 (I:CInv n ls T) (h:(a,b)∈ls\/(a=0/\b=n - 1)) (hx:(x,y)∈ls):¬(a<x/\x<b/\b<y)/\¬(x<a/\a<y/\y<b):=by
 rcases h with h | h
 . exact ⟨I.nc a b x y h hx,I.nc x y a b hx h⟩
 . have:=I.lin x y hx;omega
theorem y2z {p m q r x y:Int} (a2:p<m) (a3:m<q) (b3:q<r) (k1:¬(p<x/\x<m/\m<y)/\¬(x<p/\p<y/\y<m)) (k2:¬(m<x/\x<q/\q<y)/\¬(x<m/\m<y/\y<q)) (k3:¬(q<x/\x<r/\r<y)/\¬(x<q/\q<y/\y<r)) (k4:¬(p<x/\x<r/\r<y)/\¬(x<p/\p<y/\y<r)) (h2:¬(x=p/\y=q)) (hl:x+2<=y) :
  ¬(m<x/\x<r/\r<y)/\¬(x<m/\m<y/\y<r):=by
 refine ⟨fun ⟨u,v,z⟩=>k4.1 ⟨Int.lt_trans a2 u,v,z⟩,fun ⟨u,v,z⟩=>?_⟩
 rcases Int.lt_trichotomy y q with f | f | f
 . exact k2.2 ⟨u,v,f⟩
 . subst f;rcases Int.lt_trichotomy x p with e | e | e
   . exact k4.2 ⟨e,Int.lt_trans a2 v,z⟩
   . exact h2 ⟨e,rfl⟩
   . exact k1.1 ⟨e,u,v⟩
 . exact k3.2 ⟨Int.lt_trans u a3,f,z⟩
theorem y30 {p m q r x y:Int} (a2:p<m) (a3:m<q) (b2:r<p) (k1:¬(p<x/\x<m/\m<y)/\¬(x<p/\p<y/\y<m)) (k2:¬(m<x/\x<q/\q<y)/\¬(x<m/\m<y/\y<q)) (k3:¬(r<x/\x<p/\p<y)/\¬(x<r/\r<y/\y<p)) (k4:¬(r<x/\x<q/\q<y)/\¬(x<r/\r<y/\y<q)) (h2:¬(x=p/\y=q)) (hl:x+2<=y) :
  ¬(r<x/\x<m/\m<y)/\¬(x<r/\r<y/\y<m):=by
 refine ⟨fun ⟨u,v,z⟩=>?_,fun ⟨u,v,z⟩=>k4.2 ⟨u,v,Int.lt_trans z a3⟩⟩
 rcases Int.lt_trichotomy x p with e | e | e
 . exact k3.1 ⟨u,e,Int.lt_trans a2 z⟩
 . subst e;rcases Int.lt_trichotomy y q with f | f | f
   . exact k2.2 ⟨v,z,f⟩
   . exact h2 ⟨rfl,f⟩
   . exact k4.1 ⟨u,Int.lt_trans v a3,f⟩
 . exact k1.1 ⟨e,v,z⟩
end Cu
namespace Cu
open L2 (mxD Z8)
def nxt (ls:List P2) (t:P2) (c:Int):Int:=mxD (c+1) (ends c t ls)
theorem Jr:(mxD d ys∈ys\/(ys=[]/\mxD d ys=d))/\∀y∈ys,y<=mxD d ys:=by
 cases ys with
 | nil=>exact ⟨.inr ⟨rfl,rfl⟩,fun y hy=>by cases hy⟩
 | cons n ns=>
  obtain ⟨a,b⟩:=Z8 ns n
  exact ⟨.inl a,b⟩
theorem Nj (I:Lns n ls) (t:P2):Nx t ls (nxt ls t) where
 up:=fun c hc=>by
  unfold nxt;rcases (Jr (d:=c+1) (ys:=ends c t ls)).1 with h | ⟨_,h⟩
  . obtain ⟨m1,m2,m3⟩:=mem_ends.mp h;have:=I.lin _ _ m1;exact ⟨by lia,m2⟩
  . rw [h];lia
 or:=fun c hc=>by
  unfold nxt;rcases (Jr (d:=c+1) (ys:=ends c t ls)).1 with h | ⟨_,h⟩
  . obtain ⟨m1,m2,m3⟩:=mem_ends.mp h;exact .inl ⟨m1,fun z=>m3 ⟨congrArg Prod.fst z,congrArg Prod.snd z⟩⟩
  . exact .inr h
 ge:=fun c e h1 h2 h3=>(Jr (d:=c+1) (ys:=ends c t ls)).2 e (mem_ends.mpr ⟨h1,h2,fun z=>h3 (Prod.ext z.1 z.2)⟩)
theorem CInv.lns (I:CInv n ls T) (nd:xs.Nodup) (h:∀p∈xs,p∈ls):Lns n xs:=
 ⟨I.n3,fun a b m=>I.lin a b (h _ m),fun a b c d m1 m2=>I.nc a b c d (h _ m1) (h _ m2),nd⟩
theorem Rs (p:α->Bool):∀l:List α,(l.filter p).length=(l.map fun x=>b1n (p x)).sum
 | []=>rfl
 | x::l=>by rw [List.map_cons,List.sum_cons,<-Rs p l,List.filter_cons];unfold b1n;cases p x<;>simp<;>lia
theorem jE (I:CInv n ls T):Cnt n ls T:=by
 intro x y hxy;have L:=I.lns I.nd fun _ z=>z
 have hC:∀t,x3 n ls t->Ch t.2 (nxt ls t) t.1 [(thr T t).1,(thr T t).2.1,(thr T t).2.2] [((thr T t).1,(thr T t).2.1),((thr T t).2.1,(thr T t).2.2)]:=fun t ht=>by
  obtain ⟨m,o⟩:=I.top_in (.refl _) (q:=t) (by rcases ht with rfl | h;exact List.mem_cons_self;exact List.mem_cons_of_mem _ h);generalize thr T t=u at m o;obtain ⟨a,c,b⟩:=u;simp only [outer] at o;subst o;have g:=I.tri a c b m;have e1:nxt ls (a,b) a=c:=I.beh1 (.refl _) m;have e2:nxt ls (a,b) c=b:=I.beh2 (.refl _) m;have s2:Ch b (nxt ls (a,b)) c [c,b] [(c,b)]:=by have:=Ch.step (b:=b) (nx:=nxt ls (a,b)) (c:=c) (l:=[b]) (es:=[]) (by omega) (by rw [e2];exact .last);rwa [e2] at this
  have s1:=Ch.step (b:=b) (nx:=nxt ls (a,b)) (c:=a) (l:=[c,b]) (es:=[(c,b)]) (by omega) (by rw [e1];exact s2);rw [e1] at s1;exact s1
 have key:(T.filter (bth x y)).length=(((0,n - 1)::ls).map fun t=>([((thr T t).1,(thr T t).2.1),((thr T t).2.1,(thr T t).2.2)]++[t]).count (x,y)).sum:=by rw [<-((I.tops (.refl ls)).filter (bth x y)).length_eq,Rs,List.map_map];refine congrArg List.sum (List.map_congr_left fun t ht=>?_);obtain ⟨m,o⟩:=I.top_in (.refl _) (q:=t) ht;show b1n (bth x y (thr T t))=_;generalize thr T t=u at m o;obtain ⟨a,c,b⟩:=u;simp only [outer] at o;subst o;have g:=I.tri a c b m;rw [y0l hxy (by omega) (by omega)];unfold e2;simp only [List.cons_append,List.nil_append,List.count_cons,List.count_nil,beq_iff_eq,Prod.mk.injEq];have c1:(a=x/\c=y)↔(x=a/\y=c):=⟨fun z=>⟨z.1.symm,z.2.symm⟩,fun z=>⟨z.1.symm,z.2.symm⟩⟩;have c2:(c=x/\b=y)↔(x=c/\y=b):=⟨fun z=>⟨z.1.symm,z.2.symm⟩,fun z=>⟨z.1.symm,z.2.symm⟩⟩;have c3:(a=x/\b=y)↔(x=a/\y=b):=⟨fun z=>⟨z.1.symm,z.2.symm⟩,fun z=>⟨z.1.symm,z.2.symm⟩⟩;simp only [c1,c2,c3];omega
 rw [key];by_cases hf:(x,y)=(0,n - 1)\/Eg n ls (x,y)
 . rw [L.twice (fun t _=>Nj L t) (fun t=>[(thr T t).1,(thr T t).2.1,(thr T t).2.2]) (fun t=>[((thr T t).1,(thr T t).2.1),((thr T t).2.1,(thr T t).2.2)]) hC hf];unfold ee;by_cases hm:(x,y)∈ls
   . have:=I.lin x y hm;rw [ζ hm,ζ hm,ξ (by omega),ξ (by omega)]
   . have h3:=I.n3;rw [ξ hm,ξ hm];rcases hf with hf | hf | hf
     . simp only [Prod.mk.injEq] at hf;rw [ξ (by omega),ζ hf]
     . exact absurd hf hm
     . simp only at hf;rw [ζ ⟨hf.1,hf.2.1,hf.2.2⟩,ξ (by omega)]
 . have z:∀t∈(0,n - 1)::ls,([((thr T t).1,(thr T t).2.1),((thr T t).2.1,(thr T t).2.2)]++[t]).count (x,y)=0:=fun t ht=>by
    rw [List.count_eq_zero]
    intro hm
    have tt:x3 n ls t:=List.mem_cons.mp ht
    rcases List.mem_append.mp hm with hm | hm
    . have:=((L.room tt (Nj L t) (hC t tt)).2.2.2.1 (x,y) hm).1;exact hf (.inr this)
    . rw [List.mem_singleton] at hm;rw [hm] at hf;rcases tt with tt | tt
      . exact hf (.inl tt)
      . exact hf (.inr (.inl tt))
   rw [Dv z]
   unfold ee
   have n1:(x,y)∉ls:=fun h=>hf (.inr (.inl h))
   rw [ξ n1,ξ (fun h=>hf (.inr (.inr ⟨h.1,h.2.1,h.2.2⟩))),ξ (fun h=>hf (.inl (by rw [h.1,h.2])))]
theorem CInv.cut (I:CInv n ls T):Cut n ls T:=⟨I,jE I⟩
end Cu
namespace Cu
theorem Cut.two (K:Cut n ls T) (hl:l∈ls):(T.filter (bth l.1 l.2)).length=2:=by have:=K.inv.lin l.1 l.2 hl;rw [K.cnt l.1 l.2 (by omega)];unfold ee;rw [ζ (show (l.1,l.2)∈ls from hl),ξ (by omega),ξ (by omega)]
theorem O4 {ls ls0:List P2} {p q:Int} {w:P2} (pl:ls.Perm ((p,q)::ls0)) {x y:Int} (h1:(x,y)∈ls) (h2:¬(x=p/\y=q)):(x,y)∈ls0++[w]:=by
 rcases List.mem_cons.mp (pl.mem_iff.mp h1) with z | z
 . exact absurd (Prod.mk.inj z) h2
 . exact List.mem_append_left _ z
theorem Cut.turnG (K:Cut n ls T) (pT:T.Perm (t1::t2::T0)) (pl:ls.Perm ((p,q)::ls0)) (b1:bth p q t1=true) (b2:bth p q t2=true)
  (hu:∀u,u=u1\/u=u2->0<=u.1/\u.1<u.2.1/\u.2.1<u.2.2/\u.2.2<=n - 1/\((u.1,u.2.1)∈ls0++[(a,b)]\/u.2.1=u.1+1)/\((u.2.1,u.2.2)∈ls0++[(a,b)]\/u.2.2=u.2.1+1))
  (hw:0<=a/\a+2<=b/\b<=n - 1/\¬(a=0/\b=n - 1)) (new:∀x y,(x,y)∈ls->¬(x=p/\y=q)->¬(a<x/\x<b/\b<y)/\¬(x<a/\a<y/\y<b)) (wn:(a,b)∉ls)
  (hp:∀s,((outer t1)::(outer t2)::T0.map outer).Perm ((p,q)::s)->((outer u1)::(outer u2)::T0.map outer).Perm ((a,b)::s)) :
  Cut n (ls0++[(a,b)]) (u1::u2::T0):=by
 have I:=K.inv
 have nd0:=List.nodup_cons.mp (pl.nodup_iff.mp I.nd)
 have hlq:(p,q)∈ls:=pl.mem_iff.mpr List.mem_cons_self
 have sub:∀x y,(x,y)∈ls0->(x,y)∈ls/\¬(x=p/\y=q):=fun x y h=>⟨pl.mem_iff.mpr (List.mem_cons_of_mem _ h),fun z=>nd0.1 (by rw [<-z.1,<-z.2];exact h)⟩
 refine CInv.cut ⟨I.n3,fun x y z h=>?_,fun x y h=>?_,fun x y z w h h'=>?_,?_,?_⟩
 . rcases List.mem_cons.mp h with h | h
   . exact hu _ (.inl h)
   rcases List.mem_cons.mp h with h | h
   . exact hu _ (.inr h)
   . obtain ⟨c1,c2,c3,c4,c5,c6⟩:=I.tri x y z (pT.mem_iff.mpr (List.mem_cons_of_mem _ (List.mem_cons_of_mem _ h)));have e:=(pT.filter (bth p q)).length_eq;rw [show (T.filter (bth p q)).length=2 from K.two hlq,List.filter_cons_of_pos b1,List.filter_cons_of_pos b2] at e;have nil:T0.filter (bth p q)=[]:=List.length_eq_zero_iff.mp (Nat.succ.inj (Nat.succ.inj e)).symm;have nb:¬(bth p q (x,y,z)=true):=fun w=>List.not_mem_nil (nil ▸ List.mem_filter.mpr ⟨h,w⟩)
     rw [bth_iff] at nb;exact ⟨c1,c2,c3,c4,c5.imp (fun h=>O4 pl h fun e=>nb ⟨.inl e.1.symm,.inr (.inl e.2.symm)⟩) id,c6.imp (fun h=>O4 pl h fun e=>nb ⟨.inr (.inl e.1.symm),.inr (.inr e.2.symm)⟩) id⟩
 . rcases List.mem_append.mp h with h | h
   . exact I.lin x y (sub x y h).1
   . obtain ⟨rfl,rfl⟩:=Prod.mk.inj (List.mem_singleton.mp h);exact hw
 . rcases List.mem_append.mp h with k | k<;>rcases List.mem_append.mp h' with k' | k'
   . exact I.nc x y z w (sub x y k).1 (sub z w k').1
   . obtain ⟨e1,e2⟩:=Prod.mk.inj (List.mem_singleton.mp k');rw [e1,e2];exact (new x y (sub x y k).1 (sub x y k).2).2
   . obtain ⟨e1,e2⟩:=Prod.mk.inj (List.mem_singleton.mp k);rw [e1,e2];exact (new z w (sub z w k').1 (sub z w k').2).1
   . rw [(Prod.mk.inj (List.mem_singleton.mp k)).1,(Prod.mk.inj (List.mem_singleton.mp k')).1];exact fun e=>Int.lt_irrefl _ e.1
 . rw [List.nodup_append];refine ⟨nd0.2,List.nodup_cons.mpr ⟨List.not_mem_nil,List.nodup_nil⟩,fun x hx y hy e=>wn ?_⟩;rw [<-List.mem_singleton.mp hy,<-e];exact (sub _ _ hx).1
 . refine (hp _ (((pT.map outer).symm.trans I.prm).trans ((pl.cons _).trans (.swap _ _ _)))).trans ?_;exact (List.Perm.swap _ _ _).trans (List.Perm.cons _ (List.perm_append_singleton _ _).symm)
theorem Cut.turnA (K:Cut n ls T) (pT:T.Perm ((p,m,q)::(p,q,r)::T0)) (pl:ls.Perm ((p,q)::ls0)) :
  Cut n (ls0++[(m,r)]) ((p,m,r)::(m,q,r)::T0):=by
 have I:=K.inv
 have m2:(p,q,r)∈T:=pT.mem_iff.mpr (List.mem_cons_of_mem _ List.mem_cons_self)
 obtain ⟨a1,a2,a3,a4,a5,a6⟩:=I.tri p m q (pT.mem_iff.mpr List.mem_cons_self)
 obtain ⟨b1,b2,b3,b4,b5,b6⟩:=I.tri p q r m2
 have tp:=I.top_or m2
 have hlq:(p,q)∈ls:=pl.mem_iff.mpr List.mem_cons_self
 have inw:(m,r)∈ls0++[(m,r)]:=List.mem_append_right _ List.mem_cons_self
 have c1:0<=m:=Int.le_of_lt (Int.lt_of_le_of_lt a1 a2)
 refine K.turnG pT pl (bth_iff.mpr ⟨.inl rfl,.inr (.inr rfl)⟩) (bth_iff.mpr ⟨.inl rfl,.inr (.inl rfl)⟩) (fun u h=>?_) ⟨c1,by clear a5 a6 b5 b6 tp;lia,b4,fun z=>by have:=z.1;lia⟩ (fun x y h1 h2=>y2z a2 a3 b3 (nc2 I a5 h1) (nc2 I a6 h1) (nc2 I b6 h1) (nc3 I tp h1) h2 (I.lin x y h1).2.1) (fun z=>I.nc p q m r hlq z ⟨a2,a3,b3⟩) (fun s h=>?_)
 . rcases h with rfl | rfl
   . exact ⟨a1,a2,Int.lt_trans a3 b3,b4,a5.imp (fun h=>O4 pl h fun z=>Int.ne_of_lt a3 z.2) id,.inl inw⟩
   . exact ⟨c1,a3,b3,b4,a6.imp (fun h=>O4 pl h fun z=>Int.ne_of_gt a2 z.1) id,b6.imp (fun h=>O4 pl h fun z=>Int.ne_of_gt b3 z.2) id⟩
 . exact (List.Perm.swap _ _ _).trans (((List.perm_cons (p,q)).mp h).cons _)
theorem Cut.turnB (K:Cut n ls T) (pT:T.Perm ((p,m,q)::(r,p,q)::T0)) (pl:ls.Perm ((p,q)::ls0)) :
  Cut n (ls0++[(r,m)]) ((r,p,m)::(r,m,q)::T0):=by
 have I:=K.inv
 have m2:(r,p,q)∈T:=pT.mem_iff.mpr (List.mem_cons_of_mem _ List.mem_cons_self)
 obtain ⟨a1,a2,a3,a4,a5,a6⟩:=I.tri p m q (pT.mem_iff.mpr List.mem_cons_self)
 obtain ⟨b1,b2,b3,b4,b5,b6⟩:=I.tri r p q m2
 have tp:=I.top_or m2
 have hlq:(p,q)∈ls:=pl.mem_iff.mpr List.mem_cons_self
 have inw:(r,m)∈ls0++[(r,m)]:=List.mem_append_right _ List.mem_cons_self
 have c1:m<=n - 1:=Int.le_of_lt (Int.lt_of_lt_of_le a3 a4)
 refine K.turnG pT pl (bth_iff.mpr ⟨.inl rfl,.inr (.inr rfl)⟩) (bth_iff.mpr ⟨.inr (.inl rfl),.inr (.inr rfl)⟩) (fun u h=>?_) ⟨b1,by clear a5 a6 b5 b6 tp;lia,c1,fun z=>by have:=z.2;lia⟩ (fun x y h1 h2=>y30 a2 a3 b2 (nc2 I a5 h1) (nc2 I a6 h1) (nc2 I b5 h1) (nc3 I tp h1) h2 (I.lin x y h1).2.1) (fun z=>I.nc r m p q z hlq ⟨b2,a2,a3⟩) (fun s h=>?_)
 . rcases h with rfl | rfl
   . exact ⟨b1,b2,a2,c1,b5.imp (fun h=>O4 pl h fun z=>Int.ne_of_lt b2 z.1) id,a5.imp (fun h=>O4 pl h fun z=>Int.ne_of_lt a3 z.2) id⟩
   . exact ⟨b1,Int.lt_trans b2 a2,a3,a4,.inl inw,a6.imp (fun h=>O4 pl h fun z=>Int.ne_of_gt a2 z.1) id⟩
 . exact ((List.perm_cons (p,q)).mp h).cons _
theorem CInv.T_nodup (I:CInv n ls T):T.Nodup:=by
 have h:((0,n - 1)::ls).Nodup:=by rw [List.nodup_cons];exact ⟨fun z=>by have:=I.lin _ _ z;omega,I.nd⟩
 have:=I.prm.nodup_iff.mpr h;exact List.Pairwise.of_map outer (fun a b h e=>h (by rw [e])) this
open L2 (so3 U6 soI Lm ltT L Gj M5 Eh Dm Ae)
theorem Tu (p:a.Perm b):soI a=soI b:=by have:=Gj (M5 b L2.D.int Eh) (p.map L2.D.int);rw [Dm,Dm] at this;exact Ae (fun _ _ h=>by cases h;rfl) this
theorem Ni (h:a<b):soI [a,b]=[a,b]:=by
 have e:ltT (L2.D.int b) (L2.D.int a)=false:=by simp only [L2.ltT];exact decide_eq_false (by lia)
 simp only [soI,L2.sortB,L2.insB,e,Bool.false_eq_true,if_false]
def u9 (T:List P3) (p:P2):List Int:=soI (((so3 T).filter (bth p.1 p.2)).map fun t=>t.1+(t.2.1+(t.2.2+0)) - (p.1+(p.2+0)))
theorem Rr (h:(T.filter (bth p.1 p.2)).Perm F):u9 T p=soI (F.map fun t=>t.1+(t.2.1+(t.2.2+0)) - (p.1+(p.2+0))):=
 Tu (((((U6 T).filter _).trans h)).map _)
theorem under (I:CInv n ls T) (h:(a,b)=(0,n - 1)\/(a,b)∈ls):∃m,(a,m,b)∈T:=by obtain ⟨t1,t2⟩:=I.top_in (ls':=ls) (.refl _) (q:=(a,b)) (List.mem_cons.mpr h);generalize Cu.thr T (a,b)=u at t1 t2;obtain ⟨x,m,y⟩:=u;simp only [outer,Prod.mk.injEq] at t2;obtain ⟨rfl,rfl⟩:=t2;exact ⟨m,t1⟩
section
variable {n:Int} {ls:List P2} {T:List P3} {p m q r:Int}
theorem Jq {α:Type} [DecidableEq α] {l:List α} {x y:α} (hx:x∈l) (hy:y∈l) (hne:x≠y):∃s,l.Perm (x::y::s):=by have hy':y∈l.erase x:=(List.mem_erase_of_ne (Ne.symm hne)).mpr hy;exact ⟨(l.erase x).erase y,(List.perm_cons_erase hx).trans ((List.perm_cons_erase hy').cons x)⟩
theorem Rq (K:Cut n ls T) (h:l∈ls) (h1:t1∈T) (h2:t2∈T) (hne:t1≠t2) (b1:bth l.1 l.2 t1=true) (b2:bth l.1 l.2 t2=true):(T.filter (bth l.1 l.2)).Perm [t1,t2]:=by
 obtain ⟨T0,pT⟩:=Jq h1 h2 hne;have e:=pT.filter (bth l.1 l.2);rw [List.filter_cons_of_pos b1,List.filter_cons_of_pos b2] at e;have l0:(T0.filter (bth l.1 l.2)).length=0:=by
  have:=e.length_eq;rw [K.two h] at this;simp only [List.length_cons] at this
  lia
 rwa [List.length_eq_zero_iff.mp l0] at e
theorem Pg (K:Cut n ls T) (h:(p,q)∈ls) (h1:(p,m,q)∈T) (h2:(p,q,r)∈T):u9 T (p,q)=[m,r]:=by have g1:=K.inv.tri _ _ _ h1;have g2:=K.inv.tri _ _ _ h2;rw [Rr (Rq K h h1 h2 (by simp only [ne_eq,Prod.mk.injEq];omega) (bth_iff.mpr (by simp)) (bth_iff.mpr (by simp)))];simp only [List.map_cons,List.map_nil];rw [show p+(m+(q+0)) - (p+(q+0))=m by omega,show p+(q+(r+0)) - (p+(q+0))=r by omega];exact Ni (by omega)
theorem Pf (K:Cut n ls T) (h:(p,q)∈ls) (h1:(p,m,q)∈T) (h2:(r,p,q)∈T):u9 T (p,q)=[r,m]:=by have g1:=K.inv.tri _ _ _ h1;have g2:=K.inv.tri _ _ _ h2;rw [Rr (Rq K h h1 h2 (by simp only [ne_eq,Prod.mk.injEq];omega) (bth_iff.mpr (by simp)) (bth_iff.mpr (by simp)))];simp only [List.map_cons,List.map_nil];rw [show p+(m+(q+0)) - (p+(q+0))=m by omega,show r+(p+(q+0)) - (p+(q+0))=r by omega,Tu (List.Perm.swap r m [])];exact Ni (by omega)
theorem above (K:Cut n ls T) (h:(p,q)∈ls):∃m r,(p,m,q)∈T/\((p,q,r)∈T\/(r,p,q)∈T):=by
 obtain ⟨m,hm⟩:=under K.inv (.inr h);have g:=K.inv.tri _ _ _ hm;have two:=K.two h;simp only at two;obtain ⟨u,hu,hne⟩:∃u,u∈T.filter (bth p q)/\u≠(p,m,q):=by
  have hin:(p,m,q)∈T.filter (bth p q):=List.mem_filter.mpr ⟨hm,bth_iff.mpr (by simp)⟩;have nd:(T.filter (bth p q)).Nodup:=K.inv.T_nodup.filter _
  match hf:T.filter (bth p q),two with
  | [x,y],_=>
   rw [hf] at nd hin
   simp only [List.nodup_cons,List.mem_singleton] at nd
   by_cases e:x=(p,m,q)
   . exact ⟨y,by simp,fun z=>nd.1 (by rw [e,z])⟩
   . exact ⟨x,by simp,e⟩
 obtain ⟨huT,hb⟩:=List.mem_filter.mp hu;obtain ⟨x,y,z⟩:=u;have g2:=K.inv.tri _ _ _ huT;have hb:=bth_iff.mp hb;refine ⟨m,?_⟩;rcases hb with ⟨c1,c2⟩;by_cases e1:p=x/\q=y
 . exact ⟨z,hm,.inl (by rw [e1.1,e1.2];exact huT)⟩
 by_cases e2:p=y/\q=z
 . exact ⟨x,hm,.inr (by rw [e2.1,e2.2];exact huT)⟩
 have e3:p=x/\q=z:=by
  have ga:=g.2.1;have gb:=g.2.2.1;have gc:=g2.2.1;have gd:=g2.2.2.1;clear g g2 two hu huT hne;rcases c1 with c1 | c1 | c1<;>rcases c2 with c2 | c2 | c2
  . lia
  . exact absurd ⟨c1,c2⟩ e1
  . exact ⟨c1,c2⟩
  . lia
  . lia
  . exact absurd ⟨c1,c2⟩ e2
  . lia
  . lia
  . lia
 have o1:=K.inv.thr_outer hm;have o2:=K.inv.thr_outer huT;simp only [outer] at o1 o2;rw [<-e3.1,<-e3.2,o1] at o2;exact absurd (by rw [<-e3.1,<-e3.2];exact o2.symm) hne
end
theorem Cut.turn (K:Cut n ls T) (hl:l∈ls) :
  ∃(w:P2) (ls0:List P2) (T':List P3),ls.Perm (l::ls0)/\Cut n (ls0++[w]) T'/\u9 T l=[w.1,w.2]/\u9 T' w=[l.1,l.2]/\w∉ls:=by
 obtain ⟨p,q⟩:=l
 have I:=K.inv
 obtain ⟨m,r,h1,h2⟩:=above K hl
 have g1:=(I.tri _ _ _ h1).2
 have pl:ls.Perm ((p,q)::ls.erase (p,q)):=List.perm_cons_erase hl
 rcases h2 with h2 | h2
 . have g2:=(I.tri _ _ _ h2).2.2.1;obtain ⟨T0,pT⟩:=Jq h1 h2 (fun e=>by have:=congrArg (fun t:P3=>t.2.1) e;simp only at this;have:=g1.2.1;omega);have K':=K.turnA pT pl;exact ⟨(m,r),_,_,pl,K',Pg K hl h1 h2,Pf K' (m:=q) (List.mem_append_right _ List.mem_cons_self) (List.mem_cons_of_mem _ List.mem_cons_self) List.mem_cons_self,fun z=>I.nc p q m r hl z ⟨g1.1,g1.2.1,g2⟩⟩
 . have g2:=(I.tri _ _ _ h2).2.1;obtain ⟨T0,pT⟩:=Jq h1 h2 (fun e=>by have:=congrArg (fun t:P3=>t.1) e;simp only at this;omega);have K':=K.turnB pT pl;exact ⟨(r,m),_,_,pl,K',Pf K hl h1 h2,Pg K' (m:=p) (List.mem_append_right _ List.mem_cons_self) List.mem_cons_self (List.mem_cons_of_mem _ List.mem_cons_self),fun z=>I.nc r m p q z hl ⟨g2,g1.1,g1.2.1⟩⟩
end Cu
namespace Bd
abbrev Vc:=Int×Int
def dt (u v:Vc):Int:=u.1 * v.2 - u.2 * v.1
theorem qP (a:Vc):dt a a=0:=by simp only [dt];grind
def ng (u:Vc):Vc:=(-u.1,-u.2)
theorem y0m (a c:Vc):dt c a=- dt a c:=by simp only [dt];grind
structure Fr (n:Nat) (R:Nat->Int) (v:Nat->Vc):Prop where
 per:∀k,v (k+n)=ng (v k)
 ini:dt (v 0) (v 1)=1
 rc1:∀k,(v (k+2)).1=R ((k+1) % n) * (v (k+1)).1 - (v k).1
 rc2:∀k,(v (k+2)).2=R ((k+1) % n) * (v (k+1)).2 - (v k).2
 pos:∀i j,i<j->j<i+n->0<dt (v i) (v j)
variable {n:Nat} {R:Nat->Int} {v:Nat->Vc}
theorem Fr.rc (F:Fr n R v) (u:Vc) (k:Nat) :
  dt u (v (k+2))=R ((k+1) % n) * dt u (v (k+1)) - dt u (v k):=by
 simp only [dt,F.rc1 k,F.rc2 k];grind
theorem Fr.one (F:Fr n R v):∀k,dt (v k) (v (k+1))=1
 | 0=>F.ini
 | k+1=>by have h:=F.rc (v (k+1)) k;rw [h,qP,y0m (v k),F.one k];grind
def gR (n c:Nat) (R:Nat->Int) (k:Nat):Int:=
 if k=c+1 then 1 else
 let o:=if k<=c then k else k - 1
 R o+(if o=c then 1 else 0)+(if o=(c+1) % n then 1 else 0)
theorem sm (q n:Nat):(q+1) * n=q * n+n:=Nat.succ_mul q n
def lin (x:Int) (b a:Vc):Vc:=(x * b.1 - a.1,x * b.2 - a.2)
def v3 (k:Nat):Vc:=if k % 6=0 then (1,0) else if k % 6=1 then (0,1) else if k % 6=2 then (-1,1)
 else if k % 6=3 then (-1,0) else if k % 6=4 then (0,-1) else (1,-1)
theorem y31 (k:Nat):k % 6=0\/k % 6=1\/k % 6=2\/k % 6=3\/k % 6=4\/k % 6=5:=by
 have h:k % 6<6:=Nat.mod_lt _ (by decide)
 revert h
 generalize k % 6=m;intro h;rcases m with _ | _ | _ | _ | _ | _ | m
 . exact .inl rfl
 . exact .inr (.inl rfl)
 . exact .inr (.inr (.inl rfl))
 . exact .inr (.inr (.inr (.inl rfl)))
 . exact .inr (.inr (.inr (.inr (.inl rfl))))
 . exact .inr (.inr (.inr (.inr (.inr rfl))))
 . exact absurd h (Nat.not_lt_of_le (Nat.le_add_left 6 m))
theorem fr3:Fr 3 (fun _=>1) v3:=by
 have key:∀k,v3 k=v3 (k % 6):=fun k=>by simp only [v3,Nat.mod_mod]
 have ks:∀k a,v3 (k+a)=v3 ((k % 6+a) % 6):=fun k a=>by rw [key (k+a)];congr 1;lia
 have six:=y31;refine ⟨fun k=>?_,rfl,fun k=>?_,fun k=>?_,fun i j h h2=>?_⟩
 . rw [ks k 3,key k];rcases six k with e | e | e | e | e | e<;>rw [e]<;>rfl
 . rw [ks k 2,ks k 1,key k];rcases six k with e | e | e | e | e | e<;>rw [e]<;>rfl
 . rw [ks k 2,ks k 1,key k];rcases six k with e | e | e | e | e | e<;>rw [e]<;>rfl
 . obtain rfl | rfl:j=i+1\/j=i+2:=by lia
   . rw [ks i 1,key i];rcases six i with e | e | e | e | e | e<;>rw [e]<;>decide
   . rw [ks i 2,key i];rcases six i with e | e | e | e | e | e<;>rw [e]<;>decide
def Cg (row:List Int) (c:Nat):List Int:=
 let m1:=row.set c (row.getD c 0+1)
 let m2:=m1.set ((c+1) % row.length) (m1.getD ((c+1) % row.length) 0+1)
 m2.take (c+1)++1::m2.drop (c+1)
theorem xN (row:List Int) (c:Nat) (hc:c<row.length):(Cg row c).length=row.length+1:=by simp only [Cg,χ,List.length_take,List.length_set,List.length_cons,List.length_drop];lia
theorem Mb (l:List Int) (i j:Nat) (x:Int) (hi:i<l.length):(l.set i x).getD j 0=if j=i then x else l.getD j 0:=by
 rw [List.getD_eq_getElem?_getD,List.getElem?_set,List.getD_eq_getElem?_getD];by_cases e:i=j
 . subst e;simp [hi]
 . rw [ξ e,ξ (Ne.symm e)]
theorem wC (row:List Int) (c k:Nat) (hc:c<row.length) (hn:2<=row.length) (hk:k<row.length+1) :
  (Cg row c).getD k 0=gR row.length c (fun k=>row.getD k 0) k:=by
 have hm:(c+1) % row.length<row.length:=Nat.mod_lt _ (by lia)
 have hne:(c+1) % row.length≠c:=by
  by_cases z:c+1=row.length
  . rw [z,Nat.mod_self];lia
  . rw [Nat.mod_eq_of_lt (by lia)];lia
 have e2:∀j,((row.set c (row.getD c 0+1)).set ((c+1) % row.length) ((row.set c (row.getD c 0+1)).getD ((c+1) % row.length) 0+1)).getD j 0
   = row.getD j 0+(if j=c then 1 else 0)+(if j=(c+1) % row.length then 1 else 0):=fun j=>by
  rw [Mb _ _ _ _ (by rw [List.length_set];exact hm),Mb _ _ _ _ hc,Mb _ _ _ _ hc,ξ hne]
  by_cases a:j=(c+1) % row.length
  . rw [ζ a,ζ a,ξ (by lia),a];lia
  . rw [ξ a,ξ a];by_cases b:j=c
    . rw [ζ b,ζ b,b];lia
    . rw [ξ b,ξ b];lia
 simp only [Cg]
 generalize hm2:(row.set c (row.getD c 0+1)).set ((c+1) % row.length) ((row.set c (row.getD c 0+1)).getD ((c+1) % row.length) 0+1)=m2 at e2 ⊢
 have hl:m2.length=row.length:=by rw [<-hm2,List.length_set,List.length_set]
 have ht:(m2.take (c+1)).length=c+1:=by rw [List.length_take,hl];lia
 unfold gR
 by_cases a:k=c+1
 . rw [ζ a,List.getD_eq_getElem?_getD,List.getElem?_append_right (by lia),ht,a];simp
 . rw [ξ a];by_cases b:k<=c
   . rw [ζ b];show _=row.getD k 0+(if k=c then 1 else 0)+(if k=(c+1) % row.length then 1 else 0);rw [<-e2,List.getD_eq_getElem?_getD,List.getElem?_append_left (by lia),List.getElem?_take,ζ (by lia),List.getD_eq_getElem?_getD]
   . rw [ξ b];show _=row.getD (k-1) 0+(if k-1=c then 1 else 0)+(if k-1=(c+1) % row.length then 1 else 0);obtain ⟨t,rfl⟩:∃t,k=c+1+(t+1):=⟨k - (c+2),by lia⟩;rw [<-e2,List.getD_eq_getElem?_getD,List.getElem?_append_right (by lia),ht,List.getD_eq_getElem?_getD,
      show c+1+(t+1) - (c+1)=t+1 by lia,List.getElem?_cons_succ,List.getElem?_drop,show c+1+(t+1) - 1=c+1+t by lia]
end Bd
namespace Cu
open Bd (gR Cg wC xN)
def ind (k:Int) (t:P3):Int:=(if k=t.1 then 1 else 0)+(if k=t.2.1 then 1 else 0)+(if k=t.2.2 then 1 else 0)
def c1 (k:Int):List P3->Int
 | []=>0
 | t::r=>ind k t+c1 k r
end Cu
namespace Cu
open L2 (so2 C1 Dn ltT T2 Srt Gg Dy M5 Fc Ae Pu D)
def un (e x:Int):Int:=if x > e then x - 1 else x
end Cu
namespace Cu
open L2 (so2 C1 U5)
def nr (p:P2):P2:=if p.1<p.2 then p else (p.2,p.1)
theorem y0n (a b:Int):nr (a,b)=nr (b,a):=by
 unfold nr;by_cases h:a<b
 . rw [ζ h,ξ (show ¬(b,a).1<(b,a).2 by show ¬b<a;lia)]
 . by_cases h2:b<a
   . rw [ξ h,ζ h2]
   . rw [ξ h,ξ h2];simp only [Prod.mk.injEq];lia
def im (f:Int->Int) (p:P2):P2:=nr (f p.1,f p.2)
theorem Hq (f g:Int->Int) (p:P2):im f (im g p)=im (fun x=>f (g x)) p:=by
 show nr (f (nr (g p.1,g p.2)).1,f (nr (g p.1,g p.2)).2)=nr (f (g p.1),f (g p.2));generalize g p.1=a;generalize g p.2=b;by_cases h:a<b
 . rw [show nr (a,b)=(a,b) from ζ h]
 . rw [show nr (a,b)=(b,a) from ξ h,y0n]
def Inn (n:Int) (ls:List P2):Prop:=∀a b,(a,b)∈ls->0<=a/\a<b/\b<n
theorem Tt (hl:Inn n ls) (h:∀x,0<=x->x<n->f x=g x):ls.map (im f)=ls.map (im g):=
 List.map_congr_left fun ⟨a,b⟩ hp=>by obtain ⟨h1,h2,h3⟩:=hl a b hp;unfold im;rw [h a h1 (by lia),h b (by lia) h3]
theorem Nh (hl:Inn n ls):ls.map (im fun x=>x)=ls:=by
 have:ls.map (im fun x=>x)=ls.map id:=List.map_congr_left fun ⟨a,b⟩ hp=>by obtain ⟨h1,h2,h3⟩:=hl a b hp;exact ζ h2
 rw [this,List.map_id]
def imL (f:Int->Int) (ls:List P2):List P2:=so2 (ls.map (im f))
theorem Rp (f g:Int->Int) (ls:List P2):imL f (imL g ls)=imL (fun x=>f (g x)) ls:=by unfold imL;rw [U5 ((C1 (ls.map (im g))).map (im f)),List.map_map];congr 1;exact List.map_congr_left fun p _=>Hq f g p
theorem qO (f:Int->Int) (ls:List P2):(imL f ls).length=ls.length:=by unfold imL;rw [(C1 _).length_eq,List.length_map]
theorem Jp (ls:List P2):so2 (so2 ls)=so2 ls:=U5 (C1 ls)
theorem xM (hl:Inn n ls) (h:∀x,0<=x->x<n->f x=g x):imL f ls=imL g ls:=by unfold imL;rw [Tt hl h]
theorem Pe (hl:Inn n ls) (h:∀x,0<=x->x<n->f x=x):imL f ls=so2 ls:=by rw [xM hl h];unfold imL;rw [Nh hl]
theorem CInv.inn (I:CInv n ls T):Inn n ls:=fun a b h=>by have:=I.lin a b h;omega
theorem CInv.perm (I:CInv n ls T) (p:ls'.Perm ls):CInv n ls' T where
 n3:=I.n3
 tri:=fun a c b h=>by rw [p.mem_iff,p.mem_iff];exact I.tri a c b h
 lin:=fun a b h=>I.lin a b (p.mem_iff.mp h)
 nc:=fun a b c d h h'=>I.nc a b c d (p.mem_iff.mp h) (p.mem_iff.mp h')
 nd:=p.nodup_iff.mpr I.nd
 prm:=I.prm.trans (p.symm.cons _)
theorem Ts [BEq α] [LawfulBEq α]:∀{a b:List α},a.Nodup->(∀x∈a,x∈b)->b.length<=a.length->a.Perm b
 | [],b,_,_,h=>by cases b with
  | nil=>exact .refl _
  | cons x r=>simp at h
 | x::a,b,hn,hs,hl=>by
  have hx:x∈b:=hs x (by simp);have hp:=List.perm_cons_erase hx;rw [List.nodup_cons] at hn;refine .trans (.cons x (Ts hn.2 (fun y hy=>?_) ?_)) hp.symm
  . exact (List.mem_erase_of_ne (fun e=>hn.1 (by rw [<-e];exact hy))).mpr (hs y (by simp [hy]))
  . rw [List.length_erase_of_mem hx];simp only [List.length_cons] at hl;omega
def ro (n x:Int):Int:=if x=n - 1 then 0 else x+1
def ro3 (n:Int) (t:P3):P3:=if t.2.2=n - 1 then (0,t.1+1,t.2.1+1) else (t.1+1,t.2.1+1,t.2.2+1)
section
variable {n:Int} {ls:List P2} {T:List P3}
theorem CInv.out (I:CInv n ls T) (h:t∈T):outer t=(0,n - 1)\/outer t∈ls:=by have:=I.prm.mem_iff.mp (List.mem_map.mpr ⟨t,h,rfl⟩);simpa using this
theorem N0 (h0:0<=a) (h:a<n - 1):im (ro n) (a,n - 1)=(0,a+1):=by unfold im ro;show nr ((if a=n - 1 then 0 else a+1),(if n - 1=n - 1 then 0 else n - 1+1))=_;rw [ξ (by omega),ζ rfl];exact ξ (by show ¬a+1<0;omega)
theorem J0 (h0:a<b) (h:b<n - 1):im (ro n) (a,b)=(a+1,b+1):=by unfold im ro;show nr ((if a=n - 1 then 0 else a+1),(if b=n - 1 then 0 else b+1))=_;rw [ξ (by lia),ξ (by lia)];exact ζ (by show a+1<b+1;lia)
theorem CInv.low (I:CInv n ls T):((T.filter fun t=>decide (t.2.2=n - 1)).map (·.2.1)).Perm ((n - 2)::(ls.filter fun p=>decide (p.2=n - 1)).map (·.1)):=by
 have hT:T.Nodup:=by have:(T.map outer).Nodup:=I.prm.nodup_iff.mpr (List.nodup_cons.mpr ⟨fun h=>(I.lin _ _ h).2.2.2 ⟨rfl,rfl⟩,I.nd⟩);exact List.Pairwise.of_map outer (fun a b h e=>h (by rw [e])) this
 have hlen:(T.filter fun t=>decide (t.2.2=n - 1)).length=(ls.filter fun p=>decide (p.2=n - 1)).length+1:=by have:=(I.prm.filter fun p=>decide (p.2=n - 1)).length_eq;rw [List.filter_map,List.length_map] at this;rw [show ((fun p:P2=>decide (p.2=n - 1))∘outer)=fun t:P3=>decide (t.2.2=n - 1) from rfl] at this;rw [this,List.filter_cons_of_pos (by simp),List.length_cons]
 refine Ts ?_ ?_ ?_
 . refine List.pairwise_map.mpr ((hT.filter _).imp_of_mem ?_);rintro ⟨a,c,b⟩ ⟨a',c',b'⟩ h h' hne e;obtain ⟨hm,hb⟩:=List.mem_filter.mp h;obtain ⟨hm',hb'⟩:=List.mem_filter.mp h';have hb:b=n - 1:=by simpa using hb
   have hb':b'=n - 1:=by simpa using hb'
   have e:c=c':=e;subst hb;subst hb';subst e;have t1:=I.tri _ _ _ hm;have t2:=I.tri _ _ _ hm';have key:∀x y,(x,c,n - 1)∈T->(y,c,n - 1)∈T->¬x<y:=fun x y hx hy hlt=>by
    have u1:=I.tri _ _ _ hx;have u2:=I.tri _ _ _ hy;have o:(y,n - 1)=(0,n - 1)\/(y,n - 1)∈ls:=I.out hy;rcases o with o | o
    . simp only [Prod.mk.injEq] at o;omega
    . rcases u1.2.2.2.2.1 with z | z
      . exact I.nc x c y (n - 1) z o (by omega)
      . omega
   have:=key a a' hm hm';have:=key a' a hm' hm;exact hne (by rw [show a=a' by omega])
 . rintro x hx;obtain ⟨⟨a,c,b⟩,h,rfl⟩:=List.mem_map.mp hx;obtain ⟨hm,hb⟩:=List.mem_filter.mp h;have hb:b=n - 1:=by simpa using hb
   subst hb;have t1:=I.tri _ _ _ hm;rcases t1.2.2.2.2.2 with z | z
   . exact List.mem_cons_of_mem _ (List.mem_map.mpr ⟨(c,n - 1),List.mem_filter.mpr ⟨z,by simp⟩,rfl⟩)
   . rw [show (n - 2:Int)=c by omega];exact List.mem_cons_self
 . simp only [List.length_cons,List.length_map,hlen];omega
theorem CInv.rot (I:CInv n ls T):CInv n (ls.map (im (ro n))) (T.map (ro3 n)) where
 n3:=I.n3
 tri:=fun x y z h=>by
  obtain ⟨⟨a,c,b⟩,hm,e⟩:=List.mem_map.mp h;have t:=I.tri a c b hm;have n3:=I.n3;by_cases hb:b=n - 1
  . rw [show ro3 n (a,c,b)=(0,a+1,c+1) from ζ hb] at e;simp only [Prod.mk.injEq] at e;obtain ⟨rfl,rfl,rfl⟩:=e;refine ⟨by lia,by lia,by lia,by lia,?_,?_⟩
    . rcases I.out hm with o | o
      . simp only [outer,Prod.mk.injEq] at o;exact Or.inr (by lia)
      . refine Or.inl (List.mem_map.mpr ⟨(a,b),o,?_⟩);rw [hb,N0 t.1 (by lia)]
    . rcases t.2.2.2.2.1 with o | o
      . exact Or.inl (List.mem_map.mpr ⟨(a,c),o,J0 (by lia) (by lia)⟩)
      . exact Or.inr (by lia)
  . rw [show ro3 n (a,c,b)=(a+1,c+1,b+1) from ξ hb] at e;simp only [Prod.mk.injEq] at e;obtain ⟨rfl,rfl,rfl⟩:=e;refine ⟨by lia,by lia,by lia,by lia,?_,?_⟩
    . rcases t.2.2.2.2.1 with o | o
      . exact Or.inl (List.mem_map.mpr ⟨(a,c),o,J0 (by lia) (by lia)⟩)
      . exact Or.inr (by lia)
    . rcases t.2.2.2.2.2 with o | o
      . exact Or.inl (List.mem_map.mpr ⟨(c,b),o,J0 (by lia) (by lia)⟩)
      . exact Or.inr (by lia)
 lin:=fun x y h=>by
  obtain ⟨⟨a,b⟩,hm,e⟩:=List.mem_map.mp h;have t:=I.lin a b hm;by_cases hb:b=n - 1
  . rw [hb,N0 t.1 (by lia)] at e;simp only [Prod.mk.injEq] at e;lia
  . rw [J0 (by lia) (by lia)] at e;simp only [Prod.mk.injEq] at e;lia
 nc:=fun x y z w h h'=>by
  obtain ⟨⟨a,b⟩,hm,e⟩:=List.mem_map.mp h;obtain ⟨⟨c,d⟩,hm',e'⟩:=List.mem_map.mp h';have t:=I.lin a b hm;have t':=I.lin c d hm';have n1:=I.nc a b c d hm hm';have n2:=I.nc c d a b hm' hm;by_cases hb:b=n - 1
  . rw [hb,N0 t.1 (by lia)] at e;simp only [Prod.mk.injEq] at e;by_cases hd:d=n - 1
    . rw [hd,N0 t'.1 (by lia)] at e';simp only [Prod.mk.injEq] at e';lia
    . rw [J0 (by lia) (by lia)] at e';simp only [Prod.mk.injEq] at e';lia
  . rw [J0 (by lia) (by lia)] at e;simp only [Prod.mk.injEq] at e;by_cases hd:d=n - 1
    . rw [hd,N0 t'.1 (by lia)] at e';simp only [Prod.mk.injEq] at e';lia
    . rw [J0 (by lia) (by lia)] at e';simp only [Prod.mk.injEq] at e';lia
 nd:=by
  refine List.pairwise_map.mpr (List.Pairwise.imp_of_mem ?_ I.nd);rintro ⟨a,b⟩ ⟨c,d⟩ hm hm' hne e;have t:=I.lin a b hm;have t':=I.lin c d hm';apply hne;by_cases hb:b=n - 1
  . rw [hb,N0 t.1 (by lia)] at e;by_cases hd:d=n - 1
    . rw [hd,N0 t'.1 (by lia)] at e;simp only [Prod.mk.injEq] at e ⊢;lia
    . rw [J0 (by lia) (by lia)] at e;simp only [Prod.mk.injEq] at e;lia
  . rw [J0 (by lia) (by lia)] at e;by_cases hd:d=n - 1
    . rw [hd,N0 t'.1 (by lia)] at e;simp only [Prod.mk.injEq] at e;lia
    . rw [J0 (by lia) (by lia)] at e;simp only [Prod.mk.injEq] at e ⊢;lia
 prm:=by
  have pT:=(List.filter_append_perm (fun t:P3=>decide (t.2.2=n - 1)) T).symm.map (fun t=>outer (ro3 n t));have pL:=(List.filter_append_perm (fun p:P2=>decide (p.2=n - 1)) ls).map (im (ro n));rw [List.map_append] at pT pL;rw [List.map_map];refine .trans pT (.trans ?_ (pL.cons _));rw [<-List.cons_append];refine .append ?_ ?_
  . have e1:(T.filter fun t=>decide (t.2.2=n - 1)).map (fun t=>outer (ro3 n t))=((T.filter fun t=>decide (t.2.2=n - 1)).map (·.2.1)).map fun c=>(0,c+1):=by
     rw [List.map_map]
     refine List.map_congr_left fun t ht=>?_
     have hb:t.2.2=n - 1:=by simpa using (List.mem_filter.mp ht).2
     show outer (if t.2.2=n - 1 then _ else _)=_
     rw [ζ hb];rfl
    have e2:((n - 2)::(ls.filter fun p=>decide (p.2=n - 1)).map (·.1)).map (fun c:Int=>((0:Int),c+1))=(0,n - 1)::(ls.filter fun p=>decide (p.2=n - 1)).map (im (ro n)):=by
     rw [List.map_cons,List.map_map,show (n - 2+1:Int)=n - 1 by lia];congr 1;refine List.map_congr_left fun ⟨a,b⟩ hp=>?_
     obtain ⟨hm,hb⟩:=List.mem_filter.mp hp;have hb:b=n - 1:=by simpa using hb
     have t:=I.lin a b hm;rw [hb,N0 t.1 (by lia)];rfl
    rw [e1,<-e2]
    exact I.low.map _
  . have q:=(I.prm.filter fun p=>!decide (p.2=n - 1)).map (im (ro n));rw [List.filter_cons_of_neg (by simp),List.filter_map,List.map_map] at q;refine .trans (.of_eq ?_) q;refine List.map_congr_left fun ⟨a,c,b⟩ ht=>?_
    obtain ⟨hm,hb⟩:=List.mem_filter.mp ht;have hb:¬b=n - 1:=by simpa using hb
    have t:=I.tri a c b hm;show outer (if b=n - 1 then _ else _)=im (ro n) (a,b);rw [ξ hb,J0 (by lia) (by lia)];rfl
def fl (n x:Int):Int:=n - 1 - x
def fl3 (n:Int) (t:P3):P3:=(n - 1 - t.2.2,n - 1 - t.2.1,n - 1 - t.1)
theorem O3 (h:a<b):im (fl n) (a,b)=(n - 1 - b,n - 1 - a):=by unfold im fl;exact ξ (by show ¬n - 1 - a<n - 1 - b;lia)
theorem CInv.flip (I:CInv n ls T):CInv n (ls.map (im (fl n))) (T.map (fl3 n)) where
 n3:=I.n3
 tri:=fun x y z h=>by
  obtain ⟨⟨a,c,b⟩,hm,e⟩:=List.mem_map.mp h;have t:=I.tri a c b hm;simp only [fl3,Prod.mk.injEq] at e;obtain ⟨rfl,rfl,rfl⟩:=e;refine ⟨by omega,by omega,by omega,by omega,?_,?_⟩
  . rcases t.2.2.2.2.2 with o | o
    . exact Or.inl (List.mem_map.mpr ⟨(c,b),o,O3 (by omega)⟩)
    . exact Or.inr (by omega)
  . rcases t.2.2.2.2.1 with o | o
    . exact Or.inl (List.mem_map.mpr ⟨(a,c),o,O3 (by omega)⟩)
    . exact Or.inr (by omega)
 lin:=fun x y h=>by obtain ⟨⟨a,b⟩,hm,e⟩:=List.mem_map.mp h;have t:=I.lin a b hm;rw [O3 (by omega)] at e;simp only [Prod.mk.injEq] at e;omega
 nc:=fun x y z w h h'=>by obtain ⟨⟨a,b⟩,hm,e⟩:=List.mem_map.mp h;obtain ⟨⟨c,d⟩,hm',e'⟩:=List.mem_map.mp h';have t:=I.lin a b hm;have t':=I.lin c d hm';have n2:=I.nc c d a b hm' hm;rw [O3 (by omega)] at e e';simp only [Prod.mk.injEq] at e e';omega
 nd:=by refine List.pairwise_map.mpr (List.Pairwise.imp_of_mem ?_ I.nd);rintro ⟨a,b⟩ ⟨c,d⟩ hm hm' hne e;have t:=I.lin a b hm;have t':=I.lin c d hm';apply hne;rw [O3 (by omega),O3 (by omega)] at e;simp only [Prod.mk.injEq] at e ⊢;omega
 prm:=by
  have q:=I.prm.map (im (fl n));rw [List.map_cons,List.map_map,O3 (by have:=I.n3;omega),show (n - 1 - (n - 1):Int)=0 by omega,show (n - 1 - 0:Int)=n - 1 by omega] at q;refine .trans (.of_eq ?_) q;rw [List.map_map];refine List.map_congr_left fun ⟨a,c,b⟩ hm=>?_
  have t:=I.tri a c b hm;show outer (fl3 n (a,c,b))=im (fl n) (a,b);rw [O3 (by omega)];rfl
theorem Ng (I:CInv n ls T) (k:Int) (h0:0<=k) (h1:k<n):c1 (ro n k) (T.map (ro3 n))=c1 k T:=by
 have:∀S:List P3,(∀t∈S,t∈T)->c1 (ro n k) (S.map (ro3 n))=c1 k S:=fun S=>by
  induction S with
  | nil=>intro _;rfl
  | cons t S ih=>
   intro h
   have t1:=I.tri t.1 t.2.1 t.2.2 (h t (by simp))
   have e:ind (ro n k) (ro3 n t)=ind k t:=by
    unfold ind ro3 ro;by_cases hk:k=n - 1
    . by_cases hb:t.2.2=n - 1
      . simp only [ζ hk,ζ hb];rw [ζ trivial,ξ (by omega),ξ (by omega),ξ (by omega),ξ (by omega),ζ (by omega)];omega
      . simp only [ζ hk,ξ hb];rw [ξ (by omega),ξ (by omega),ξ (by omega),ξ (by omega),ξ (by omega),ξ (by omega)]
    . by_cases hb:t.2.2=n - 1
      . simp only [ξ hk,ζ hb];rw [ξ (show ¬k+1=0 by omega),ξ (show ¬k=t.2.2 by omega)];have e1:(k+1=t.1+1)↔(k=t.1):=by omega
        have e2:(k+1=t.2.1+1)↔(k=t.2.1):=by omega
        simp only [e1,e2];omega
      . simp only [ξ hk,ξ hb];have e1:(k+1=t.1+1)↔(k=t.1):=by omega
        have e2:(k+1=t.2.1+1)↔(k=t.2.1):=by omega
        have e3:(k+1=t.2.2+1)↔(k=t.2.2):=by omega
        simp only [e1,e2,e3]
   simp only [List.map_cons,c1,e,ih fun u hu=>h u (by simp [hu])]
 exact this T fun _ h=>h
theorem Nf (k:Int):∀T:List P3,c1 (fl n k) (T.map (fl3 n))=c1 k T
 | []=>rfl
 | t::S=>by
  have e:ind (fl n k) (fl3 n t)=ind k t:=by
   unfold ind fl3 fl;have e1:(n - 1 - k=n - 1 - t.2.2)↔(k=t.2.2):=by omega
   have e2:(n - 1 - k=n - 1 - t.2.1)↔(k=t.2.1):=by omega
   have e3:(n - 1 - k=n - 1 - t.1)↔(k=t.1):=by omega
   simp only [e1,e2,e3];omega
  simp only [List.map_cons,c1,e,Nf k S]
end
def Cn (n:Int) (ls:List P2) (g:Int->Int):Prop:=∃T,CInv n ls T/\∀k,0<=k->k<n->c1 k T=g k
theorem Cn.inn (h:Cn n ls g):Inn n ls:=by obtain ⟨T,I,q⟩:=h;exact I.inn
theorem Cn.n3 (h:Cn n ls g):3<=n:=by obtain ⟨T,I,q⟩:=h;exact I.n3
theorem Cn.rot (h:Cn n ls g) (hg:∀k,0<=k->k<n->g' (ro n k)=g k):Cn n (ls.map (im (ro n))) g':=by
 obtain ⟨T,I,q⟩:=h;refine ⟨_,I.rot,fun k h0 h1=>?_⟩;have n3:=I.n3;by_cases hk:k=0
 . have:=Ng I (n - 1) (by lia) (by lia);rw [show ro n (n - 1)=k by unfold ro;rw [ζ rfl,hk]] at this;rw [this,q _ (by lia) (by lia),<-hg _ (by lia) (by lia)];unfold ro;rw [ζ rfl,hk]
 . have:=Ng I (k - 1) (by lia) (by lia);have e:ro n (k - 1)=k:=by unfold ro;rw [ξ (by lia)];lia
   rw [e] at this;rw [this,q _ (by lia) (by lia),<-hg _ (by lia) (by lia),e]
theorem Cn.flip (h:Cn n ls g) (hg:∀k,0<=k->k<n->g' (fl n k)=g k):Cn n (ls.map (im (fl n))) g':=by
 obtain ⟨T,I,q⟩:=h;refine ⟨_,I.flip,fun k h0 h1=>?_⟩;have:=Nf (n:=n) (fl n k) T;have e:fl n (fl n k)=k:=by unfold fl;lia
 rw [e] at this;have hk:0<=fl n k/\fl n k<n:=by unfold fl;lia
 rw [this,q _ hk.1 hk.2,<-hg _ hk.1 hk.2,e]
theorem Fm (h0:0<=x) (h1:x<n):ro n x=(x+1) % n:=by
 unfold ro;split
 . rename_i h;rw [show x+1=n by lia,Int.emod_self]
 . rw [Int.emod_eq_of_lt (by lia) (by lia)]
theorem Cn.spinN (h:Cn n ls g):∀j:Nat,Cn n (ls.map (im fun x=>(x+j) % n)) (fun k=>g ((k - j) % n))
 | 0=>by have n3:=h.n3;rw [Tt h.inn (g:=fun x=>x) (fun x h0 h1=>by show (x+0) % n=x;rw [Int.add_zero,Int.emod_eq_of_lt h0 h1]),Nh h.inn];obtain ⟨T,I,q⟩:=h;exact ⟨T,I,fun k h0 h1=>by rw [q k h0 h1];show _=g ((k - 0) % n);rw [Int.sub_zero,Int.emod_eq_of_lt h0 h1]⟩
 | j+1=>by
  have n3:=h.n3;have:=(h.spinN j).rot (g':=fun k=>g ((k - ((j+1:Nat):Int)) % n)) (fun k h0 h1=>by rw [Fm h0 h1];show g (((k+1) % n - ((j+1:Nat):Int)) % n)=g ((k - j) % n);rw [Int.emod_sub_emod,show k+1 - ((j+1:Nat):Int)=k - j by lia]);rw [List.map_map] at this;rw [show ls.map (im fun x=>(x+((j+1:Nat):Int)) % n)=ls.map (im (ro n)∘im fun x=>(x+(j:Int)) % n) by
   refine List.map_congr_left fun p hp=>?_
   show _=im (ro n) (im _ p);rw [Hq];unfold im;have e:∀x:Int,ro n ((x+j) % n)=(x+((j+1:Nat):Int)) % n:=fun x=>by rw [Fm (Int.emod_nonneg _ (by lia)) (Int.emod_lt_of_pos _ (by lia)),Int.emod_add_emod,show x+(j:Int)+1=x+((j+1:Nat):Int) by lia]
   simp only [e]]
  exact this
theorem Cn.spin (h:Cn n ls g) (j:Int):Cn n (ls.map (im fun x=>(x+j) % n)) (fun k=>g ((k - j) % n)):=by have n3:=h.n3;have:=h.spinN (j % n).toNat;have e:((j % n).toNat:Int)=j % n:=Int.toNat_of_nonneg (Int.emod_nonneg _ (by omega));rw [e] at this;rw [show (fun x=>(x+j) % n)=fun x=>(x+j % n) % n from funext fun x=>by rw [Int.add_emod_emod],show (fun k=>g ((k - j) % n))=fun k=>g ((k - j % n) % n) from funext fun k=>by rw [Int.sub_emod_emod]];exact this
theorem Cn.mirror (h:Cn n ls g):Cn n (ls.map (im fun x=>(n - x) % n)) (fun k=>g ((n - k) % n)):=by
 have n3:=h.n3;have:=(h.flip (g':=fun k=>g (n - 1 - k)) (fun k _ _=>by unfold fl;rw [show n - 1 - (n - 1 - k)=k by lia])).rot (g':=fun k=>g ((n - k) % n)) (fun k h0 h1=>by rw [Fm h0 h1,show n - 1 - k=(n - (k+1)) % n by rw [Int.emod_eq_of_lt (by lia) (by lia)];lia];show g ((n - (k+1) % n) % n)=_;rw [Int.sub_emod_emod]);rw [List.map_map] at this;rw [show ls.map (im fun x=>(n - x) % n)=ls.map (im (ro n)∘im (fl n)) by
  refine List.map_congr_left fun ⟨a,b⟩ hp=>?_
  obtain ⟨h1,h2,h3⟩:=h.inn a b hp;show _=im (ro n) (im _ (a,b));rw [Hq];unfold im;have e:∀x:Int,0<=x->x<n->ro n (fl n x)=(n - x) % n:=fun x h0 h1=>by rw [Fm (by unfold fl;lia) (by unfold fl;lia)];unfold fl;congr 1;lia
  show nr ((n - a) % n,(n - b) % n)=nr (ro n (fl n a),ro n (fl n b));rw [e a h1 (by lia),e b (by lia) h3]]
 exact this
def has (c:Int) (t:P3):Bool:=decide (c=t.1)||(decide (c=t.2.1)||decide (c=t.2.2))
end Cu
namespace Cu
open L2 (so2 C1 U5 so3 U6 soI Lm)
def adj (n:Int) (ls:List P2) (x k:Int):Prop:=k=(x+1) % n\/k=(x - 1) % n\/(x,k)∈ls\/(k,x)∈ls
section
variable {n:Int} {ls:List P2} {T:List P3}
theorem CInv.three (I:CInv n ls T) (h1:x<y) (h2:y<z) (e1:(x,y)∈ls\/y=x+1) (e2:(y,z)∈ls\/z=y+1) (e3:(x,z)∈ls\/(x=0/\z=n - 1)):(x,y,z)∈T:=by
 obtain ⟨m1,m2⟩:=I.top_in (ls':=ls) (.refl _) (q:=(x,z)) (by
  rcases e3 with e | ⟨rfl,rfl⟩
  . exact List.mem_cons_of_mem _ e
  . exact List.mem_cons_self)
 generalize thr T (x,z)=t at m1 m2;obtain ⟨a,c,b⟩:=t;simp only [outer,Prod.mk.injEq] at m2;obtain ⟨rfl,rfl⟩:=m2;have g:=I.tri _ _ _ m1;have:c=y:=by
  apply Classical.byContradiction;intro hne;rcases Int.lt_or_gt_of_ne hne with hlt | hgt
  . have a1:(c,b)∈ls:=by rcases g.2.2.2.2.2 with z | z;exact z;omega
    have a2:(a,y)∈ls:=by rcases e1 with z | z;exact z;omega
    exact I.nc a y c b a2 a1 (by omega)
  . have a1:(a,c)∈ls:=by rcases g.2.2.2.2.1 with z | z;exact z;omega
    have a2:(y,b)∈ls:=by rcases e2 with z | z;exact z;omega
    exact I.nc a c y b a1 a2 (by omega)
 rw [<-this];exact m1
theorem upM (u0:0<=u) (u1:u<n) (e:k=(u+1) % n):k=u+1\/(u=n - 1/\k=0):=by
 by_cases h:u=n - 1
 . rw [h,Int.sub_add_cancel,Int.emod_self] at e;exact .inr ⟨h,e⟩
 . rw [Int.emod_eq_of_lt (by lia) (by lia)] at e;exact .inl e
theorem dnM (u0:0<=u) (u1:u<n) (e:k=(u - 1) % n):k=u - 1\/(u=0/\k=n - 1):=by
 by_cases h:u=0
 . rw [h,<-Int.add_emod_right,Int.emod_eq_of_lt (by lia) (by lia)] at e;exact .inr ⟨h,by lia⟩
 . rw [Int.emod_eq_of_lt (by lia) (by lia)] at e;exact .inl e
theorem P1 (I:CInv n ls T) (h0:0<=x) (h:x<k) (hk:k<n) (ha:adj n ls x k\/adj n ls k x):(x,k)∈ls\/k=x+1\/(x=0/\k=n - 1):=by
 have hx:x<n:=Int.lt_trans h hk;have k0:0<=k:=Int.le_of_lt (Int.lt_of_le_of_lt h0 h);rcases ha with ha | ha
 . rcases ha with e | e | e | e
   . rcases upM h0 hx e with e | ⟨_,e⟩
     . exact .inr (.inl e)
     . omega
   . rcases dnM h0 hx e with e | e
     . omega
     . exact .inr (.inr e)
   . exact Or.inl e
   . have:=(I.lin _ _ e).2.1;omega
 . rcases ha with e | e | e | e
   . rcases upM k0 hk e with e | e
     . omega
     . exact .inr (.inr ⟨e.2,e.1⟩)
   . rcases dnM k0 hk e with e | ⟨e,_⟩
     . exact .inr (.inl (by omega))
     . omega
   . have:=(I.lin _ _ e).2.1;omega
   . exact Or.inl e
theorem Cy (I:CInv n ls T) (h0:0<=x) (h:x<k) (hk:k<n) (he:(x,k)∈ls\/k=x+1\/(x=0/\k=n - 1)):adj n ls x k/\adj n ls k x:=by
 have n3:=I.n3;rcases he with e | e | ⟨e,e'⟩
 . exact ⟨Or.inr (Or.inr (Or.inl e)),Or.inr (Or.inr (Or.inr e))⟩
 . subst e;exact ⟨Or.inl (by rw [Int.emod_eq_of_lt (by lia) (by lia)]),Or.inr (Or.inl (by rw [show x+1 - 1=x by lia,Int.emod_eq_of_lt (by lia) (by lia)]))⟩
 . subst e;subst e';exact ⟨Or.inr (Or.inl (by rw [<-Int.add_emod_right,Int.emod_eq_of_lt (by lia) (by lia)];lia)),Or.inl (by rw [show n - 1+1=n by lia,Int.emod_self])⟩
theorem mem_dues:k∈u9 T p↔∃t∈T,bth p.1 p.2 t=true/\k=t.1+(t.2.1+(t.2.2+0)) - (p.1+(p.2+0)):=by
 unfold u9;rw [(Lm _).mem_iff,List.mem_map];constructor
 . rintro ⟨t,ht,rfl⟩;obtain ⟨h1,h2⟩:=List.mem_filter.mp ht;exact ⟨t,(U6 T).mem_iff.mp h1,h2,rfl⟩
 . rintro ⟨t,h1,h2,rfl⟩;exact ⟨t,List.mem_filter.mpr ⟨(U6 T).mem_iff.mpr h1,h2⟩,rfl⟩
theorem CInv.com (I:CInv n ls T) (hl:(a,b)∈ls) (k0:0<=k) (k1:k<n) (ka:k≠a) (kb:k≠b):(adj n ls a k/\adj n ls b k)↔k∈u9 T (a,b):=by
 have n3:=I.n3;have l:=I.lin a b hl;rw [mem_dues];constructor
 . rintro ⟨h1,h2⟩;by_cases c1:k<a
   . have e1:=P1 I k0 c1 (by lia) (Or.inr h1);have e2:=P1 I k0 (show k<b by lia) (by lia) (Or.inr h2);have t:=I.three (x:=k) (y:=a) (z:=b) (by lia) (by lia) (by rcases e1 with z | z | z;exact .inl z;exact .inr z;lia) (.inl hl) (by rcases e2 with z | z | z;exact .inl z;lia;exact .inr z);exact ⟨_,t,bth_iff.mpr (by simp),by simp only;lia⟩
   . by_cases c2:k<b
     . have e1:=P1 I l.1 (show a<k by lia) (by lia) (Or.inl h1);have e2:=P1 I k0 c2 (by lia) (Or.inr h2);have t:=I.three (x:=a) (y:=k) (z:=b) (by lia) (by lia) (by rcases e1 with z | z | z;exact .inl z;exact .inr z;lia) (by rcases e2 with z | z | z;exact .inl z;exact .inr z;lia) (.inl hl);exact ⟨_,t,bth_iff.mpr (by simp),by simp only;lia⟩
     . have e1:=P1 I l.1 (show a<k by lia) (by lia) (Or.inl h1);have e2:=P1 I (show 0<=b by lia) (show b<k by lia) (by lia) (Or.inl h2);have t:=I.three (x:=a) (y:=b) (z:=k) (by lia) (by lia) (.inl hl) (by rcases e2 with z | z | z;exact .inl z;exact .inr z;lia) (by rcases e1 with z | z | z;exact .inl z;lia;exact .inr z);exact ⟨_,t,bth_iff.mpr (by simp),by simp only;lia⟩
 . rintro ⟨⟨x,y,z⟩,ht,hb,e⟩;have g:=I.tri _ _ _ ht;have o:=I.top_or ht;rw [bth_iff] at hb;simp only at e;have xy:adj n ls x y/\adj n ls y x:=Cy I g.1 g.2.1 (by lia) (by rcases g.2.2.2.2.1 with z | z;exact .inl z;exact .inr (.inl z));have yz:adj n ls y z/\adj n ls z y:=Cy I (by lia) g.2.2.1 (by lia) (by rcases g.2.2.2.2.2 with z | z;exact .inl z;exact .inr (.inl z));have xz:adj n ls x z/\adj n ls z x:=Cy I g.1 (show x<z by lia) (by lia) (by rcases o with z | z;exact .inl z;exact .inr (.inr z));have:(a=x/\b=y/\k=z)\/(a=x/\b=z/\k=y)\/(a=y/\b=z/\k=x):=by
    have l2:=l.2.1;obtain ⟨_,g2,g3,_⟩:=g;clear xy yz xz o l ka kb ht;rcases hb with ⟨h1 | h1 | h1,h2 | h2 | h2⟩
    . lia
    . exact .inl ⟨h1,h2,by lia⟩
    . exact .inr (.inl ⟨h1,h2,by lia⟩)
    . lia
    . lia
    . exact .inr (.inr ⟨h1,h2,by lia⟩)
    . lia
    . lia
    . lia
   rcases this with ⟨rfl,rfl,rfl⟩ | ⟨rfl,rfl,rfl⟩ | ⟨rfl,rfl,rfl⟩
   . exact ⟨xz.1,yz.1⟩
   . exact ⟨xy.1,yz.2⟩
   . exact ⟨xy.2,xz.2⟩
end
end Cu
noncomputable section
namespace K89
open PySem PySem.Spec PyProof.Rows L2
def M7:String->Option Bool:=fun c=>if c="Mirror" then some true else if c="Spin" then some true else if c="TurnLine" then some true else none
def knX:String->Bool:=fun c=>c=="NoLine"
def Ak:String->Option Bool:=fun c=>if c="NoLine" then some true else none
def Vq:DS->SR:=
 (j9 [true] (D6 (eUn (r8 "int") (d6 0)) (eUn (fun d=>(v4 d).map fun b=>.bl (!b)) (eUn (r8 "bool") (d6 0)))))
def V2:List D->R D:=mOf false 1 0 Vq
def Pd:DS->SR:=
 (j9 [true,true] (eIf (i6 asB (eOp J7 (d6 0) (d6 1))) (p7 (d7 (d6 0) (d7 (d6 1) d9))) (p7 (d7 (d6 1) (d7 (d6 0) d9)))))
def Y4:List D->R D:=mOf false 2 0 Pd
def Uq:DS->SR:=
 (g8 (h9 false 2 [false,true] (eOp dIx (d6 1) (eC (.int 0))))
  (g8 (h9 false 3 [false,true] (eOp dIx (d6 1) (eC (.int 1))))
  (g8 (sIf (bOr (i6 asB (eOp J7 (d6 2) (eC (.int 0)))) (i6 asB (eOp dGe (d6 3) (d6 0))))
   (j9 [] (eC (.bl false)))
   sNx)
  (j9 [true,false,true,true] (eOr (eOp dEq (d6 3) (eOp w4 (d6 2) (eC (.int 1)))) (D6 (eOp dEq (d6 2) (eC (.int 0))) (eOp dEq (d6 3) (eOp t7 (d6 0) (eC (.int 1))))))))))
def Aj:List D->R D:=mOf false 2 2 Uq
def Xj:DE->R Bool:=
 (G3 (i6 asB (eOp dEq (eOp dIx (d6 0) (eC (.int 0))) (d6 1))) (G3 (i6 asB (eOp dLe (eOp dIx (d6 0) (eC (.int 1))) (eOp dIx (d6 2) (eC (.int 1))))) (i6 asB (eOp dNe (d6 0) (d6 2)))))
def Xi:DE->R D:=
 (eOp dIx (d6 0) (eC (.int 1)))
def Xf:DS->SR:=
 (g8 (h9 true 3 [true,true,true] (t9 (iL (d6 2)) b1 [0,1] Xj Xi))
  (j9 [true,false,false,true] (eCB X5 (d7 (d6 3) (d7 (eOp w4 (d6 0) (eC (.int 1))) d9)))))
def Bw:List D->R D:=mOf false 3 1 Xf
def Wg:DS->SR:=
 (j9 [true,true] (eOp dIx (eOp A6 (eSl dSl (d6 0) (oSo (d6 1)) (oSo (eOp w4 (d6 1) (eC (.int 1))))) (t8 (d7 (eC (.int 0)) d9))) (eC (.int 0))))
def z0:List D->R D:=mOf false 2 0 Wg
def Xe:DE->R D:=
 (p7 (d7 (eOp w4 (d6 0) (eCB W0 (d7 (eOp S0 (d6 0) (d6 2)) d9))) (d7 (eOp w4 (d6 1) (eCB W0 (d7 (eOp S0 (d6 1) (d6 2)) d9))) d9)))
def Wu:DS->SR:=
 (g8 (h9 true 3 [false,true,true] (t9 (iL (d6 1)) (bT 2) [2] A4 Xe))
  (g8 (sIf (i6 asB (eOp dEq (d6 2) (eOp t7 (d6 0) (eC (.int 1)))))
   (j9 [true,false,false,true] (eOp A6 (d6 3) (t8 (d7 (p7 (d7 (eC (.int 0)) (d7 (eOp t7 (d6 0) (eC (.int 1))) d9))) d9))))
   sNx)
  (j9 [false,false,true,true] (eOp A6 (d6 3) (t8 (d7 (p7 (d7 (d6 2) (d7 (eOp w4 (d6 2) (eC (.int 2))) d9))) d9))))))
def Bq:List D->R D:=mOf true 3 1 Wu
def Mt:DS->SR:=
 (g8 (h9 true 7 [false,true,true,true,false,true,true] (t8 (d7 (eOp n6 (eOp w4 (eOp W2 (d6 2) (d6 5)) (d6 1)) (d6 3)) (d7 (eOp n6 (eOp w4 (eOp W2 (d6 2) (d6 6)) (d6 1)) (d6 3)) d9))))
  (G2 "list" A3 4 [false,false,false,false,false,false,false,true] (d7 (p7 (d7 (eCB Ci (d7 (d6 7) d9)) (d7 (eCB Cj (d7 (d6 7) d9)) d9))) d9)))
def Wp:DS->SR:=
 (g8 (h9 false 3 [true] (eOp dIx (d6 0) (eC (.int 0))))
  (g8 (h9 true 4 [] (t8 d9))
  (g8 (L9 false [true] (iL (eOp dIx (d6 0) (eC (.int 1)))) (.t [5,6]) Mt)
  (j9 [false,false,false,true,true] (p7 (d7 (d6 3) (d7 (eCB E6 (d7 (eCB C7 (d7 (d6 4) d9)) d9)) d9)))))))
def V4:List D->R D:=mOf false 3 5 Wp
def Wt:DS->SR:=
 (g8 (h9 false 3 [false,true,true] (eCB Jl (d7 (d6 1) (d7 (d6 2) d9))))
  (g8 (h9 false 4 [false,true,true] (eCB Jm (d7 (d6 1) (d7 (d6 2) d9))))
  (j9 [true,false,false,true,true] (eOr (eOp dEq (eOp t7 (d6 4) (d6 3)) (eC (.int 1))) (eOr (eOp dEq (p7 (d7 (d6 3) (d7 (d6 4) d9))) (p7 (d7 (eC (.int 0)) (d7 (eOp t7 (eOp dIx (d6 0) (eC (.int 0))) (eC (.int 1))) d9)))) (eOp (dIn false) (p7 (d7 (d6 3) (d7 (d6 4) d9))) (eOp dIx (d6 0) (eC (.int 1)))))))))
def V5:List D->R D:=mOf false 3 2 Wt
def Wf:DS->SR:=
 (g8 (sIf (i6 asB (eOp dEq (eOp n6 (d6 0) (eC (.int 2))) (eC (.int 0))))
   (j9 [true] (eOp t7 (eOp n6 (eOp v5 (d6 0) (eC (.int 2))) (eC (.int 41))) (eC (.int 20))))
   sNx)
  (j9 [true] (eOp w4 (eOp t7 (eOp n6 (eOp v5 (d6 0) (eC (.int 2))) (eOp t7 (eOp W2 (eC (.int 2)) (eOp N8 (eC (.int 10)) (eC (.int 60)))) (eC (.int 1)))) (eOp N8 (eC (.int 10)) (eC (.int 60)))) (eC (.int 1)))))
def Q4:List D->R D:=mOf false 1 0 Wf
def Tr:DS->SR:=
 (j9 [true] (D6 (eUn (r8 "tuple") (d6 0)) (D6 (eOp dEq (eCB p8 (d7 (d6 0) d9)) (eC (.int 2))) (D6 (i7 V2 (d7 (eOp dIx (d6 0) (eC (.int 0))) d9)) (i7 V2 (d7 (eOp dIx (d6 0) (eC (.int 1))) d9))))))
def Q0:List D->R D:=mOf false 1 0 Tr
def Gq:DE->R Bool:=
 (i6 asB (eOp J7 (eOp dIx (d6 2) (eUn D5 (eC (.int 1)))) (eOp dIx (d6 0) (eC (.int 1)))))
def Gp:DS->SR:=
 (G2 "list" A3 2 [true,true,true] (d7 (i7 Bw (d7 (eOp dIx (d6 2) (eUn D5 (eC (.int 1)))) (d7 (d6 0) (d7 (d6 1) d9)))) d9))
def Wo:DS->SR:=
 (g8 (h9 true 2 [true] (t8 (d7 (eOp dIx (d6 0) (eC (.int 0))) d9)))
  (g8 (Dg 1000 Gq Gp)
  (j9 [false,false,true] (eCB E6 (d7 (d6 2) d9)))))
def Bj:List D->R D:=mOf false 2 1 Wo
def Up:DE->R D:=
 (i7 Y4 (d7 (eOp dIx (d6 2) (d6 0)) (d7 (eOp dIx (d6 2) (d6 1)) d9)))
def Ro:DS->SR:=
 (j9 [true,true] (p7 (d7 (eOp dIx (d6 0) (eC (.int 0))) (d7 (eCB E6 (d7 (eCB C7 (d7 (t9 (iL (eOp dIx (d6 0) (eC (.int 1)))) (bT 2) [1] A4 Up) d9)) d9)) d9))))
def P7:List D->R D:=mOf false 2 0 Ro
def Ee:DS->SR:=
 (g8 (h9 true 2 [false,true,true,true] (i7 Bq (d7 (d6 1) (d7 (d6 2) (d7 (eOp n6 (d6 3) (d6 1)) d9)))))
  (h9 false 1 [false,true] (eOp w4 (d6 1) (eC (.int 1)))))
def Wn:DS->SR:=
 (g8 (h9 false 1 [] (eC (.int 3)))
  (g8 (h9 true 2 [] (t8 d9))
  (g8 (L9 false [true] (iL (d6 0)) (.n 3) Ee)
  (j9 [false,true,true] (p7 (d7 (d6 1) (d7 (eCB E6 (d7 (eCB C7 (d7 (d6 2) d9)) d9)) d9)))))))
def V3:List D->R D:=mOf false 1 3 Wn
def Xd:DE->R Bool:=
 (i6 asB (eOp (dIn true) (d6 0) (d6 1)))
def Xb:DE->R D:=
 (d6 0)
def Xa:DE->R Bool:=
 (G3 (i6 v4 (i7 V5 (d7 (d6 1) (d7 (d6 0) (d7 (eOp dIx (d6 2) (eC (.int 0))) d9))))) (i6 v4 (i7 V5 (d7 (d6 1) (d7 (d6 0) (d7 (eOp dIx (d6 2) (eC (.int 1))) d9))))))
def Wz:DE->R D:=
 (d6 0)
def Wy:DE->R Bool:=
 (i6 asB (eOp dNe (d6 0) (d6 1)))
def Wx:DE->R D:=
 (d6 0)
def Ws:DS->SR:=
 (g8 (h9 true 2 [false,true] (t8 (d7 (eOp dIx (d6 1) (eC (.int 0))) (d7 (eOp dIx (d6 1) (eC (.int 1))) d9))))
  (g8 (h9 true 3 [true,false,true] (t9 (R5 (d7 (eOp dIx (d6 0) (eC (.int 0))) d9)) b1 [2] Xd Xb))
  (g8 (h9 true 4 [true,true,false,true] (t9 (iL (d6 3)) b1 [0,1] Xa Wz))
  (g8 (h9 true 5 [true,true] (t9 (iL (eOp dIx (d6 0) (eC (.int 1)))) b1 [1] Wy Wx))
  (j9 [true,false,false,false,true,true] (p7 (d7 (eOp dIx (d6 0) (eC (.int 0))) (d7 (eCB E6 (d7 (eCB C7 (d7 (eOp A6 (d6 5) (t8 (d7 (p7 (d7 (eOp dIx (d6 4) (eC (.int 0))) (d7 (eOp dIx (d6 4) (eC (.int 1))) d9))) d9))) d9)) d9)) d9))))))))
def Q6:List D->R D:=mOf false 2 4 Ws
def Vp:DS->SR:=
 (j9 [true,true] (D6 (i7 Q0 (d7 (d6 1) d9)) (eOr (i7 Aj (d7 (eOp dIx (d6 0) (eC (.int 0))) (d7 (d6 1) d9))) (eOp (dIn false) (d6 1) (eOp dIx (d6 0) (eC (.int 1)))))))
def Aq:List D->R D:=mOf false 2 0 Vp
def Mr:DS->SR:=
 (sIf (bOr (C4 (i6 v4 (i7 Q0 (d7 (d6 1) d9)))) (i6 asB (eOp (dIn true) (d6 1) (eOp dIx (d6 0) (eC (.int 1))))))
  (Dc "NoLine" (d7 (eC (.str "no line of the cutting")) d9))
  sNx)
def Q5:List D->R D:=mOf false 2 0 Mr
def Uo:DE->R D:=
 (i7 Bj (d7 (d6 0) (d7 (d6 1) d9)))
def Rn:DS->SR:=
 (g8 (h9 true 2 [true,true] (eOp A6 (t8 (d7 (p7 (d7 (eC (.int 0)) (d7 (eOp t7 (d6 0) (eC (.int 1))) d9))) d9)) (eCB O5 (d7 (d6 1) d9))))
  (j9 [false,true,true] (eCB C7 (d7 (t9 (iL (d6 2)) b1 [1] A4 Uo) d9))))
def Z6:List D->R D:=mOf true 2 1 Rn
def Tq:DE->R D:=
 (eOp n6 (eOp w4 (d6 0) (d6 2)) (d6 1))
def Pc:DS->SR:=
 (g8 (h9 false 2 [true] (eOp dIx (d6 0) (eC (.int 0))))
  (j9 [true,true,true] (i7 P7 (d7 (d6 0) (d7 (t9 (R5 (d7 (d6 2) d9)) b1 [2,1] A4 Tq) d9)))))
def P0:List D->R D:=mOf false 2 1 Pc
def Wm:DE->R D:=
 (eOp n6 (eOp t7 (d6 1) (d6 0)) (d6 1))
def Vo:DS->SR:=
 (g8 (h9 false 1 [true] (eOp dIx (d6 0) (eC (.int 0))))
  (j9 [true,true] (i7 P7 (d7 (d6 0) (d7 (t9 (R5 (d7 (d6 1) d9)) b1 [1] A4 Wm) d9)))))
def Ap:List D->R D:=mOf false 1 1 Vo
def We:DS->SR:=
 (j9 [true] (y4 "Spin" (d7 (eUn D5 (eUn (G5 "by" ["Spin"]) (d6 0))) d9)))
def Ea:List D->R D:=mOf false 2 0 We
def Wr:DS->SR:=
 (j9 [] (Y5 "Mirror"))
def Ec:List D->R D:=mOf false 2 0 Wr
def Xh:DE->R Bool:=
 (i6 asB (eOp (dIn true) (d6 0) (eOp dIx (d6 1) (eC (.int 1)))))
def Xg:DE->R D:=
 (d6 0)
def Ms:DS->SR:=
 (g8 (h9 false 2 [true] (eOp dIx (d6 0) (eC (.int 0))))
  (g8 (h9 true 3 [false,true,true] (t8 (d7 (p7 (d7 (eC (.int 1)) (d7 (eC (.int 2)) d9))) (d7 (p7 (d7 (eC (.int 0)) (d7 (eOp t7 (d6 2) (eC (.int 1))) d9))) (d7 (p7 (d7 (eC (.int 2)) (d7 (eC (.int 0)) d9))) (d7 (p7 (d7 (eC (.int 0)) (d7 (eOp w4 (d6 2) (eOp n6 (eOp v5 (d6 1) (eC (.int 5))) (eOp N8 (eC (.int 10)) (eC (.int 30))))) d9))) (d7 (p7 (d7 (eOp t7 (d6 2) (eC (.int 1))) (d7 (eC (.int 1)) d9))) d9)))))))
  (g8 (sIf (G3 (i6 asB (eOp S0 (d6 2) (eC (.int 3)))) (i6 asB (eOp dEq (eOp n6 (d6 1) (eC (.int 5))) (eC (.int 4)))))
   (g8 (h9 false 4 [true,true,true] (eOp dIx (eOp dIx (d6 0) (eC (.int 1))) (eOp n6 (eOp v5 (d6 1) (eC (.int 5))) (eOp t7 (d6 2) (eC (.int 3))))))
  (g8 (h9 true 5 [true,false,false,false,true] (t9 (iL (eOp dIx (i7 Q6 (d7 (d6 0) (d7 (d6 4) d9))) (eC (.int 1)))) b1 [0] Xh Xg))
  (j9 [false,false,false,false,false,true] (eOp dIx (d6 5) (eC (.int 0))))))
   sNx)
  (j9 [false,true,false,true] (eOp dIx (d6 3) (eOp n6 (d6 1) (eC (.int 5))))))))
def K8:List D->R D:=mOf false 2 4 Ms
def Bb:DS->SR:=
 (g8 (sIf (G3 (i6 asB (eOp J7 (eOp n6 (d6 1) (eC (.int 4))) (eC (.int 2)))) (i6 asB (eOp S0 (eOp dIx (d6 0) (eC (.int 0))) (eC (.int 3)))))
   (j9 [true,true] (i7 Q6 (d7 (d6 0) (d7 (eOp dIx (eOp dIx (d6 0) (eC (.int 1))) (eOp n6 (eOp v5 (d6 1) (eC (.int 4))) (eOp t7 (eOp dIx (d6 0) (eC (.int 0))) (eC (.int 3))))) d9))))
   sNx)
  (g8 (sIf (i6 asB (eOp J7 (eOp n6 (d6 1) (eC (.int 4))) (eC (.int 3))))
   (j9 [true,true] (i7 V4 (d7 (d6 0) (d7 (i7 Q4 (d7 (eOp v5 (d6 1) (eC (.int 4))) d9)) (d7 (eC (.int 1)) d9)))))
   sNx)
  (j9 [true] (i7 V4 (d7 (d6 0) (d7 (eC (.int 0)) (d7 (eUn D5 (eC (.int 1))) d9)))))))
def Q3:List D->R D:=mOf false 2 0 Bb
def K7 (hf:Str->Int):DS->SR:=
 (g8 (sIf (G3 (i6 asB (eOp J7 (eOp n6 (d6 1) (eC (.int 4))) (eC (.int 2)))) (i6 asB (eOp S0 (eOp dIx (d6 0) (eC (.int 0))) (eC (.int 3)))))
   (g8 (h9 false 3 [true,true] (eOp dIx (eOp dIx (d6 0) (eC (.int 1))) (eOp n6 (eOp v5 (d6 1) (eC (.int 4))) (eOp t7 (eOp dIx (d6 0) (eC (.int 0))) (eC (.int 3))))))
  (sRetP hf 2 [false,false,false,true] (d7 (p7 (d7 (eC (.str "turn")) (d7 (d6 3) d9))) (d7 (y4 "TurnLine" (d7 (d6 3) d9)) d9))))
   sNx)
  (g8 (sIf (i6 asB (eOp J7 (eOp n6 (d6 1) (eC (.int 4))) (eC (.int 3))))
   (g8 (h9 false 4 [false,true] (i7 Q4 (d7 (eOp v5 (d6 1) (eC (.int 4))) d9)))
  (sRetP hf 2 [false,false,false,false,true] (d7 (p7 (d7 (eC (.str "spin")) (d7 (d6 4) d9))) (d7 (y4 "Spin" (d7 (d6 4) d9)) d9))))
   sNx)
  (sRetP hf 2 [] (d7 (p7 (d7 (eC (.str "mirror")) (d7 (eC (.int 0)) d9))) (d7 (Y5 "Mirror") d9)))))
def K6 (hf:Str->Int):List D->R (D×D):=mPl 2 2 (K7 hf)
def Wl:DS->SR:=
 (sIf (C4 (i6 v4 (i7 Aq (d7 (d6 0) (d7 (d6 1) d9)))))
  (Dc "NoLine" (d7 (eC (.str "no side and no line of the cutting")) d9))
  sNx)
def Bi:List D->R D:=mOf false 2 0 Wl
def Wd:DS->SR:=
 (j9 [true] (i7 Z6 (d7 (eOp dIx (d6 0) (eC (.int 0))) (d7 (eOp dIx (d6 0) (eC (.int 1))) d9))))
def Ba:List D->R D:=mOf true 1 0 Wd
def Wc:DS->SR:=
 (j9 [true,true] (i7 P0 (d7 (d6 1) (d7 (eUn (G5 "by" ["Spin"]) (d6 0)) d9))))
def Dz:List D->R D:=mOf false 2 0 Wc
def Wq:DS->SR:=
 (j9 [false,true] (i7 Ap (d7 (d6 1) d9)))
def Eb:List D->R D:=mOf false 2 0 Wq
def Vn:DE->R Bool:=
 (G3 (i6 asB (eOp (dIn false) (eOp dIx (d6 1) (eC (.int 0))) (d6 0))) (i6 asB (eOp (dIn false) (eOp dIx (d6 1) (eC (.int 1))) (d6 0))))
def Vm:DE->R D:=
 (d6 0)
def Vl:DE->R D:=
 (eOp t7 (eCB J4 (d7 (d6 0) d9)) (eCB J4 (d7 (d6 1) d9)))
def Tp:DS->SR:=
 (g8 (Cw (i7 Bi (d7 (d6 0) (d7 (d6 1) d9))))
  (g8 (h9 true 2 [true,true] (t9 (iL (i7 Ba (d7 (d6 0) d9))) b1 [1] Vn Vm))
  (j9 [false,true,true] (eCB C7 (d7 (t9 (iL (d6 2)) b1 [1] A4 Vl) d9)))))
def U3:List D->R D:=mOf true 2 1 Tp
def Vk:DE->R Bool:=
 (i6 asB (eOp dNe (d6 0) (d6 1)))
def Vj:DE->R D:=
 (d6 0)
def Lk:DS->SR:=
 (g8 (Cw (i7 Q5 (d7 (d6 0) (d7 (d6 1) d9))))
  (g8 (h9 false 2 [true,true] (eCB E6 (d7 (i7 U3 (d7 (d6 0) (d7 (d6 1) d9))) d9)))
  (g8 (h9 true 3 [true,true] (t9 (iL (eOp dIx (d6 0) (eC (.int 1)))) b1 [1] Vk Vj))
  (j9 [true,false,true,true] (p7 (d7 (p7 (d7 (eOp dIx (d6 0) (eC (.int 0))) (d7 (eCB E6 (d7 (eCB C7 (d7 (eOp A6 (d6 3) (t8 (d7 (d6 2) d9))) d9)) d9)) d9))) (d7 (d6 2) d9)))))))
def K3:List D->R D:=mOf false 2 2 Lk
def Mw:DS->SR:=
 (j9 [true,true] (eOp dIx (i7 K3 (d7 (d6 1) (d7 (eUn (G5 "line" ["TurnLine"]) (d6 0)) d9))) (eC (.int 0))))
def V7:List D->R D:=mOf false 2 0 Mw
def Mv:DS->SR:=
 (j9 [true,true] (y4 "TurnLine" (d7 (eOp dIx (i7 K3 (d7 (d6 1) (d7 (eUn (G5 "line" ["TurnLine"]) (d6 0)) d9))) (eC (.int 1))) d9)))
def V6:List D->R D:=mOf false 2 0 Mv
def z9:String->Option (List D->R D):=fun c=>if c="Mirror" then some Eb else if c="Spin" then some Dz else if c="TurnLine" then some V7 else none
def K5:DS->SR:=
 (G2 "list" A3 2 [false,false,true,true] (d7 (D7 z9 (d6 3) (d7 (eOp dIx (d6 2) (eUn D5 (eC (.int 1)))) d9)) d9))
def Lj:DS->SR:=
 (g8 (h9 true 2 [true] (t8 (d7 (d6 0) d9)))
  (g8 (L9 false [false,true] (iL (d6 1)) (.n 3) K5)
  (Fk 2)))
def B9:List D->R D:=mOf true 2 2 Lj
def B6:String->Option (List D->R D):=fun c=>if c="Mirror" then some Ec else if c="Spin" then some Ea else if c="TurnLine" then some V6 else none
def K2:DS->SR:=
 (g8 (G2 "list" A3 2 [false,false,false,true,true] (d7 (D7 B6 (d6 4) (d7 (d6 3) d9)) d9))
  (h9 false 3 [false,false,false,true,true] (D7 z9 (d6 4) (d7 (d6 3) d9))))
def Jo:DS->SR:=
 (g8 (h9 true 2 [] (t8 d9))
  (g8 (h9 false 3 [true] (d6 0))
  (g8 (L9 false [false,true] (iL (d6 1)) (.n 4) K2)
  (j9 [false,false,true] (eUn X0 (d6 2))))))
def B5:List D->R D:=mOf true 2 3 Jo
def Mo:DS->SR:=
 (g8 (h9 true 3 [] (t8 d9))
  (g8 (Q7 (sIf (fun ρ=>((i6 asB (eOp dEq (d6 0) (eC (.int 0)))) ρ).noE) (h9 true 3 [false,true,true] (E8 knX B9 (d7 (d6 1) (d7 (d6 2) d9)))) (h9 true 3 [false,true,true] (E8 knX B5 (d7 (d6 1) (d7 (d6 2) d9)))))
   (hNo Ak (h9 false 3 [] (eC .non)) Ei))
  (j9 [false,false,false,true] (d6 3))))
def p9:List D->R D:=mOf false 3 1 Mo
def Z5 (hf:Str->Int):DS->SR:=
 (g8 (X1 4 5 [false,false,false,true,false,false,true] (K6 hf) 2 (d7 (eOp dIx (d6 3) (eUn D5 (eC (.int 1)))) (d7 (d6 6) d9)))
  (G2 "list" A3 3 [false,false,false,true,false,false,true] (d7 (i7 Q3 (d7 (eOp dIx (d6 3) (eUn D5 (eC (.int 1)))) (d7 (d6 6) d9))) d9)))
def Z4:DE->R D:=
 (eUn (K9 M7) (d6 0))
def Ho (hf:Str->Int):DS->SR:=
 (g8 (h9 false 1 [true] (eOp n6 (eOp v5 (i7 z0 (d7 (d6 0) (d7 (eC (.int 0)) d9))) (eC (.int 5))) (eC (.int 10))))
  (g8 (h9 false 2 [true,true] (i7 V3 (d7 (eSl dSl (d6 0) (oSo (eC (.int 1))) (oSo (eOp w4 (eC (.int 1)) (d6 1)))) d9)))
  (g8 (h9 true 3 [false,false,true] (t8 (d7 (d6 2) d9)))
  (g8 (h9 true 4 [] (t8 d9))
  (g8 (h9 true 5 [] (Fb hf))
  (g8 (L9 false [true,true] (iL (eSl dSl (d6 0) (oSo (eOp w4 (eC (.int 1)) (d6 1))) (oSo (eC (.int 281))))) (.n 6) (Z5 hf))
  (g8 (sIf (i6 asB (eOp dEq (eOp n6 (i7 z0 (d7 (d6 0) (d7 (eC (.int 0)) d9))) (eC (.int 5))) (eC (.int 4))))
   (g8 (h9 false 7 [true,false,false,false,true] (eOp n6 (i7 z0 (d7 (d6 0) (d7 (eC (.int 1)) d9))) (eOp w4 (eCB p8 (d7 (d6 4) d9)) (eC (.int 1)))))
  (g8 (G2 "list" Q9 4 [true,false,false,true,false,false,false,true] (d7 (d6 7) (d7 (y4 "TurnLine" (d7 (i7 K8 (d7 (eOp dIx (d6 3) (d6 7)) (d7 (eOp v5 (i7 z0 (d7 (d6 0) (d7 (eC (.int 1)) d9))) (eC (.int 60))) d9))) d9)) d9)))
  (j9 [false,false,true,false,true] (D6 (eOp Q8 (i7 p9 (d7 (eC (.int 0)) (d7 (d6 2) (d7 (d6 4) d9)))) (eC .non)) (eOp Q8 (i7 p9 (d7 (eC (.int 1)) (d7 (d6 2) (d7 (eCB O5 (d7 (d6 4) d9)) d9)))) (eC .non))))))
   sNx)
  (g8 (h9 false 8 [false,false,true,false,true] (i7 p9 (d7 (eC (.int 0)) (d7 (d6 2) (d7 (d6 4) d9)))))
  (g8 (sIf (bOr (C4 (i6 v4 (eUn (r8 "list") (d6 8)))) (bOr (i6 asB (eOp dNe (d6 8) (d6 3))) (i6 asB (eOp dNe (eCB p8 (d7 (d6 4) d9)) (eOp t7 (eCB p8 (d7 (d6 3) d9)) (eC (.int 1)))))))
   (j9 [] (eC (.bl false)))
   sNx)
  (g8 (h9 false 9 [false,false,true,false,true] (i7 p9 (d7 (eC (.int 1)) (d7 (d6 2) (d7 (d6 4) d9)))))
  (g8 (sIf (bOr (C4 (i6 v4 (eUn (r8 "list") (d6 9)))) (bOr (i6 asB (eOp dNe (eCB p8 (d7 (d6 9) d9)) (eCB p8 (d7 (d6 4) d9)))) (i6 asB (eOp dNe (eCB p8 (d7 (d6 4) d9)) (eOp t7 (eCB p8 (d7 (d6 3) d9)) (eC (.int 1)))))))
   (j9 [] (eC (.bl false)))
   sNx)
  (g8 (sIf (C4 (i6 v4 (eCB R6 (d7 (t9 (iL (d6 9)) b1 [] A4 Z4) d9))))
   (j9 [] (eC (.bl false)))
   sNx)
  (j9 [false,false,true,true,true,false,false,false,false,true] (D6 (eOp dEq (i7 p9 (d7 (eC (.int 0)) (d7 (eOp dIx (d6 3) (eUn D5 (eC (.int 1)))) (d7 (d6 9) d9)))) (eUn X0 (d6 3))) (eOp dEq (i7 p9 (d7 (eC (.int 0)) (d7 (d6 2) (d7 (d6 4) d9)))) (d6 3))))))))))))))))
def W8 (hf:Str->Int):List D->R D:=mOf false 1 9 (Ho hf)
def top (i:Nat):Stmt:=PySem.Challenge.pw_friezeyard_k89_whole_journeys_home.main.body.getD i (.Pass ⟨0,0,0,0⟩)
abbrev Ad:Stmt:=top 2
abbrev Y3:Stmt:=top 3
abbrev Ao:Stmt:=top 8
abbrev Y2:Stmt:=top 9
abbrev Ai:Stmt:=top 10
abbrev Ac:Stmt:=top 12
abbrev An:Stmt:=top 13
abbrev Bh:Stmt:=top 14
abbrev Bg:Stmt:=top 15
abbrev Z3:Stmt:=top 17
abbrev Bf:Stmt:=top 18
abbrev Bv:Stmt:=top 19
abbrev Az:Stmt:=top 20
abbrev Ab:Stmt:=top 21
abbrev Y1:Stmt:=top 23
abbrev Am:Stmt:=top 24
abbrev Z2:Stmt:=top 25
abbrev Aa:Stmt:=top 27
abbrev Ay:Stmt:=top 34
abbrev Bp:Stmt:=top 35
abbrev Be:Stmt:=top 36
abbrev Bc:Stmt:=top 37
abbrev Bo:Stmt:=top 38
abbrev Bn:Stmt:=top 39
abbrev Br:Stmt:=top 40
abbrev Ax:Stmt:=top 41
abbrev Aw:Stmt:=top 42
abbrev Av:Stmt:=top 43
abbrev Au:Stmt:=top 44
abbrev M0:Stmt:=top 45
abbrev Bu:Stmt:=(P8 (top 30)).getD 1 (.Pass ⟨0,0,0,0⟩)
abbrev Bt:Stmt:=(P8 (top 30)).getD 2 (.Pass ⟨0,0,0,0⟩)
abbrev At:Stmt:=(P8 (top 31)).getD 1 (.Pass ⟨0,0,0,0⟩)
abbrev As:Stmt:=(P8 (top 31)).getD 2 (.Pass ⟨0,0,0,0⟩)
abbrev Bm:Stmt:=(P8 (top 32)).getD 0 (.Pass ⟨0,0,0,0⟩)
abbrev Bl:Stmt:=(P8 (top 32)).getD 1 (.Pass ⟨0,0,0,0⟩)
abbrev Ar:Stmt:=(P8 (top 31)).getD 0 (.Pass ⟨0,0,0,0⟩)
theorem zq:FnScope ["self","by"] ["self","by"] (g7 Ar):=fsc
abbrev Bs:Stmt:=(P8 (top 30)).getD 0 (.Pass ⟨0,0,0,0⟩)
theorem zZ:FnScope ["self","line"] ["self","line"] (g7 Bs):=fsc
structure Txt (mg:Str->Option Value):Prop where
 «all»:mg "all"=none
 bool:mg "bool"=none
 int:mg "int"=none
 isinstance:mg "isinstance"=none
 len:mg "len"=none
 list:mg "list"=none
 «max»:mg "max"=none
 «min»:mg "min"=none
 range:mg "range"=none
 reversed:mg "reversed"=none
 sorted:mg "sorted"=none
 sum:mg "sum"=none
 tuple:mg "tuple"=none
structure Exs (K:Frag) (mg:Str->Option Value) (u0 u1 u2 u3 u4:Addr):Prop where
 a_Deed:mg (Str.ofString "Deed")=some (.ref u0)
 a_Mirror:mg (Str.ofString "Mirror")=some (.ref u1)
 a_NoLine:mg (Str.ofString "NoLine")=some (.ref u2)
 a_Spin:mg (Str.ofString "Spin")=some (.ref u3)
 a_TurnLine:mg (Str.ofString "TurnLine")=some (.ref u4)
 n_Mirror:nsIn K mainGlobals (Str.ofString "Mirror")=some (some (.ref u1))
 n_NoLine:nsIn K mainGlobals (Str.ofString "NoLine")=some (some (.ref u2))
 n_Spin:nsIn K mainGlobals (Str.ofString "Spin")=some (some (.ref u3))
 n_TurnLine:nsIn K mainGlobals (Str.ofString "TurnLine")=some (some (.ref u4))
 q_NoLine:PySem.W.excIn K u2 [.type "ValueError",.type "Exception",.type "BaseException",.type "object"] "ValueError.__new__"=true
 op_Mirror:PySem.W.plainGet K u1 Str.empty=true
 oh_Mirror:PySem.W.hasDictIn K u1=true
 oo_Mirror:plainOver K u1=true
 os_Mirror:PySem.W.findIn K (.ref u1) "__setattr__"=some (some (.builtin "object.__setattr__"))
 om_Mirror:PySem.W.makesIn K u1=true
 oq_Mirror:keepIn K (.ref u1)=true
 oi_Mirror:PySem.W.findIn K (.ref u1) "__init__"=some (some (.builtin "object.__init__"))
 oc_Mirror:PySem.W.findIn K (.ref u1) "__class__"=some (some (.builtin "object.__class__"))
 ob_Mirror:mroIn K u1 (.type "object")=some true
 ok_Mirror_Deed:kitOne K (.ref u1) (.ref u0)=some true
 op_Spin:PySem.W.plainGet K u3 Str.empty=true
 oh_Spin:PySem.W.hasDictIn K u3=true
 oo_Spin:plainOver K u3=true
 os_Spin:PySem.W.findIn K (.ref u3) "__setattr__"=some (some (.builtin "object.__setattr__"))
 om_Spin:PySem.W.makesIn K u3=true
 oq_Spin:keepIn K (.ref u3)=true
 ov_Spin:PySem.W.findIn K (.ref u3) "by"=some none
 oc_Spin:PySem.W.findIn K (.ref u3) "__class__"=some (some (.builtin "object.__class__"))
 ob_Spin:mroIn K u3 (.type "object")=some true
 ok_Spin_Deed:kitOne K (.ref u3) (.ref u0)=some true
 op_TurnLine:PySem.W.plainGet K u4 Str.empty=true
 oh_TurnLine:PySem.W.hasDictIn K u4=true
 oo_TurnLine:plainOver K u4=true
 os_TurnLine:PySem.W.findIn K (.ref u4) "__setattr__"=some (some (.builtin "object.__setattr__"))
 om_TurnLine:PySem.W.makesIn K u4=true
 oq_TurnLine:keepIn K (.ref u4)=true
 ov_TurnLine:PySem.W.findIn K (.ref u4) "line"=some none
 oc_TurnLine:PySem.W.findIn K (.ref u4) "__class__"=some (some (.builtin "object.__class__"))
 ob_TurnLine:mroIn K u4 (.type "object")=some true
 ok_TurnLine_Deed:kitOne K (.ref u4) (.ref u0)=some true
 xg:specialIn K (.builtin "object.__class__") "__get__"=some (some (.builtin "getset_descriptor.__get__"))
 xt:takesIn K (.builtin "object.__class__")=some true
 fo_NoLine:mroIn K u2 (.type "object")=some true
 fb_NoLine:mroIn K u2 (.type "BaseException")=some true
 fc_NoLine:PySem.W.findIn K (.ref u2) "__class__"=some (some (.builtin "object.__class__"))
 fg_NoLine:PySem.W.findIn K (.ref u2) "__getattribute__"=some (some (.builtin "BaseException.__getattribute__"))
 ft_NoLine:PySem.W.findIn K (.ref u2) "__getattr__"=some none
 m_NoLine_NoLine:mroIn K u2 (.ref u2)=some true
section
variable {K:Frag} {mg:Str->Option Value} {u0 u1 u2 u3 u4:Addr}
theorem Exs.kn (Z:Exs K mg u0 u1 u2 u3 u4):∀c,knX c=true->∃C,mg (Str.ofString c)=some (.ref C):=by
 intro c h;simp only [knX,Bool.or_eq_true,beq_iff_eq] at h
 . subst h;exact ⟨_,Z.a_NoLine⟩
theorem Exs.t_NoLine (Z:Exs K mg u0 u1 u2 u3 u4):Tbl K "NoLine" u2 [.type "ValueError",.type "Exception",.type "BaseException",.type "object"] "ValueError.__new__" Ak:=⟨Z.n_NoLine,.inl Z.q_NoLine,by
 intro c b h;simp only [Ak] at h;by_cases e:c="NoLine"
 . rw [ζ e] at h;cases h;subst e;exact ⟨_,Z.n_NoLine,.inl Z.q_NoLine,Z.m_NoLine_NoLine⟩
 rw [ξ e] at h;cases h⟩
theorem Exs.cl_Mirror (Z:Exs K mg u0 u1 u2 u3 u4):Cls K u1:=⟨Z.op_Mirror,Z.oh_Mirror,Z.oo_Mirror,Z.os_Mirror⟩
theorem Exs.z_Mirror (Z:Exs K mg u0 u1 u2 u3 u4):MkZ K "Mirror" u1:=⟨Z.n_Mirror,rfl,Z.om_Mirror,Z.oi_Mirror,Z.oq_Mirror⟩
theorem Exs.cl_Spin (Z:Exs K mg u0 u1 u2 u3 u4):Cls K u3:=⟨Z.op_Spin,Z.oh_Spin,Z.oo_Spin,Z.os_Spin⟩
theorem Exs.cl_TurnLine (Z:Exs K mg u0 u1 u2 u3 u4):Cls K u4:=⟨Z.op_TurnLine,Z.oh_TurnLine,Z.oo_TurnLine,Z.os_TurnLine⟩
theorem Exs.fl_by (Z:Exs K mg u0 u1 u2 u3 u4):Flds K "by" ["Spin"]:=⟨fun c h=>by rw [List.mem_singleton.mp h];exact ⟨_,Z.n_Spin,Z.cl_Spin,Z.ov_Spin⟩⟩
theorem Exs.fl_line (Z:Exs K mg u0 u1 u2 u3 u4):Flds K "line" ["TurnLine"]:=⟨fun c h=>by rw [List.mem_singleton.mp h];exact ⟨_,Z.n_TurnLine,Z.cl_TurnLine,Z.ov_TurnLine⟩⟩
theorem Exs.bo_Deed (Z:Exs K mg u0 u1 u2 u3 u4):BelO K u0 M7:=⟨Z.xg,Z.xt,by
 intro c b h;simp only [M7] at h;by_cases e:c="Mirror"
 . rw [ζ e] at h;cases h;subst e;exact ⟨_,Z.n_Mirror,Z.cl_Mirror,Z.oc_Mirror,Z.ob_Mirror,Z.ok_Mirror_Deed⟩
 rw [ξ e] at h;by_cases e:c="Spin"
 . rw [ζ e] at h;cases h;subst e;exact ⟨_,Z.n_Spin,Z.cl_Spin,Z.oc_Spin,Z.ob_Spin,Z.ok_Spin_Deed⟩
 rw [ξ e] at h;by_cases e:c="TurnLine"
 . rw [ζ e] at h;cases h;subst e;exact ⟨_,Z.n_TurnLine,Z.cl_TurnLine,Z.oc_TurnLine,Z.ob_TurnLine,Z.ok_TurnLine_Deed⟩
 rw [ξ e] at h;cases h⟩
end
theorem sc_walked:FnScope ["cut","deeds","found","deed"] ["cut","deeds"] (g7 Ad):=fsc
theorem sc_home:FnScope ["cut","deeds","backs","now","deed"] ["cut","deeds"] (g7 Y3):=fsc
theorem yS:FnScope ["thing"] ["thing"] (g7 Ao):=fsc
theorem qN:FnScope ["a","b"] ["a","b"] (g7 Y2):=fsc
theorem sc_is_side:FnScope ["n","p","a","b"] ["n","p"] (g7 Ai):=fsc
theorem xL:FnScope ["thing"] ["thing"] (g7 Ac):=fsc
theorem yR:FnScope ["cut","p"] ["cut","p"] (g7 An):=fsc
theorem zH:FnScope ["cut","p"] ["cut","p"] (g7 Bh):=fsc
theorem zG:FnScope ["cut","p"] ["cut","p"] (g7 Bg):=fsc
theorem sc_rooms:FnScope ["n","lines","tops"] ["n","lines"] (g7 Z3):=fsc
theorem sc_room_under:FnScope ["top","lines","room"] ["top","lines"] (g7 Bf):=fsc
theorem sc_corner_behind:FnScope ["corner","top","lines","ends"] ["corner","top","lines"] (g7 Bv):=fsc
theorem zo:FnScope ["cut"] ["cut"] (g7 Az):=fsc
theorem sc_thirds:FnScope ["cut","p","both"] ["cut","p"] (g7 Ab):=fsc
theorem sc_spun:FnScope ["cut","by","n"] ["cut","by"] (g7 Y1):=fsc
theorem sc_mirrored:FnScope ["cut","n"] ["cut"] (g7 Am):=fsc
theorem wB:FnScope ["cut","becomes"] ["cut","becomes"] (g7 Z2):=fsc
theorem sc_turned:FnScope ["cut","line","new","kept"] ["cut","line"] (g7 Aa):=fsc
theorem zn:FnScope ["_law_script","_law_k"] ["_law_script","_law_k"] (g7 Ay):=fsc
theorem sc__law_put_on:FnScope ["_law_n","_law_lines","_law_at","_law_moved"] ["_law_n","_law_lines","_law_at"] (g7 Bp):=fsc
theorem sc__law_glued:FnScope ["_law_cells","_law_n","_law_lines","_law_cell"] ["_law_cells"] (g7 Be):=fsc
theorem sc__law_image:FnScope ["_law_cut","_law_by","_law_sign","_law_n","_law_lines","_law_a","_law_b","_law_ends"] ["_law_cut","_law_by","_law_sign"] (g7 Bc):=fsc
theorem sc__law_joined:FnScope ["_law_cut","_law_a","_law_b","_law_low","_law_high"] ["_law_cut","_law_a","_law_b"] (g7 Bo):=fsc
theorem sc__law_turned:FnScope ["_law_cut","_law_line","_law_ends","_law_others","_law_tips","_law_lines"] ["_law_cut","_law_line"] (g7 Bn):=fsc
theorem sc__law_no_line:FnScope ["_law_cut","_law_cell","_law_n","_law_some","_law_line","_law_tips"] ["_law_cut","_law_cell"] (g7 Br):=fsc
theorem zm:FnScope ["_law_cell"] ["_law_cell"] (g7 Ax):=fsc
theorem zl:FnScope ["_law_cut","_law_cell"] ["_law_cut","_law_cell"] (g7 Aw):=fsc
theorem sc__law_deed:FnScope ["_law_cut","_law_cell","_law_made","_law_line","_law_by"] ["_law_cut","_law_cell","_law_made"] (g7 Av):=fsc
theorem sc__law_told:FnScope ["_law_way","_law_cut","_law_deeds","_law_found"] ["_law_way","_law_cut","_law_deeds"] (g7 Au):=fsc
theorem sc_law:FnScope ["_law_script","_law_many","_law_cut","_law_cuts","_law_deeds","_law_made","_law_cell","_law_at","_law_found","_law_backs"] ["_law_script"] (g7 M0):=fsc
theorem zY:FnScope ["self","cut"] ["self","cut"] (g7 Bu):=fsc
theorem zX:FnScope ["self","cut"] ["self","cut"] (g7 Bt):=fsc
theorem zk:FnScope ["self","cut"] ["self","cut"] (g7 At):=fsc
theorem zj:FnScope ["self","cut"] ["self","cut"] (g7 As):=fsc
theorem zQ:FnScope ["self","cut"] ["self","cut"] (g7 Bm):=fsc
theorem zP:FnScope ["self","cut"] ["self","cut"] (g7 Bl):=fsc
section
variable {P:Program} {w:World} {K:Frag} {mg:Str->Option Value} {base:Heap} {f:Addr} {fd:FuncData} {u0 u1 u2 u3 u4:Addr}
theorem yQ (F:Fun K "is_whole" "is_whole" Ao f fd) (T:Txt mg) (Z:Exs K mg u0 u1 u2 u3 u4)  : FnOk P w K mg base (CX1 P w) 1 f fd ["thing"] (spD K mg false V2 1):=
 fnD (k:=0) F yS rfl rfl fun cdv A outer s H E hr=>
  (j8 (n8 (O6 (Cm rfl T.isinstance boot_isinstance (qv 0) (Dr (v:=.ty "int") rfl T.int boot_int rfl)) (M1 (kA (Cm rfl T.isinstance boot_isinstance (qv 0) (Dr (v:=.ty "bool") rfl T.bool boot_bool rfl)))))))
theorem qM (F:Fun K "pair" "pair" Y2 f fd) (T:Txt mg) (Z:Exs K mg u0 u1 u2 u3 u4)  : FnOk P w K mg base (CX1 P w) 1 f fd ["a","b"] (spD K mg false Y4 2):=
 fnD (k:=0) F qN rfl rfl fun cdv A outer s H E hr=>
  (j8 (n8 (Zc (x4 R8 T4 (qv 0) (qv 1) (o7 _)) (t5 (d8 (qv 0) (d8 (qv 1) e9))) (t5 (d8 (qv 1) (d8 (qv 0) e9))))))
theorem yt (F:Fun K "is_side" "is_side" Ai f fd) (T:Txt mg) (Z:Exs K mg u0 u1 u2 u3 u4)  : FnOk P w K mg base (CX1 P w) 1 f fd ["n","p"] (spD K mg false Aj 2):=
 fnD (k:=0) F sc_is_side rfl rfl fun cdv A outer s H E hr=>
  (i8 (sA 2 sc_is_side.nd (qI hr (qv 1) e8))
   (i8 (sA 3 sc_is_side.nd (qI hr (qv 1) e8))
   (i8 (E2 (QW.pt (W1 (x4 R8 T4 (qv 2) e8 (o7 _)) (Fe (x4 y25 Zi (qv 3) (qv 0) (o7 _)))))
    (j8 (n8 Ek))
    E4)
   (j8 (n8 (Ej (C6 (M3 hr.units) M2 (qv 3) (g9 A8 B8 (qv 2) e8) (o7 _)) (M1 (O6 (C6 (M3 hr.units) M2 (qv 2) e8 (o7 _)) (M1 (C6 (M3 hr.units) M2 (qv 3) (g9 y0 y3 (qv 0) e8) (o7 _)))))))))))
theorem zW (F:Fun K "corner_behind" "corner_behind" Bv f fd) (T:Txt mg) (Z:Exs K mg u0 u1 u2 u3 u4)  : FnOk P w K mg base (CX1 P w) 1 f fd ["corner","top","lines"] (spD K mg false Bw 3):=
 fnD (k:=0) F sc_corner_behind rfl rfl fun cdv A outer s H E hr=>
  (i8 (R4 sc_corner_behind.nd (k:=3) rfl rfl (D3 (caps:=["corner","top"]) (ix:=[0,1]) rfl rfl) (by decide +kernel) rfl (z7 (qv 2)) (.one fun _ _ _=>(QW.pt (S3 (tE hr (qI hr (qv 0) e8) (qv 1) (o7 _)) (S3 (x4 y24 Zj (qI hr (qv 0) e8) (qI hr (qv 2) e8) (o7 _)) (Y7 (tN hr (qv 0) (qv 2) (o7 _))))))) (fun _ _ _=>(qI hr (qv 0) e8)))
   (j8 (n8 (kd rfl rfl T.«max» boot_max (qv 3) (g9 A8 B8 (qv 0) e8)))))
theorem zi (F:Fun K "_law_pick" "_law_pick" Ay f fd) (T:Txt mg) (Z:Exs K mg u0 u1 u2 u3 u4)  : FnOk P w K mg base (CX1 P w) 1 f fd ["_law_script","_law_k"] (spD K mg false z0 2):=
 fnD (k:=0) F zn rfl rfl fun cdv A outer s H E hr=>
  (j8 (n8 (qI hr (QE.wk (g9 Z0 Y8 (QE.wk (Gu Lb Kv (qv 0) (V9 (qv 1)) (V9 (g9 A8 B8 (qv 1) e8)))) (QE.wk (y8 (d8 e8 e9))))) e8)))
theorem zO (F:Fun K "_law_put_on" "_law_put_on" Bp f fd) (T:Txt mg) (Z:Exs K mg u0 u1 u2 u3 u4)  : FnOk P w K mg base (CX1 P w) 1 f fd ["_law_n","_law_lines","_law_at"] (spD K mg true Bq 3):=
 fnD (k:=0) F sc__law_put_on rfl rfl fun cdv A outer s H E hr=>
  (i8 (y2n sc__law_put_on.nd (k:=3) rfl rfl (D3 (caps:=["_law_at"]) (ix:=[2]) rfl rfl) (by decide +kernel) rfl rfl (z7 (qv 1)) .nil (fun _ _ _=>(t5 (d8 (g9 A8 B8 (qv 0) (G6 Ob Qj rfl T.int boot_int (d8 (C6 Ce Df (qv 0) (qv 2) (o7 _)) e9))) (d8 (g9 A8 B8 (qv 1) (G6 Ob Qj rfl T.int boot_int (d8 (C6 Ce Df (qv 1) (qv 2) (o7 _)) e9))) e9)))))
   (i8 (E2 (tE hr (qv 2) (g9 y0 y3 (qv 0) e8) (o7 _))
    (j8 (n8 (g9 Z0 Y8 (qv 3) (QE.wk (y8 (d8 (t5 (d8 e8 (d8 (g9 y0 y3 (qv 0) e8) e9))) e9))))))
    E4)
   (j8 (n8 (g9 Z0 Y8 (qv 3) (QE.wk (y8 (d8 (t5 (d8 (qv 2) (d8 (g9 A8 B8 (qv 2) e8) e9))) e9))))))))
theorem zF (F:Fun K "_law_image" "_law_image" Bc f fd) (T:Txt mg) (Z:Exs K mg u0 u1 u2 u3 u4)  : FnOk P w K mg base (CX1 P w) 1 f fd ["_law_cut","_law_by","_law_sign"] (spD K mg false V4 3):=
 fnD (k:=0) F sc__law_image rfl rfl fun cdv A outer s H E hr=>
  (i8 (sA 3 sc__law_image.nd (qI hr (qv 0) e8))
   (i8 (sA 4 sc__law_image.nd (y8 e9))
   (i8 (Cl PassesOwn.leaving rfl (z7 (qI hr (qv 0) e8)) (g_t rfl (Sq (i:=5) sc__law_image.nd rfl (Or.inl rfl) (Sq (i:=6) sc__law_image.nd rfl (Or.inl rfl) ko)))
    (i8 (sA 7 sc__law_image.nd (y8 (d8 (g9 v7 v8 (g9 A8 B8 (g9 Jg Kg (qv 2) (qv 5)) (qv 1)) (qv 3)) (d8 (g9 v7 v8 (g9 A8 B8 (g9 Jg Kg (qv 2) (qv 6)) (qv 1)) (qv 3)) e9))))
   (j8 (X7 PySem.F.plainAttrs_list PySem.F.slot_list_append PySem.F.type_list_append V1 Y6 U1 (pw 4) (d8 (t5 (d8 (A5 (kg rfl) vq rfl T.«min» boot_min (d8 (qv 7) e9)) (d8 (A5 (kh rfl) vt rfl T.«max» boot_max (d8 (qv 7) e9)) e9))) e9)))))
   (j8 (n8 (t5 (d8 (qv 3) (d8 (G6 U8 U7 rfl T.tuple boot_tuple (d8 (QE.wk (A5 (T9 rfl hr.units) U4 rfl T.sorted boot_sorted (d8 (qv 4) e9))) e9)) e9))))))))
theorem zN (F:Fun K "_law_joined" "_law_joined" Bo f fd) (T:Txt mg) (Z:Exs K mg u0 u1 u2 u3 u4)  : FnOk P w K mg base (CX1 P w) 1 f fd ["_law_cut","_law_a","_law_b"] (spD K mg false V5 3):=
 fnD (k:=0) F sc__law_joined rfl rfl fun cdv A outer s H E hr=>
  (i8 (sA 3 sc__law_joined.nd (A5 (kK rfl) vw rfl T.«min» boot_min (d8 (qv 1) (d8 (qv 2) e9))))
   (i8 (sA 4 sc__law_joined.nd (A5 (kL rfl) vx rfl T.«max» boot_max (d8 (qv 1) (d8 (qv 2) e9))))
   (j8 (n8 (Ej (C6 (M3 hr.units) M2 (g9 y0 y3 (qv 4) (qv 3)) e8 (o7 _)) (Ej (C6 (M3 hr.units) M2 (t5 (d8 (qv 3) (d8 (qv 4) e9))) (t5 (d8 e8 (d8 (g9 y0 y3 (qI hr (qv 0) e8) e8) e9))) (o7 _)) (M1 (C6 (Ff hr.units) S5 (t5 (d8 (qv 3) (d8 (qv 4) e9))) (qI hr (qv 0) e8) (by with_unfolding_all rfl)))))))))
theorem zh (F:Fun K "_law_wide" "_law_wide" Ax f fd) (T:Txt mg) (Z:Exs K mg u0 u1 u2 u3 u4)  : FnOk P w K mg base (CX1 P w) 1 f fd ["_law_cell"] (spD K mg false Q4 1):=
 fnD (k:=0) F zm rfl rfl fun cdv A outer s H E hr=>
  (i8 (E2 (tE hr (g9 v7 v8 (qv 0) e8) e8 (o7 _))
    (j8 (n8 (g9 y0 y3 (g9 v7 v8 (g9 K1 J9 (qv 0) e8) e8) e8)))
    E4)
   (j8 (n8 (g9 A8 B8 (g9 y0 y3 (g9 v7 v8 (g9 K1 J9 (qv 0) e8) (g9 y0 y3 (g9 Jg Kg e8 (g9 Jf Kf e8 e8)) e8)) (g9 Jf Kf e8 e8)) e8))))
theorem xK (F:Fun K "is_two" "is_two" Ac f fd) (T:Txt mg) (Z:Exs K mg u0 u1 u2 u3 u4) (G_is_whole:i0 P w K mg base "is_whole" ["thing"] 1 (spD K mg false V2 1)):FnOk P w K mg base (CX1 P w) 2 f fd ["thing"] (spD K mg false Q0 1):=
 fnD (k:=1) F xL rfl rfl fun cdv A outer s H E hr=>
  (j8 (n8 (O6 (Cm rfl T.isinstance boot_isinstance (qv 0) (Dr (v:=.ty "tuple") rfl T.tuple boot_tuple rfl)) (O6 (C6 (M3 hr.units) M2 (qL T.len (qv 0)) e8 (o7 _)) (O6 (n9 m8 G_is_whole hr rfl (d8 (qI hr (qv 0) e8) e9)) (M1 (n9 m8 G_is_whole hr rfl (d8 (qI hr (qv 0) e8) e9))))))))
theorem zE (F:Fun K "room_under" "room_under" Bf f fd) (T:Txt mg) (Z:Exs K mg u0 u1 u2 u3 u4) (G_corner_behind:i0 P w K mg base "corner_behind" ["corner","top","lines"] 1 (spD K mg false Bw 3)):FnOk P w K mg base (CX1 P w) 2 f fd ["top","lines"] (spD K mg false Bj 2):=
 fnD (k:=1) F sc_room_under rfl rfl fun cdv A outer s H E hr=>
  (i8 (sA 2 sc_room_under.nd (y8 (d8 (qI hr (qv 0) e8) e9)))
   (i8 (vv (n:=1000) PassesOwn.leaving (x4 R8 T4 (qI hr (qv 2) (N7 O8 P5 e8)) (qI hr (qv 0) e8) (o7 _))
    (j8 (X7 PySem.F.plainAttrs_list PySem.F.slot_list_append PySem.F.type_list_append V1 Y6 U1 (pw 2) (d8 (n9 m8 G_corner_behind hr rfl (d8 (qI hr (qv 2) (N7 O8 P5 e8)) (d8 (qv 0) (d8 (qv 1) e9)))) e9))))
   (j8 (n8 (G6 U8 U7 rfl T.tuple boot_tuple (d8 (qv 2) e9))))))
theorem wA (F:Fun K "image" "image" Z2 f fd) (T:Txt mg) (Z:Exs K mg u0 u1 u2 u3 u4) (G_pair:i0 P w K mg base "pair" ["a","b"] 1 (spD K mg false Y4 2)):FnOk P w K mg base (CX1 P w) 2 f fd ["cut","becomes"] (spD K mg false P7 2):=
 fnD (k:=1) F wB rfl rfl fun cdv A outer s H E hr=>
  (j8 (n8 (t5 (d8 (qI hr (qv 0) e8) (d8 (G6 U8 U7 rfl T.tuple boot_tuple (d8 (QE.wk (A5 (T9 rfl hr.units) U4 rfl T.sorted boot_sorted (d8 (QE.wk (y2m (D3 (caps:=["becomes"]) (ix:=[1]) rfl rfl) (by decide +kernel) rfl rfl (z7 (qI hr (qv 0) e8)) .nil (fun _ _ _=>(n9 N9 G_pair hr rfl (d8 (qI hr (qv 2) (qv 0)) (d8 (qI hr (qv 2) (qv 1)) e9)))))) e9))) e9)) e9)))))
theorem zC (F:Fun K "_law_glued" "_law_glued" Be f fd) (T:Txt mg) (Z:Exs K mg u0 u1 u2 u3 u4) (G__law_put_on:i0 P w K mg base "_law_put_on" ["_law_n","_law_lines","_law_at"] 1 (spD K mg true Bq 3)):FnOk P w K mg base (CX1 P w) 2 f fd ["_law_cells"] (spD K mg false V3 1):=
 fnD (k:=1) F sc__law_glued rfl rfl fun cdv A outer s H E hr=>
  (i8 (sA 1 sc__law_glued.nd e8)
   (i8 (sA 2 sc__law_glued.nd (y8 e9))
   (i8 (Cl PassesOwn.leaving rfl (z7 (qv 0)) (g_n (i:=3) sc__law_glued.nd rfl (Or.inl rfl))
    (i8 (sA 2 sc__law_glued.nd (n9 m8 G__law_put_on hr rfl (d8 (qv 1) (d8 (qv 2) (d8 (g9 v7 v8 (qv 3) (qv 1)) e9)))))
   (j8 (sA 1 sc__law_glued.nd (g9 A8 B8 (qv 1) e8)))))
   (j8 (n8 (t5 (d8 (qv 1) (d8 (G6 U8 U7 rfl T.tuple boot_tuple (d8 (QE.wk (A5 (T9 rfl hr.units) U4 rfl T.sorted boot_sorted (d8 (qv 2) e9))) e9)) e9))))))))
theorem zM (F:Fun K "_law_turned" "_law_turned" Bn f fd) (T:Txt mg) (Z:Exs K mg u0 u1 u2 u3 u4) (G__law_joined:i0 P w K mg base "_law_joined" ["_law_cut","_law_a","_law_b"] 1 (spD K mg false V5 3)):FnOk P w K mg base (CX1 P w) 2 f fd ["_law_cut","_law_line"] (spD K mg false Q6 2):=
 fnD (k:=1) F sc__law_turned rfl rfl fun cdv A outer s H E hr=>
  (i8 (sA 2 sc__law_turned.nd (y8 (d8 (qI hr (qv 1) e8) (d8 (qI hr (qv 1) e8) e9))))
   (i8 (R4 sc__law_turned.nd (k:=3) rfl rfl (D3 (caps:=["_law_ends"]) (ix:=[2]) rfl rfl) (by decide +kernel) rfl (Gs rfl T.range (d8 (qI hr (qv 0) e8) e9)) (.one fun _ _ _=>(x4 (Lo hr.units) S5 (qv 0) (qv 1) (by with_unfolding_all rfl))) (fun _ _ _=>(qv 0)))
   (i8 (R4 sc__law_turned.nd (k:=4) rfl rfl (D3 (caps:=["_law_cut","_law_line"]) (ix:=[0,1]) rfl rfl) (by decide +kernel) rfl (z7 (qv 3)) (.one fun _ _ _=>(QW.pt (S3 (S4 (n9 N9 G__law_joined hr rfl (d8 (qv 1) (d8 (qv 0) (d8 (qI hr (qv 2) e8) e9))))) (Y7 (S4 (n9 N9 G__law_joined hr rfl (d8 (qv 1) (d8 (qv 0) (d8 (qI hr (qv 2) e8) e9))))))))) (fun _ _ _=>(qv 0)))
   (i8 (R4 sc__law_turned.nd (k:=5) rfl rfl (D3 (caps:=["_law_line"]) (ix:=[1]) rfl rfl) (by decide +kernel) rfl (z7 (qI hr (qv 0) e8)) (.one fun _ _ _=>(tN hr (qv 0) (qv 1) (o7 _))) (fun _ _ _=>(qv 0)))
   (j8 (n8 (t5 (d8 (qI hr (qv 0) e8) (d8 (G6 U8 U7 rfl T.tuple boot_tuple (d8 (QE.wk (A5 (T9 rfl hr.units) U4 rfl T.sorted boot_sorted (d8 (QE.wk (g9 Z0 Y8 (qv 5) (QE.wk (y8 (d8 (t5 (d8 (qI hr (qv 4) e8) (d8 (qI hr (qv 4) e8) e9))) e9))))) e9))) e9)) e9)))))))))
theorem yP (F:Fun K "has_pair" "has_pair" An f fd) (T:Txt mg) (Z:Exs K mg u0 u1 u2 u3 u4) (G_is_side:i0 P w K mg base "is_side" ["n","p"] 1 (spD K mg false Aj 2)) (G_is_two:i0 P w K mg base "is_two" ["thing"] 2 (spD K mg false Q0 1)):FnOk P w K mg base (CX1 P w) 3 f fd ["cut","p"] (spD K mg false Aq 2):=
 fnD (k:=2) F yR rfl rfl fun cdv A outer s H E hr=>
  (j8 (n8 (O6 (n9 m8 G_is_two hr rfl (d8 (qv 1) e9)) (M1 (Ej (n9 m8 G_is_side hr rfl (d8 (qI hr (qv 0) e8) (d8 (qv 1) e9))) (M1 (C6 (Ff hr.units) S5 (qv 1) (qI hr (qv 0) e8) (by with_unfolding_all rfl))))))))
theorem zB (F:Fun K "check_line" "check_line" Bh f fd) (T:Txt mg) (Z:Exs K mg u0 u1 u2 u3 u4) (G_is_two:i0 P w K mg base "is_two" ["thing"] 2 (spD K mg false Q0 1)):FnOk P w K mg base (CX1 P w) 3 f fd ["cut","p"] (spD K mg false Q5 2):=
 fnD (k:=2) F zH rfl rfl fun cdv A outer s H E hr=>
  (j8 (E2 (QW.pt (W1 (Co (S4 (n9 m8 G_is_two hr rfl (d8 (qv 1) e9)))) (Fe (x4 (Lo hr.units) S5 (qv 1) (qI hr (qv 0) e8) (by with_unfolding_all rfl)))))
   (j8 (Sf (c:="NoLine") m8 PySem.F.excBase_ValueError rfl rfl Z.a_NoLine Z.q_NoLine (d8 Cp e9)))
   E4))
theorem wz (F:Fun K "rooms" "rooms" Z3 f fd) (T:Txt mg) (Z:Exs K mg u0 u1 u2 u3 u4) (G_room_under:i0 P w K mg base "room_under" ["top","lines"] 2 (spD K mg false Bj 2)):FnOk P w K mg base (CX1 P w) 3 f fd ["n","lines"] (spD K mg true Z6 2):=
 fnD (k:=2) F sc_rooms rfl rfl fun cdv A outer s H E hr=>
  (i8 (sA 2 sc_rooms.nd (g9 Z0 Y8 (QE.wk (y8 (d8 (t5 (d8 e8 (d8 (g9 y0 y3 (qv 0) e8) e9))) e9))) (QE.wk (G6 Su Ss rfl T.list boot_list (d8 (qv 1) e9)))))
   (j8 (n8 (A5 (T9 rfl hr.units) U4 rfl T.sorted boot_sorted (d8 (QE.wk (By (D3 (caps:=["lines"]) (ix:=[1]) rfl rfl) (by decide +kernel) rfl (z7 (qv 2)) .nil (fun _ _ _=>(n9 N9 G_room_under hr rfl (d8 (qv 0) (d8 (qv 1) e9)))))) e9)))))
theorem Rm (F:FunD K "spun" "spun" Y1 dV f fd) (T:Txt mg) (Z:Exs K mg u0 u1 u2 u3 u4) (G_image:i0 P w K mg base "image" ["cut","becomes"] 2 (spD K mg false P7 2)):FnOk P w K mg base (CX1 P w) 3 f fd ["cut","by"] (spD K mg false P0 2):=
 y2v (k:=2) F sc_spun rfl rfl fun cdv A outer s H E hr=>
  (i8 (sA 2 sc_spun.nd (qI hr (qv 0) e8))
   (j8 (n8 (n9 m8 G_image hr rfl (d8 (qv 0) (d8 (QE.wk (By (D3 (caps:=["n","by"]) (ix:=[2,1]) rfl rfl) (by decide +kernel) rfl (Gs rfl T.range (d8 (qv 2) e9)) .nil (fun _ _ _=>(g9 v7 v8 (g9 A8 B8 (qv 0) (qv 2)) (qv 1))))) e9))))))
theorem yO (F:Fun K "mirrored" "mirrored" Am f fd) (T:Txt mg) (Z:Exs K mg u0 u1 u2 u3 u4) (G_image:i0 P w K mg base "image" ["cut","becomes"] 2 (spD K mg false P7 2)):FnOk P w K mg base (CX1 P w) 3 f fd ["cut"] (spD K mg false Ap 1):=
 fnD (k:=2) F sc_mirrored rfl rfl fun cdv A outer s H E hr=>
  (i8 (sA 1 sc_mirrored.nd (qI hr (qv 0) e8))
   (j8 (n8 (n9 m8 G_image hr rfl (d8 (qv 0) (d8 (QE.wk (By (D3 (caps:=["n"]) (ix:=[1]) rfl rfl) (by decide +kernel) rfl (Gs rfl T.range (d8 (qv 1) e9)) .nil (fun _ _ _=>(g9 v7 v8 (g9 y0 y3 (qv 1) (qv 0)) (qv 1))))) e9))))))
theorem zg (F:Fun K "back" "Spin.back" As f fd) (T:Txt mg) (Z:Exs K mg u0 u1 u2 u3 u4)  (O_Spin:MkO P w K mg base "Spin" u3 ["by"] 1):FnOk P w K mg base (CX1 P w) 3 f fd ["self","cut"] (spD K mg false Ea 2):=
 fnD (k:=2) F zj rfl rfl fun cdv A outer s H E hr=>
  (j8 (n8 (Da (c:="Spin") m8 O_Spin hr rfl Z.a_Spin (d8 (N7 O8 P5 (Fn (f:="by") (qv 0) Z.fl_by)) e9))))
theorem zL (F:Fun K "back" "Mirror.back" Bl f fd) (T:Txt mg) (Z:Exs K mg u0 u1 u2 u3 u4)  : FnOk P w K mg base (CX1 P w) 3 f fd ["self","cut"] (spD K mg false Ec 2):=
 fnD (k:=2) F zP rfl rfl fun cdv A outer s H E hr=>
  (j8 (n8 (Ry (c:="Mirror") Z.z_Mirror rfl Z.a_Mirror)))
theorem zS (F:Fun K "_law_no_line" "_law_no_line" Br f fd) (T:Txt mg) (Z:Exs K mg u0 u1 u2 u3 u4) (G__law_turned:i0 P w K mg base "_law_turned" ["_law_cut","_law_line"] 2 (spD K mg false Q6 2)):FnOk P w K mg base (CX1 P w) 3 f fd ["_law_cut","_law_cell"] (spD K mg false K8 2):=
 fnD (k:=2) F sc__law_no_line rfl rfl fun cdv A outer s H E hr=>
  (i8 (sA 2 sc__law_no_line.nd (qI hr (qv 0) e8))
   (i8 (sA 3 sc__law_no_line.nd (y8 (d8 (t5 (d8 e8 (d8 e8 e9))) (d8 (t5 (d8 e8 (d8 (g9 y0 y3 (qv 2) e8) e9))) (d8 (t5 (d8 e8 (d8 e8 e9))) (d8 (t5 (d8 e8 (d8 (g9 A8 B8 (qv 2) (g9 v7 v8 (g9 K1 J9 (qv 1) e8) (g9 Jf Kf e8 e8))) e9))) (d8 (t5 (d8 (g9 y0 y3 (qv 2) e8) (d8 e8 e9))) e9)))))))
   (i8 (E2 (QW.pt (S3 (x4 Ce Df (qv 2) e8 (o7 _)) (Y7 (tE hr (g9 v7 v8 (qv 1) e8) e8 (o7 _)))))
    (i8 (sA 4 sc__law_no_line.nd (qI hr (qI hr (qv 0) e8) (g9 v7 v8 (g9 K1 J9 (qv 1) e8) (g9 y0 y3 (qv 2) e8))))
   (i8 (R4 sc__law_no_line.nd (k:=5) rfl rfl (D3 (caps:=["_law_cut"]) (ix:=[0]) rfl rfl) (by decide +kernel) rfl (z7 (qI hr (n9 m8 G__law_turned hr rfl (d8 (qv 0) (d8 (qv 4) e9))) e8)) (.one fun _ _ _=>(x4 (Lo hr.units) S5 (qv 0) (qI hr (qv 1) e8) (by with_unfolding_all rfl))) (fun _ _ _=>(qv 0)))
   (j8 (n8 (qI hr (qv 5) e8)))))
    E4)
   (j8 (n8 (qI hr (qv 3) (g9 v7 v8 (qv 1) e8)))))))
theorem zf (F:Fun K "_law_next" "_law_next" Aw f fd) (T:Txt mg) (Z:Exs K mg u0 u1 u2 u3 u4) (G__law_image:i0 P w K mg base "_law_image" ["_law_cut","_law_by","_law_sign"] 1 (spD K mg false V4 3)) (G__law_turned:i0 P w K mg base "_law_turned" ["_law_cut","_law_line"] 2 (spD K mg false Q6 2)) (G__law_wide:i0 P w K mg base "_law_wide" ["_law_cell"] 1 (spD K mg false Q4 1)):FnOk P w K mg base (CX1 P w) 3 f fd ["_law_cut","_law_cell"] (spD K mg false Q3 2):=
 fnD (k:=2) F zl rfl rfl fun cdv A outer s H E hr=>
  (i8 (E2 (QW.pt (S3 (x4 R8 T4 (g9 v7 v8 (qv 1) e8) e8 (o7 _)) (Y7 (x4 Ce Df (qI hr (qv 0) e8) e8 (o7 _)))))
    (j8 (n8 (n9 m8 G__law_turned hr rfl (d8 (qv 0) (d8 (qI hr (qI hr (qv 0) e8) (g9 v7 v8 (g9 K1 J9 (qv 1) e8) (g9 y0 y3 (qI hr (qv 0) e8) e8))) e9)))))
    E4)
   (i8 (E2 (x4 R8 T4 (g9 v7 v8 (qv 1) e8) e8 (o7 _))
    (j8 (n8 (n9 m8 G__law_image hr rfl (d8 (qv 0) (d8 (n9 m8 G__law_wide hr rfl (d8 (g9 K1 J9 (qv 1) e8) e9)) (d8 e8 e9))))))
    E4)
   (j8 (n8 (n9 m8 G__law_image hr rfl (d8 (qv 0) (d8 e8 (d8 (N7 O8 P5 e8) e9))))))))
theorem ze (F:Fun K "_law_deed" "_law_deed" Av f fd) (T:Txt mg) (Z:Exs K mg u0 u1 u2 u3 u4) (G__law_wide:i0 P w K mg base "_law_wide" ["_law_cell"] 1 (spD K mg false Q4 1)) (O_Spin:MkO P w K mg base "Spin" u3 ["by"] 1)  (O_TurnLine:MkO P w K mg base "TurnLine" u4 ["line"] 1):FnOk P w K mg base (CX1 P w) 3 f fd ["_law_cut","_law_cell","_law_made"] (spP K (K6 (hashStr w)) 2):=
 fnP (k:=2) F sc__law_deed rfl rfl fun cdv A outer s H E hr=>
  (Fx (Xp (QW.pt (S3 (x4 R8 T4 (g9 v7 v8 (qv 1) e8) e8 (o7 _)) (Y7 (x4 Ce Df (qI hr (qv 0) e8) e8 (o7 _)))))
    (Fx (Nl (i:=3) (by decide) sc__law_deed.nd rfl (Or.inl rfl) (qI hr (qI hr (qv 0) e8) (g9 v7 v8 (g9 K1 J9 (qv 1) e8) (g9 y0 y3 (qI hr (qv 0) e8) e8))))
   (Js (Hr (m:=[false,false,false,true]) hr.units (by decide) (pw 2) (d8 (t5 (d8 Cp (d8 (qv 3) e9))) (d8 (Da (c:="TurnLine") N9 O_TurnLine hr rfl Z.a_TurnLine (d8 (qv 3) e9)) e9)))))
    Pp)
   (Fx (Xp (x4 R8 T4 (g9 v7 v8 (qv 1) e8) e8 (o7 _))
    (Fx (Nl (i:=4) (by decide) sc__law_deed.nd rfl (Or.inl rfl) (n9 N9 G__law_wide hr rfl (d8 (g9 K1 J9 (qv 1) e8) e9)))
   (Js (Hr (m:=[false,false,false,false,true]) hr.units (by decide) (pw 2) (d8 (t5 (d8 Cp (d8 (qv 4) e9))) (d8 (Da (c:="Spin") N9 O_Spin hr rfl Z.a_Spin (d8 (qv 4) e9)) e9)))))
    Pp)
   (Js (Hr (m:=[]) hr.units (by decide) (pw 2) (d8 (t5 (d8 Cp (d8 e8 e9))) (d8 (Ry (c:="Mirror") Z.z_Mirror rfl Z.a_Mirror) e9))))))
theorem zA (F:Fun K "check_pair" "check_pair" Bg f fd) (T:Txt mg) (Z:Exs K mg u0 u1 u2 u3 u4) (G_has_pair:i0 P w K mg base "has_pair" ["cut","p"] 3 (spD K mg false Aq 2)):FnOk P w K mg base (CX1 P w) 4 f fd ["cut","p"] (spD K mg false Bi 2):=
 fnD (k:=3) F zG rfl rfl fun cdv A outer s H E hr=>
  (j8 (E2 (Co (S4 (n9 m8 G_has_pair hr rfl (d8 (qv 0) (d8 (qv 1) e9)))))
   (j8 (Sf (c:="NoLine") m8 PySem.F.excBase_ValueError rfl rfl Z.a_NoLine Z.q_NoLine (d8 Cp e9)))
   E4))
theorem zd (F:Fun K "triangles" "triangles" Az f fd) (T:Txt mg) (Z:Exs K mg u0 u1 u2 u3 u4) (G_rooms:i0 P w K mg base "rooms" ["n","lines"] 3 (spD K mg true Z6 2)):FnOk P w K mg base (CX1 P w) 4 f fd ["cut"] (spD K mg true Ba 1):=
 fnD (k:=3) F zo rfl rfl fun cdv A outer s H E hr=>
  (j8 (n8 (n9 m8 G_rooms hr rfl (d8 (qI hr (qv 0) e8) (d8 (qI hr (qv 0) e8) e9)))))
theorem zc (F:Fun K "done" "Spin.done" At f fd) (T:Txt mg) (Z:Exs K mg u0 u1 u2 u3 u4) (G_spun:i0 P w K mg base "spun" ["cut","by"] 3 (spD K mg false P0 2)) (GD_spun:Xq P w K mg base "spun" ["cut","by"] 3 (spD K mg false P0 2) 1):FnOk P w K mg base (CX1 P w) 4 f fd ["self","cut"] (spD K mg false Dz 2):=
 fnD (k:=3) F zk rfl rfl fun cdv A outer s H E hr=>
  (j8 (n8 (n9 m8 G_spun hr rfl (d8 (qv 1) (d8 (Fn (f:="by") (qv 0) Z.fl_by) e9)))))
theorem zK (F:Fun K "done" "Mirror.done" Bm f fd) (T:Txt mg) (Z:Exs K mg u0 u1 u2 u3 u4) (G_mirrored:i0 P w K mg base "mirrored" ["cut"] 3 (spD K mg false Ap 1)):FnOk P w K mg base (CX1 P w) 4 f fd ["self","cut"] (spD K mg false Eb 2):=
 fnD (k:=3) F zQ rfl rfl fun cdv A outer s H E hr=>
  (j8 (n8 (n9 m8 G_mirrored hr rfl (d8 (qv 1) e9))))
theorem xJ (F:Fun K "thirds" "thirds" Ab f fd) (T:Txt mg) (Z:Exs K mg u0 u1 u2 u3 u4) (G_check_pair:i0 P w K mg base "check_pair" ["cut","p"] 4 (spD K mg false Bi 2)) (G_triangles:i0 P w K mg base "triangles" ["cut"] 4 (spD K mg true Ba 1)):FnOk P w K mg base (CX1 P w) 5 f fd ["cut","p"] (spD K mg true U3 2):=
 fnD (k:=4) F sc_thirds rfl rfl fun cdv A outer s H E hr=>
  (i8 (Qh (n9 m8 G_check_pair hr rfl (d8 (qv 0) (d8 (qv 1) e9))))
   (i8 (R4 sc_thirds.nd (k:=2) rfl rfl (D3 (caps:=["p"]) (ix:=[1]) rfl rfl) (by decide +kernel) rfl (z7 (QE.wk (n9 m8 G_triangles hr rfl (d8 (qv 0) e9)))) (.one fun _ _ _=>(QW.pt (S3 (x4 (Ff hr.units) S5 (qI hr (qv 1) e8) (qv 0) (by with_unfolding_all rfl)) (Y7 (x4 (Ff hr.units) S5 (qI hr (qv 1) e8) (qv 0) (by with_unfolding_all rfl)))))) (fun _ _ _=>(qv 0)))
   (j8 (n8 (A5 (T9 rfl hr.units) U4 rfl T.sorted boot_sorted (d8 (QE.wk (By (D3 (caps:=["p"]) (ix:=[1]) rfl rfl) (by decide +kernel) rfl (z7 (qv 2)) .nil (fun _ _ _=>(g9 y0 y3 (A5 (Oc rfl) Qk rfl T.sum boot_sum (d8 (qv 0) e9)) (A5 (Oc rfl) Qk rfl T.sum boot_sum (d8 (qv 1) e9)))))) e9))))))
theorem xI (F:Fun K "turned" "turned" Aa f fd) (T:Txt mg) (Z:Exs K mg u0 u1 u2 u3 u4) (G_check_line:i0 P w K mg base "check_line" ["cut","p"] 3 (spD K mg false Q5 2)) (G_thirds:i0 P w K mg base "thirds" ["cut","p"] 5 (spD K mg true U3 2)):FnOk P w K mg base (CX1 P w) 6 f fd ["cut","line"] (spD K mg false K3 2):=
 fnD (k:=5) F sc_turned rfl rfl fun cdv A outer s H E hr=>
  (i8 (Qh (n9 m8 G_check_line hr rfl (d8 (qv 0) (d8 (qv 1) e9))))
   (i8 (sA 2 sc_turned.nd (G6 U8 U7 rfl T.tuple boot_tuple (d8 (QE.wk (n9 m8 G_thirds hr rfl (d8 (qv 0) (d8 (qv 1) e9)))) e9)))
   (i8 (R4 sc_turned.nd (k:=3) rfl rfl (D3 (caps:=["line"]) (ix:=[1]) rfl rfl) (by decide +kernel) rfl (z7 (qI hr (qv 0) e8)) (.one fun _ _ _=>(tN hr (qv 0) (qv 1) (o7 _))) (fun _ _ _=>(qv 0)))
   (j8 (n8 (t5 (d8 (t5 (d8 (qI hr (qv 0) e8) (d8 (G6 U8 U7 rfl T.tuple boot_tuple (d8 (QE.wk (A5 (T9 rfl hr.units) U4 rfl T.sorted boot_sorted (d8 (QE.wk (g9 Z0 Y8 (qv 3) (QE.wk (y8 (d8 (qv 2) e9))))) e9))) e9)) e9))) (d8 (qv 2) e9))))))))
theorem zV (F:Fun K "done" "TurnLine.done" Bu f fd) (T:Txt mg) (Z:Exs K mg u0 u1 u2 u3 u4) (G_turned:i0 P w K mg base "turned" ["cut","line"] 6 (spD K mg false K3 2)):FnOk P w K mg base (CX1 P w) 7 f fd ["self","cut"] (spD K mg false V7 2):=
 fnD (k:=6) F zY rfl rfl fun cdv A outer s H E hr=>
  (j8 (n8 (qI hr (n9 m8 G_turned hr rfl (d8 (qv 1) (d8 (Fn (f:="line") (qv 0) Z.fl_line) e9))) e8)))
theorem zU (F:Fun K "back" "TurnLine.back" Bt f fd) (T:Txt mg) (Z:Exs K mg u0 u1 u2 u3 u4) (G_turned:i0 P w K mg base "turned" ["cut","line"] 6 (spD K mg false K3 2)) (O_TurnLine:MkO P w K mg base "TurnLine" u4 ["line"] 1):FnOk P w K mg base (CX1 P w) 7 f fd ["self","cut"] (spD K mg false V6 2):=
 fnD (k:=6) F zX rfl rfl fun cdv A outer s H E hr=>
  (j8 (n8 (Da (c:="TurnLine") m8 O_TurnLine hr rfl Z.a_TurnLine (d8 (qI hr (n9 m8 G_turned hr rfl (d8 (qv 1) (d8 (Fn (f:="line") (qv 0) Z.fl_line) e9))) e8) e9))))
theorem xH (F:Fun K "walked" "walked" Ad f fd) (T:Txt mg) (Z:Exs K mg u0 u1 u2 u3 u4)  (M_done:Mths P w K mg base "done" 7 2 z9):FnOk P w K mg base (CX1 P w) 8 f fd ["cut","deeds"] (spD K mg true B9 2):=
 fnD (k:=7) F sc_walked rfl rfl fun cdv A outer s H E hr=>
  (i8 (sA 2 sc_walked.nd (y8 (d8 (qv 0) e9)))
   (i8 (Cl PassesOwn.leaving rfl (z7 (qv 1)) (g_n (i:=3) sc_walked.nd rfl (Or.inl rfl))
    (j8 (X7 PySem.F.plainAttrs_list PySem.F.slot_list_append PySem.F.type_list_append V1 Y6 U1 (pw 2) (d8 (Jt m8 M_done hr (qv 3) (d8 (qI hr (qv 2) (N7 O8 P5 e8)) e9)) e9))))
   (j8 (kq (i:=2)))))
theorem qK (F:Fun K "home" "home" Y3 f fd) (T:Txt mg) (Z:Exs K mg u0 u1 u2 u3 u4)  (M_back:Mths P w K mg base "back" 7 2 B6)  (M_done:Mths P w K mg base "done" 7 2 z9):FnOk P w K mg base (CX1 P w) 8 f fd ["cut","deeds"] (spD K mg true B5 2):=
 fnD (k:=7) F sc_home rfl rfl fun cdv A outer s H E hr=>
  (i8 (sA 2 sc_home.nd (y8 e9))
   (i8 (sA 3 sc_home.nd (qv 0))
   (i8 (Cl PassesOwn.leaving rfl (z7 (qv 1)) (g_n (i:=4) sc_home.nd rfl (Or.inl rfl))
    (i8 (X7 PySem.F.plainAttrs_list PySem.F.slot_list_append PySem.F.type_list_append V1 Y6 U1 (pw 2) (d8 (Jt m8 M_back hr (qv 4) (d8 (qv 3) e9)) e9))
   (j8 (sA 3 sc_home.nd (Jt m8 M_done hr (qv 4) (d8 (qv 3) e9))))))
   (j8 (n8 (Nk rfl rfl T.list rfl T.reversed (qv 2)))))))
theorem zb (F:Fun K "_law_told" "_law_told" Au f fd) (T:Txt mg) (Z:Exs K mg u0 u1 u2 u3 u4) (G_home:i0 P w K mg base "home" ["cut","deeds"] 8 (spD K mg true B5 2)) (G_walked:i0 P w K mg base "walked" ["cut","deeds"] 8 (spD K mg true B9 2)):FnOk P w K mg base (CX1 P w) 9 f fd ["_law_way","_law_cut","_law_deeds"] (spD K mg false p9 3):=
 fnD (k:=8) F sc__law_told rfl rfl fun cdv A outer s H E hr=>
  (i8 (sA 3 sc__law_told.nd (y8 e9))
   (i8 (Yy rfl rfl (y2o (tE hr (qv 0) e8 (o7 _)) (Nq (k:=knX) (i:=3) Z.kn sc__law_told.nd rfl (Or.inl rfl) G_walked hr rfl (d8 (qv 1) (d8 (qv 2) e9))) (Nq (k:=knX) (i:=3) Z.kn sc__law_told.nd rfl (Or.inl rfl) G_home hr rfl (d8 (qv 1) (d8 (qv 2) e9))))
    (y2p (tb:=Ak) Z.t_NoLine (by decide) rfl (fun _=>(j8 (sA 3 sc__law_told.nd Hw))) Yx))
   (j8 (n8 (qv 3)))))
theorem jD (F:Fun K "law" "law" M0 f fd) (T:Txt mg) (Z:Exs K mg u0 u1 u2 u3 u4) (G__law_deed:i0 P w K mg base "_law_deed" ["_law_cut","_law_cell","_law_made"] 3 (spP K (K6 (hashStr w)) 2)) (G__law_glued:i0 P w K mg base "_law_glued" ["_law_cells"] 2 (spD K mg false V3 1)) (G__law_next:i0 P w K mg base "_law_next" ["_law_cut","_law_cell"] 3 (spD K mg false Q3 2)) (G__law_no_line:i0 P w K mg base "_law_no_line" ["_law_cut","_law_cell"] 3 (spD K mg false K8 2)) (G__law_pick:i0 P w K mg base "_law_pick" ["_law_script","_law_k"] 1 (spD K mg false z0 2)) (G__law_told:i0 P w K mg base "_law_told" ["_law_way","_law_cut","_law_deeds"] 9 (spD K mg false p9 3)) (O_TurnLine:MkO P w K mg base "TurnLine" u4 ["line"] 1):FnOk P w K mg base (CX1 P w) 10 f fd ["_law_script"] (spD K mg false (W8 (hashStr w)) 1):=
 fnD (k:=9) F sc_law rfl rfl fun cdv A outer s H E hr=>
  (i8 (sA 1 sc_law.nd (g9 v7 v8 (g9 K1 J9 (n9 m8 G__law_pick hr rfl (d8 (qv 0) (d8 e8 e9))) e8) e8))
   (i8 (sA 2 sc_law.nd (n9 m8 G__law_glued hr rfl (d8 (QE.wk (Gu Lb Kv (qv 0) (V9 e8) (V9 (g9 A8 B8 e8 (qv 1))))) e9)))
   (i8 (sA 3 sc_law.nd (y8 (d8 (qv 2) e9)))
   (i8 (sA 4 sc_law.nd (y8 e9))
   (i8 (sA 5 sc_law.nd jP)
   (i8 (Cl PassesOwn.leaving rfl (z7 (QE.wk (Gu Lb Kv (qv 0) (V9 (g9 A8 B8 e8 (qv 1))) (V9 e8)))) (g_n (i:=6) sc_law.nd rfl (Or.inl rfl))
    (i8 (jM (i:=4) (j:=5) (m:=[false,false,false,true,false,false,true]) (pw 4) G__law_deed hr rfl (qI hr (qv 3) (N7 O8 P5 e8)) (qv 6) (pw 5))
   (j8 (X7 PySem.F.plainAttrs_list PySem.F.slot_list_append PySem.F.type_list_append V1 Y6 U1 (pw 3) (d8 (n9 m8 G__law_next hr rfl (d8 (qI hr (qv 3) (N7 O8 P5 e8)) (d8 (qv 6) e9))) e9)))))
   (i8 (E2 (tE hr (g9 v7 v8 (n9 m8 G__law_pick hr rfl (d8 (qv 0) (d8 e8 e9))) e8) e8 (o7 _))
    (i8 (sA 7 sc_law.nd (g9 v7 v8 (n9 m8 G__law_pick hr rfl (d8 (qv 0) (d8 e8 e9))) (g9 A8 B8 (qL T.len (qv 4)) e8)))
   (i8 (X7 PySem.F.plainAttrs_list PySem.F.slot_list_insert PySem.F.type_list_insert xV ki U1 (pw 4) (d8 (qv 7) (d8 (Da (c:="TurnLine") m8 O_TurnLine hr rfl Z.a_TurnLine (d8 (n9 m8 G__law_no_line hr rfl (d8 (qI hr (qv 3) (qv 7)) (d8 (g9 K1 J9 (n9 m8 G__law_pick hr rfl (d8 (qv 0) (d8 e8 e9))) e8) e9))) e9)) e9)))
   (j8 (n8 (O6 (C6 Qs Qa (n9 m8 G__law_told hr rfl (d8 e8 (d8 (qv 2) (d8 (qv 4) e9)))) Hw (o7 _)) (M1 (C6 Qs Qa (n9 m8 G__law_told hr rfl (d8 e8 (d8 (qv 2) (d8 (QE.wk (G6 Su Ss rfl T.list boot_list (d8 (qv 4) e9))) e9)))) Hw (o7 _))))))))
    E4)
   (i8 (sA 8 sc_law.nd (n9 m8 G__law_told hr rfl (d8 e8 (d8 (qv 2) (d8 (qv 4) e9)))))
   (i8 (E2 (QW.pt (W1 (Co (S4 (Cm rfl T.isinstance boot_isinstance (qv 8) (Dr (v:=.ty "list") rfl T.list boot_list rfl)))) (W1 (tN hr (qv 8) (qv 3) (o7 _)) (Fe (tN hr (qL T.len (qv 4)) (g9 y0 y3 (qL T.len (qv 3)) e8) (o7 _))))))
    (j8 (n8 Ek))
    E4)
   (i8 (sA 9 sc_law.nd (n9 m8 G__law_told hr rfl (d8 e8 (d8 (qv 2) (d8 (qv 4) e9)))))
   (i8 (E2 (QW.pt (W1 (Co (S4 (Cm rfl T.isinstance boot_isinstance (qv 9) (Dr (v:=.ty "list") rfl T.list boot_list rfl)))) (W1 (tN hr (qL T.len (qv 9)) (qL T.len (qv 4)) (o7 _)) (Fe (tN hr (qL T.len (qv 4)) (g9 y0 y3 (qL T.len (qv 3)) e8) (o7 _))))))
    (j8 (n8 Ek))
    E4)
   (i8 (E2 (Co (S4 (A5 (Zu rfl) kr rfl T.«all» boot_all (d8 (QE.wk (By (D3 (caps:=[]) (ix:=[]) rfl rfl) (by decide +kernel) rfl (z7 (qv 9)) .nil (fun _ _ _=>(y0f (tb:=M7) rfl T.isinstance boot_isinstance (qv 0) (wd (v:=.ref u0) rfl Z.a_Deed rfl) Z.bo_Deed)))) e9))))
    (j8 (n8 Ek))
    E4)
   (j8 (n8 (O6 (C6 (M3 hr.units) M2 (n9 m8 G__law_told hr rfl (d8 e8 (d8 (qI hr (qv 3) (N7 O8 P5 e8)) (d8 (qv 9) e9)))) (QE.wk (Nk rfl rfl T.list rfl T.reversed (qv 3))) (o7 _)) (M1 (C6 (M3 hr.units) M2 (n9 m8 G__law_told hr rfl (d8 e8 (d8 (qv 2) (d8 (qv 4) e9)))) (qv 3) (o7 _))))))))))))))))))
end
theorem W7 (h:us.length=1):∃a0,us=[a0]:=by
 rcases us with _ | ⟨a0,us⟩
 . cases h
 cases us with
 | nil=>exact ⟨a0,rfl⟩
 | cons _ _=>simp at h
theorem u6 (h:us.length=2):∃a0 a1,us=[a0,a1]:=by
 rcases us with _ | ⟨a0,us⟩
 . cases h
 rcases us with _ | ⟨a1,us⟩
 . cases h
 cases us with
 | nil=>exact ⟨a0,a1,rfl⟩
 | cons _ _=>simp at h
theorem W6 (h:us.length=3):∃a0 a1 a2,us=[a0,a1,a2]:=by
 rcases us with _ | ⟨a0,us⟩
 . cases h
 rcases us with _ | ⟨a1,us⟩
 . cases h
 rcases us with _ | ⟨a2,us⟩
 . cases h
 cases us with
 | nil=>exact ⟨a0,a1,a2,rfl⟩
 | cons _ _=>simp at h
theorem all_mk {l:PySem.W.OpenLaw} {w:World} {K:Frag} {h:Heap} {mg:Str->Option Value} {fa:Addr} (X:K.In h) (G:h.Ns mainGlobals mg) (hfa:mg "law"=some (.ref fa))
  {u0 u1 u2 u3 u4:Addr}
  {f35:Addr} {od35 an35:Option Addr} {sl35:Array (Option Value)} {oc35 kV35 dc35 pm35 cd35 ct35:Value}
  {f34:Addr} {od34 an34:Option Addr} {sl34:Array (Option Value)} {oc34 kV34 dc34 pm34 cd34 ct34:Value}
  {f33:Addr} {od33 an33:Option Addr} {sl33:Array (Option Value)} {oc33 kV33 dc33 pm33 cd33 ct33:Value}
  {f32:Addr} {od32 an32:Option Addr} {sl32:Array (Option Value)} {oc32 kV32 dc32 pm32 cd32 ct32:Value}
  {f31:Addr} {od31 an31:Option Addr} {sl31:Array (Option Value)} {oc31 kV31 dc31 pm31 cd31 ct31:Value}
  {f30:Addr} {od30 an30:Option Addr} {sl30:Array (Option Value)} {oc30 kV30 dc30 pm30 cd30 ct30:Value}
  {f29:Addr} {od29 an29:Option Addr} {sl29:Array (Option Value)} {oc29 kV29 dc29 pm29 cd29 ct29:Value}
  {f28:Addr} {od28 an28:Option Addr} {sl28:Array (Option Value)} {oc28 kV28 dc28 pm28 cd28 ct28:Value}
  {f27:Addr} {od27 an27:Option Addr} {sl27:Array (Option Value)} {oc27 kV27 dc27 pm27 cd27 ct27:Value}
  {f26:Addr} {od26 an26:Option Addr} {sl26:Array (Option Value)} {oc26 kV26 dc26 pm26 cd26 ct26:Value}
  {f25:Addr} {od25 an25:Option Addr} {sl25:Array (Option Value)} {oc25 kV25 dc25 pm25 cd25 ct25:Value}
  {f24:Addr} {od24 an24:Option Addr} {sl24:Array (Option Value)} {oc24 kV24 dc24 pm24 cd24 ct24:Value}
  {f23:Addr} {od23 an23:Option Addr} {sl23:Array (Option Value)} {oc23 kV23 dc23 pm23 cd23 ct23:Value}
  {f22:Addr} {od22 an22:Option Addr} {sl22:Array (Option Value)} {oc22 kV22 dc22 pm22 cd22 ct22:Value}
  {f21:Addr} {od21 an21:Option Addr} {sl21:Array (Option Value)} {oc21 kV21 dc21 pm21 cd21 ct21:Value}
  {f20:Addr} {od20 an20:Option Addr} {sl20:Array (Option Value)} {oc20 kV20 dc20 pm20 cd20 ct20:Value}
  {f19:Addr} {od19 an19:Option Addr} {sl19:Array (Option Value)} {oc19 kV19 dc19 pm19 cd19 ct19:Value}
  {f18:Addr} {od18 an18:Option Addr} {sl18:Array (Option Value)} {oc18 kV18 dc18 pm18 cd18 ct18:Value}
  {T17:Addr} {tc17:Value} {td17:Option Addr} {tn17:Nat} {ts17:Array (Option Value)} {tk17:Tok}
  {f17:Addr} {od17 an17:Option Addr} {sl17:Array (Option Value)} {oc17 kV17 dc17 pm17 cd17 ct17:Value}
  {f16:Addr} {od16 an16:Option Addr} {sl16:Array (Option Value)} {oc16 kV16 dc16 pm16 cd16 ct16:Value}
  {f15:Addr} {od15 an15:Option Addr} {sl15:Array (Option Value)} {oc15 kV15 dc15 pm15 cd15 ct15:Value}
  {f14:Addr} {od14 an14:Option Addr} {sl14:Array (Option Value)} {oc14 kV14 dc14 pm14 cd14 ct14:Value}
  {f13:Addr} {od13 an13:Option Addr} {sl13:Array (Option Value)} {oc13 kV13 dc13 pm13 cd13 ct13:Value}
  {f12:Addr} {od12 an12:Option Addr} {sl12:Array (Option Value)} {oc12 kV12 dc12 pm12 cd12 ct12:Value}
  {f11:Addr} {od11 an11:Option Addr} {sl11:Array (Option Value)} {oc11 kV11 dc11 pm11 cd11 ct11:Value}
  {f10:Addr} {od10 an10:Option Addr} {sl10:Array (Option Value)} {oc10 kV10 dc10 pm10 cd10 ct10:Value}
  {f9:Addr} {od9 an9:Option Addr} {sl9:Array (Option Value)} {oc9 kV9 dc9 pm9 cd9 ct9:Value}
  {f8:Addr} {od8 an8:Option Addr} {sl8:Array (Option Value)} {oc8 kV8 dc8 pm8 cd8 ct8:Value}
  {f7:Addr} {od7 an7:Option Addr} {sl7:Array (Option Value)} {oc7 kV7 dc7 pm7 cd7 ct7:Value}
  {f6:Addr} {od6 an6:Option Addr} {sl6:Array (Option Value)} {oc6 kV6 dc6 pm6 cd6 ct6:Value}
  {f5:Addr} {od5 an5:Option Addr} {sl5:Array (Option Value)} {oc5 kV5 dc5 pm5 cd5 ct5:Value}
  {f4:Addr} {od4 an4:Option Addr} {sl4:Array (Option Value)} {oc4 kV4 dc4 pm4 cd4 ct4:Value}
  {f3:Addr} {od3 an3:Option Addr} {sl3:Array (Option Value)} {oc3 kV3 dc3 pm3 cd3 ct3:Value}
  {f2:Addr} {od2 an2:Option Addr} {sl2:Array (Option Value)} {oc2 kV2 dc2 pm2 cd2 ct2:Value}
  {f1:Addr} {od1 an1:Option Addr} {sl1:Array (Option Value)} {oc1 kV1 dc1 pm1 cd1 ct1:Value}
  {f0:Addr} {od0 an0:Option Addr} {sl0:Array (Option Value)} {oc0 kV0 dc0 pm0 cd0 ct0:Value}
  {fI_Spin:Addr} {oI_Spin aI_Spin:Option Addr} {sI_Spin:Array (Option Value)} {cI_Spin kI_Spin dI_Spin pI_Spin eI_Spin tI_Spin:Value}
  {fI_TurnLine:Addr} {oI_TurnLine aI_TurnLine:Option Addr} {sI_TurnLine:Array (Option Value)} {cI_TurnLine kI_TurnLine dI_TurnLine pI_TurnLine eI_TurnLine tI_TurnLine:Value}
  (a0:nsIn K mainGlobals "is_whole"=some (some (.ref f0))) (l0:K.lookup f0=some ⟨oc0,od0,.func (PySem.W.fnOf "is_whole" "is_whole" (m7 Ao) (j7 Ao) (g7 Ao) .none kV0 dc0 pm0 an0 cd0 ct0),sl0⟩) (c0:codeIn K cd0 "is_whole"=true) (k0:keepIn K (.ref f0)=true)
  (a1:nsIn K mainGlobals "pair"=some (some (.ref f1))) (l1:K.lookup f1=some ⟨oc1,od1,.func (PySem.W.fnOf "pair" "pair" (m7 Y2) (j7 Y2) (g7 Y2) .none kV1 dc1 pm1 an1 cd1 ct1),sl1⟩) (c1:codeIn K cd1 "pair"=true) (k1:keepIn K (.ref f1)=true)
  (a2:nsIn K mainGlobals "is_side"=some (some (.ref f2))) (l2:K.lookup f2=some ⟨oc2,od2,.func (PySem.W.fnOf "is_side" "is_side" (m7 Ai) (j7 Ai) (g7 Ai) .none kV2 dc2 pm2 an2 cd2 ct2),sl2⟩) (c2:codeIn K cd2 "is_side"=true) (k2:keepIn K (.ref f2)=true)
  (a3:nsIn K mainGlobals "corner_behind"=some (some (.ref f3))) (l3:K.lookup f3=some ⟨oc3,od3,.func (PySem.W.fnOf "corner_behind" "corner_behind" (m7 Bv) (j7 Bv) (g7 Bv) .none kV3 dc3 pm3 an3 cd3 ct3),sl3⟩) (c3:codeIn K cd3 "corner_behind"=true) (k3:keepIn K (.ref f3)=true)
  (a4:nsIn K mainGlobals "_law_pick"=some (some (.ref f4))) (l4:K.lookup f4=some ⟨oc4,od4,.func (PySem.W.fnOf "_law_pick" "_law_pick" (m7 Ay) (j7 Ay) (g7 Ay) .none kV4 dc4 pm4 an4 cd4 ct4),sl4⟩) (c4:codeIn K cd4 "_law_pick"=true) (k4:keepIn K (.ref f4)=true)
  (a5:nsIn K mainGlobals "_law_put_on"=some (some (.ref f5))) (l5:K.lookup f5=some ⟨oc5,od5,.func (PySem.W.fnOf "_law_put_on" "_law_put_on" (m7 Bp) (j7 Bp) (g7 Bp) .none kV5 dc5 pm5 an5 cd5 ct5),sl5⟩) (c5:codeIn K cd5 "_law_put_on"=true) (k5:keepIn K (.ref f5)=true)
  (a6:nsIn K mainGlobals "_law_image"=some (some (.ref f6))) (l6:K.lookup f6=some ⟨oc6,od6,.func (PySem.W.fnOf "_law_image" "_law_image" (m7 Bc) (j7 Bc) (g7 Bc) .none kV6 dc6 pm6 an6 cd6 ct6),sl6⟩) (c6:codeIn K cd6 "_law_image"=true) (k6:keepIn K (.ref f6)=true)
  (a7:nsIn K mainGlobals "_law_joined"=some (some (.ref f7))) (l7:K.lookup f7=some ⟨oc7,od7,.func (PySem.W.fnOf "_law_joined" "_law_joined" (m7 Bo) (j7 Bo) (g7 Bo) .none kV7 dc7 pm7 an7 cd7 ct7),sl7⟩) (c7:codeIn K cd7 "_law_joined"=true) (k7:keepIn K (.ref f7)=true)
  (a8:nsIn K mainGlobals "_law_wide"=some (some (.ref f8))) (l8:K.lookup f8=some ⟨oc8,od8,.func (PySem.W.fnOf "_law_wide" "_law_wide" (m7 Ax) (j7 Ax) (g7 Ax) .none kV8 dc8 pm8 an8 cd8 ct8),sl8⟩) (c8:codeIn K cd8 "_law_wide"=true) (k8:keepIn K (.ref f8)=true)
  (a9:nsIn K mainGlobals "is_two"=some (some (.ref f9))) (l9:K.lookup f9=some ⟨oc9,od9,.func (PySem.W.fnOf "is_two" "is_two" (m7 Ac) (j7 Ac) (g7 Ac) .none kV9 dc9 pm9 an9 cd9 ct9),sl9⟩) (c9:codeIn K cd9 "is_two"=true) (k9:keepIn K (.ref f9)=true)
  (a10:nsIn K mainGlobals "room_under"=some (some (.ref f10))) (l10:K.lookup f10=some ⟨oc10,od10,.func (PySem.W.fnOf "room_under" "room_under" (m7 Bf) (j7 Bf) (g7 Bf) .none kV10 dc10 pm10 an10 cd10 ct10),sl10⟩) (c10:codeIn K cd10 "room_under"=true) (k10:keepIn K (.ref f10)=true)
  (a11:nsIn K mainGlobals "image"=some (some (.ref f11))) (l11:K.lookup f11=some ⟨oc11,od11,.func (PySem.W.fnOf "image" "image" (m7 Z2) (j7 Z2) (g7 Z2) .none kV11 dc11 pm11 an11 cd11 ct11),sl11⟩) (c11:codeIn K cd11 "image"=true) (k11:keepIn K (.ref f11)=true)
  (a12:nsIn K mainGlobals "_law_glued"=some (some (.ref f12))) (l12:K.lookup f12=some ⟨oc12,od12,.func (PySem.W.fnOf "_law_glued" "_law_glued" (m7 Be) (j7 Be) (g7 Be) .none kV12 dc12 pm12 an12 cd12 ct12),sl12⟩) (c12:codeIn K cd12 "_law_glued"=true) (k12:keepIn K (.ref f12)=true)
  (a13:nsIn K mainGlobals "_law_turned"=some (some (.ref f13))) (l13:K.lookup f13=some ⟨oc13,od13,.func (PySem.W.fnOf "_law_turned" "_law_turned" (m7 Bn) (j7 Bn) (g7 Bn) .none kV13 dc13 pm13 an13 cd13 ct13),sl13⟩) (c13:codeIn K cd13 "_law_turned"=true) (k13:keepIn K (.ref f13)=true)
  (a14:nsIn K mainGlobals "has_pair"=some (some (.ref f14))) (l14:K.lookup f14=some ⟨oc14,od14,.func (PySem.W.fnOf "has_pair" "has_pair" (m7 An) (j7 An) (g7 An) .none kV14 dc14 pm14 an14 cd14 ct14),sl14⟩) (c14:codeIn K cd14 "has_pair"=true) (k14:keepIn K (.ref f14)=true)
  (a15:nsIn K mainGlobals "check_line"=some (some (.ref f15))) (l15:K.lookup f15=some ⟨oc15,od15,.func (PySem.W.fnOf "check_line" "check_line" (m7 Bh) (j7 Bh) (g7 Bh) .none kV15 dc15 pm15 an15 cd15 ct15),sl15⟩) (c15:codeIn K cd15 "check_line"=true) (k15:keepIn K (.ref f15)=true)
  (a16:nsIn K mainGlobals "rooms"=some (some (.ref f16))) (l16:K.lookup f16=some ⟨oc16,od16,.func (PySem.W.fnOf "rooms" "rooms" (m7 Z3) (j7 Z3) (g7 Z3) .none kV16 dc16 pm16 an16 cd16 ct16),sl16⟩) (c16:codeIn K cd16 "rooms"=true) (k16:keepIn K (.ref f16)=true)
  (a17:nsIn K mainGlobals "spun"=some (some (.ref f17))) (l17:K.lookup f17=some ⟨oc17,od17,.func (PySem.W.fnOf "spun" "spun" (m7 Y1) (j7 Y1) (g7 Y1) (.ref T17) kV17 dc17 pm17 an17 cd17 ct17),sl17⟩) (c17:codeIn K cd17 "spun"=true) (k17:keepIn K (.ref f17)=true)
  (t17:K.lookup T17=some ⟨tc17,td17,.seq #[.int 1 tk17] tn17,ts17⟩)
  (a18:nsIn K mainGlobals "mirrored"=some (some (.ref f18))) (l18:K.lookup f18=some ⟨oc18,od18,.func (PySem.W.fnOf "mirrored" "mirrored" (m7 Am) (j7 Am) (g7 Am) .none kV18 dc18 pm18 an18 cd18 ct18),sl18⟩) (c18:codeIn K cd18 "mirrored"=true) (k18:keepIn K (.ref f18)=true)
  (a19:PySem.W.findIn K (.ref u3) "back"=some (some (.ref f19))) (n19:isFn K (.ref f19)=true) (l19:K.lookup f19=some ⟨oc19,od19,.func (PySem.W.fnOf "back" "Spin.back" (m7 As) (j7 As) (g7 As) .none kV19 dc19 pm19 an19 cd19 ct19),sl19⟩) (c19:codeIn K cd19 "Spin.back"=true) (k19:keepIn K (.ref f19)=true)
  (a20:PySem.W.findIn K (.ref u1) "back"=some (some (.ref f20))) (n20:isFn K (.ref f20)=true) (l20:K.lookup f20=some ⟨oc20,od20,.func (PySem.W.fnOf "back" "Mirror.back" (m7 Bl) (j7 Bl) (g7 Bl) .none kV20 dc20 pm20 an20 cd20 ct20),sl20⟩) (c20:codeIn K cd20 "Mirror.back"=true) (k20:keepIn K (.ref f20)=true)
  (a21:nsIn K mainGlobals "_law_no_line"=some (some (.ref f21))) (l21:K.lookup f21=some ⟨oc21,od21,.func (PySem.W.fnOf "_law_no_line" "_law_no_line" (m7 Br) (j7 Br) (g7 Br) .none kV21 dc21 pm21 an21 cd21 ct21),sl21⟩) (c21:codeIn K cd21 "_law_no_line"=true) (k21:keepIn K (.ref f21)=true)
  (a22:nsIn K mainGlobals "_law_next"=some (some (.ref f22))) (l22:K.lookup f22=some ⟨oc22,od22,.func (PySem.W.fnOf "_law_next" "_law_next" (m7 Aw) (j7 Aw) (g7 Aw) .none kV22 dc22 pm22 an22 cd22 ct22),sl22⟩) (c22:codeIn K cd22 "_law_next"=true) (k22:keepIn K (.ref f22)=true)
  (a23:nsIn K mainGlobals "_law_deed"=some (some (.ref f23))) (l23:K.lookup f23=some ⟨oc23,od23,.func (PySem.W.fnOf "_law_deed" "_law_deed" (m7 Av) (j7 Av) (g7 Av) .none kV23 dc23 pm23 an23 cd23 ct23),sl23⟩) (c23:codeIn K cd23 "_law_deed"=true) (k23:keepIn K (.ref f23)=true)
  (a24:nsIn K mainGlobals "check_pair"=some (some (.ref f24))) (l24:K.lookup f24=some ⟨oc24,od24,.func (PySem.W.fnOf "check_pair" "check_pair" (m7 Bg) (j7 Bg) (g7 Bg) .none kV24 dc24 pm24 an24 cd24 ct24),sl24⟩) (c24:codeIn K cd24 "check_pair"=true) (k24:keepIn K (.ref f24)=true)
  (a25:nsIn K mainGlobals "triangles"=some (some (.ref f25))) (l25:K.lookup f25=some ⟨oc25,od25,.func (PySem.W.fnOf "triangles" "triangles" (m7 Az) (j7 Az) (g7 Az) .none kV25 dc25 pm25 an25 cd25 ct25),sl25⟩) (c25:codeIn K cd25 "triangles"=true) (k25:keepIn K (.ref f25)=true)
  (a26:PySem.W.findIn K (.ref u3) "done"=some (some (.ref f26))) (n26:isFn K (.ref f26)=true) (l26:K.lookup f26=some ⟨oc26,od26,.func (PySem.W.fnOf "done" "Spin.done" (m7 At) (j7 At) (g7 At) .none kV26 dc26 pm26 an26 cd26 ct26),sl26⟩) (c26:codeIn K cd26 "Spin.done"=true) (k26:keepIn K (.ref f26)=true)
  (a27:PySem.W.findIn K (.ref u1) "done"=some (some (.ref f27))) (n27:isFn K (.ref f27)=true) (l27:K.lookup f27=some ⟨oc27,od27,.func (PySem.W.fnOf "done" "Mirror.done" (m7 Bm) (j7 Bm) (g7 Bm) .none kV27 dc27 pm27 an27 cd27 ct27),sl27⟩) (c27:codeIn K cd27 "Mirror.done"=true) (k27:keepIn K (.ref f27)=true)
  (a28:nsIn K mainGlobals "thirds"=some (some (.ref f28))) (l28:K.lookup f28=some ⟨oc28,od28,.func (PySem.W.fnOf "thirds" "thirds" (m7 Ab) (j7 Ab) (g7 Ab) .none kV28 dc28 pm28 an28 cd28 ct28),sl28⟩) (c28:codeIn K cd28 "thirds"=true) (k28:keepIn K (.ref f28)=true)
  (a29:nsIn K mainGlobals "turned"=some (some (.ref f29))) (l29:K.lookup f29=some ⟨oc29,od29,.func (PySem.W.fnOf "turned" "turned" (m7 Aa) (j7 Aa) (g7 Aa) .none kV29 dc29 pm29 an29 cd29 ct29),sl29⟩) (c29:codeIn K cd29 "turned"=true) (k29:keepIn K (.ref f29)=true)
  (a30:PySem.W.findIn K (.ref u4) "done"=some (some (.ref f30))) (n30:isFn K (.ref f30)=true) (l30:K.lookup f30=some ⟨oc30,od30,.func (PySem.W.fnOf "done" "TurnLine.done" (m7 Bu) (j7 Bu) (g7 Bu) .none kV30 dc30 pm30 an30 cd30 ct30),sl30⟩) (c30:codeIn K cd30 "TurnLine.done"=true) (k30:keepIn K (.ref f30)=true)
  (a31:PySem.W.findIn K (.ref u4) "back"=some (some (.ref f31))) (n31:isFn K (.ref f31)=true) (l31:K.lookup f31=some ⟨oc31,od31,.func (PySem.W.fnOf "back" "TurnLine.back" (m7 Bt) (j7 Bt) (g7 Bt) .none kV31 dc31 pm31 an31 cd31 ct31),sl31⟩) (c31:codeIn K cd31 "TurnLine.back"=true) (k31:keepIn K (.ref f31)=true)
  (a32:nsIn K mainGlobals "walked"=some (some (.ref f32))) (l32:K.lookup f32=some ⟨oc32,od32,.func (PySem.W.fnOf "walked" "walked" (m7 Ad) (j7 Ad) (g7 Ad) .none kV32 dc32 pm32 an32 cd32 ct32),sl32⟩) (c32:codeIn K cd32 "walked"=true) (k32:keepIn K (.ref f32)=true)
  (a33:nsIn K mainGlobals "home"=some (some (.ref f33))) (l33:K.lookup f33=some ⟨oc33,od33,.func (PySem.W.fnOf "home" "home" (m7 Y3) (j7 Y3) (g7 Y3) .none kV33 dc33 pm33 an33 cd33 ct33),sl33⟩) (c33:codeIn K cd33 "home"=true) (k33:keepIn K (.ref f33)=true)
  (a34:nsIn K mainGlobals "_law_told"=some (some (.ref f34))) (l34:K.lookup f34=some ⟨oc34,od34,.func (PySem.W.fnOf "_law_told" "_law_told" (m7 Au) (j7 Au) (g7 Au) .none kV34 dc34 pm34 an34 cd34 ct34),sl34⟩) (c34:codeIn K cd34 "_law_told"=true) (k34:keepIn K (.ref f34)=true)
  (a35:nsIn K mainGlobals "law"=some (some (.ref f35))) (l35:K.lookup f35=some ⟨oc35,od35,.func (PySem.W.fnOf "law" "law" (m7 M0) (j7 M0) (g7 M0) .none kV35 dc35 pm35 an35 cd35 ct35),sl35⟩) (c35:codeIn K cd35 "law"=true) (k35:keepIn K (.ref f35)=true)
  (z_all:nsIn K mainGlobals "all"=some none) (z_bool:nsIn K mainGlobals "bool"=some none) (z_int:nsIn K mainGlobals "int"=some none) (z_isinstance:nsIn K mainGlobals "isinstance"=some none) (z_len:nsIn K mainGlobals "len"=some none) (z_list:nsIn K mainGlobals "list"=some none) (z_max:nsIn K mainGlobals "max"=some none) (z_min:nsIn K mainGlobals "min"=some none) (z_range:nsIn K mainGlobals "range"=some none) (z_reversed:nsIn K mainGlobals "reversed"=some none) (z_sorted:nsIn K mainGlobals "sorted"=some none) (z_sum:nsIn K mainGlobals "sum"=some none) (z_tuple:nsIn K mainGlobals "tuple"=some none) (n_Deed:nsIn K mainGlobals (Str.ofString "Deed")=some (some (.ref u0))) (n_Mirror:nsIn K mainGlobals (Str.ofString "Mirror")=some (some (.ref u1))) (n_NoLine:nsIn K mainGlobals (Str.ofString "NoLine")=some (some (.ref u2))) (n_Spin:nsIn K mainGlobals (Str.ofString "Spin")=some (some (.ref u3))) (n_TurnLine:nsIn K mainGlobals (Str.ofString "TurnLine")=some (some (.ref u4))) (q_NoLine:PySem.W.excIn K u2 [.type "ValueError",.type "Exception",.type "BaseException",.type "object"] "ValueError.__new__"=true) (op_Mirror:PySem.W.plainGet K u1 Str.empty=true) (oh_Mirror:PySem.W.hasDictIn K u1=true) (oo_Mirror:plainOver K u1=true) (os_Mirror:PySem.W.findIn K (.ref u1) "__setattr__"=some (some (.builtin "object.__setattr__"))) (om_Mirror:PySem.W.makesIn K u1=true) (oq_Mirror:keepIn K (.ref u1)=true) (oi_Mirror:PySem.W.findIn K (.ref u1) "__init__"=some (some (.builtin "object.__init__"))) (oc_Mirror:PySem.W.findIn K (.ref u1) "__class__"=some (some (.builtin "object.__class__"))) (ob_Mirror:mroIn K u1 (.type "object")=some true) (ok_Mirror_Deed:kitOne K (.ref u1) (.ref u0)=some true) (op_Spin:PySem.W.plainGet K u3 Str.empty=true) (oh_Spin:PySem.W.hasDictIn K u3=true) (oo_Spin:plainOver K u3=true) (os_Spin:PySem.W.findIn K (.ref u3) "__setattr__"=some (some (.builtin "object.__setattr__"))) (om_Spin:PySem.W.makesIn K u3=true) (oq_Spin:keepIn K (.ref u3)=true) (ov_Spin:PySem.W.findIn K (.ref u3) "by"=some none) (oc_Spin:PySem.W.findIn K (.ref u3) "__class__"=some (some (.builtin "object.__class__"))) (ob_Spin:mroIn K u3 (.type "object")=some true) (ok_Spin_Deed:kitOne K (.ref u3) (.ref u0)=some true) (op_TurnLine:PySem.W.plainGet K u4 Str.empty=true) (oh_TurnLine:PySem.W.hasDictIn K u4=true) (oo_TurnLine:plainOver K u4=true) (os_TurnLine:PySem.W.findIn K (.ref u4) "__setattr__"=some (some (.builtin "object.__setattr__"))) (om_TurnLine:PySem.W.makesIn K u4=true) (oq_TurnLine:keepIn K (.ref u4)=true) (ov_TurnLine:PySem.W.findIn K (.ref u4) "line"=some none) (oc_TurnLine:PySem.W.findIn K (.ref u4) "__class__"=some (some (.builtin "object.__class__"))) (ob_TurnLine:mroIn K u4 (.type "object")=some true) (ok_TurnLine_Deed:kitOne K (.ref u4) (.ref u0)=some true) (xg:specialIn K (.builtin "object.__class__") "__get__"=some (some (.builtin "getset_descriptor.__get__"))) (xt:takesIn K (.builtin "object.__class__")=some true) (fo_NoLine:mroIn K u2 (.type "object")=some true) (fb_NoLine:mroIn K u2 (.type "BaseException")=some true) (fc_NoLine:PySem.W.findIn K (.ref u2) "__class__"=some (some (.builtin "object.__class__"))) (fg_NoLine:PySem.W.findIn K (.ref u2) "__getattribute__"=some (some (.builtin "BaseException.__getattribute__"))) (ft_NoLine:PySem.W.findIn K (.ref u2) "__getattr__"=some none) (m_NoLine_NoLine:mroIn K u2 (.ref u2)=some true) (ni_Spin:PySem.W.findIn K (.ref u3) "__init__"=some (some (.ref fI_Spin))) (li_Spin:K.lookup fI_Spin=some ⟨cI_Spin,oI_Spin,.func (PySem.W.fnOf "__init__" "Spin.__init__" (m7 Ar) (j7 Ar) (g7 Ar) .none kI_Spin dI_Spin pI_Spin aI_Spin eI_Spin tI_Spin),sI_Spin⟩) (ci_Spin:codeIn K eI_Spin "Spin.__init__"=true) (ki_Spin:keepIn K (.ref fI_Spin)=true) (ti_Spin:PySem.W.typeIn K (.ref fI_Spin)=some (.type "function")) (ni_TurnLine:PySem.W.findIn K (.ref u4) "__init__"=some (some (.ref fI_TurnLine))) (li_TurnLine:K.lookup fI_TurnLine=some ⟨cI_TurnLine,oI_TurnLine,.func (PySem.W.fnOf "__init__" "TurnLine.__init__" (m7 Bs) (j7 Bs) (g7 Bs) .none kI_TurnLine dI_TurnLine pI_TurnLine aI_TurnLine eI_TurnLine tI_TurnLine),sI_TurnLine⟩) (ci_TurnLine:codeIn K eI_TurnLine "TurnLine.__init__"=true) (ki_TurnLine:keepIn K (.ref fI_TurnLine)=true) (ti_TurnLine:PySem.W.typeIn K (.ref fI_TurnLine)=some (.type "function")) :
  ∃fd:FuncData,(∀(s:Shared) (v:Value),BindsTo s fd ⟨[v],[]⟩ [("_law_script",v)])/\∀base:Heap,K.In base->base.Ns mainGlobals mg->FnOk l.prog w K mg base (CX1 l.prog w) 10 fa fd ["_law_script"] (spL K false (W8 (hashStr w)) 1):=by
 have e:=hfa.symm.trans (mg_of X G a35)
 cases e
 have T:Txt mg:=⟨mg_none_of X G z_all,mg_none_of X G z_bool,mg_none_of X G z_int,mg_none_of X G z_isinstance,mg_none_of X G z_len,mg_none_of X G z_list,mg_none_of X G z_max,mg_none_of X G z_min,mg_none_of X G z_range,mg_none_of X G z_reversed,mg_none_of X G z_sorted,mg_none_of X G z_sum,mg_none_of X G z_tuple⟩
 have Z:Exs K mg u0 u1 u2 u3 u4:=⟨mg_of X G n_Deed,mg_of X G n_Mirror,mg_of X G n_NoLine,mg_of X G n_Spin,mg_of X G n_TurnLine,n_Mirror,n_NoLine,n_Spin,n_TurnLine,q_NoLine,op_Mirror,oh_Mirror,oo_Mirror,os_Mirror,om_Mirror,oq_Mirror,oi_Mirror,oc_Mirror,ob_Mirror,ok_Mirror_Deed,op_Spin,oh_Spin,oo_Spin,os_Spin,om_Spin,oq_Spin,ov_Spin,oc_Spin,ob_Spin,ok_Spin_Deed,op_TurnLine,oh_TurnLine,oo_TurnLine,os_TurnLine,om_TurnLine,oq_TurnLine,ov_TurnLine,oc_TurnLine,ob_TurnLine,ok_TurnLine_Deed,xg,xt,fo_NoLine,fb_NoLine,fc_NoLine,fg_NoLine,ft_NoLine,m_NoLine_NoLine⟩
 have F0:=o6 (st:=Ao) l0 c0 k0
 have b0:=F0.binds (ps:=["thing"]) fun _ _ _ _ _ _ us hl=>by obtain ⟨_,rfl⟩:=W7 hl;rfl
 have F1:=o6 (st:=Y2) l1 c1 k1
 have b1:=F1.binds (ps:=["a","b"]) fun _ _ _ _ _ _ us hl=>by obtain ⟨_,_,rfl⟩:=u6 hl;rfl
 have F2:=o6 (st:=Ai) l2 c2 k2
 have b2:=F2.binds (ps:=["n","p"]) fun _ _ _ _ _ _ us hl=>by obtain ⟨_,_,rfl⟩:=u6 hl;rfl
 have F3:=o6 (st:=Bv) l3 c3 k3
 have b3:=F3.binds (ps:=["corner","top","lines"]) fun _ _ _ _ _ _ us hl=>by obtain ⟨_,_,_,rfl⟩:=W6 hl;rfl
 have F4:=o6 (st:=Ay) l4 c4 k4
 have b4:=F4.binds (ps:=["_law_script","_law_k"]) fun _ _ _ _ _ _ us hl=>by obtain ⟨_,_,rfl⟩:=u6 hl;rfl
 have F5:=o6 (st:=Bp) l5 c5 k5
 have b5:=F5.binds (ps:=["_law_n","_law_lines","_law_at"]) fun _ _ _ _ _ _ us hl=>by obtain ⟨_,_,_,rfl⟩:=W6 hl;rfl
 have F6:=o6 (st:=Bc) l6 c6 k6
 have b6:=F6.binds (ps:=["_law_cut","_law_by","_law_sign"]) fun _ _ _ _ _ _ us hl=>by obtain ⟨_,_,_,rfl⟩:=W6 hl;rfl
 have F7:=o6 (st:=Bo) l7 c7 k7
 have b7:=F7.binds (ps:=["_law_cut","_law_a","_law_b"]) fun _ _ _ _ _ _ us hl=>by obtain ⟨_,_,_,rfl⟩:=W6 hl;rfl
 have F8:=o6 (st:=Ax) l8 c8 k8
 have b8:=F8.binds (ps:=["_law_cell"]) fun _ _ _ _ _ _ us hl=>by obtain ⟨_,rfl⟩:=W7 hl;rfl
 have F9:=o6 (st:=Ac) l9 c9 k9
 have b9:=F9.binds (ps:=["thing"]) fun _ _ _ _ _ _ us hl=>by obtain ⟨_,rfl⟩:=W7 hl;rfl
 have F10:=o6 (st:=Bf) l10 c10 k10
 have b10:=F10.binds (ps:=["top","lines"]) fun _ _ _ _ _ _ us hl=>by obtain ⟨_,_,rfl⟩:=u6 hl;rfl
 have F11:=o6 (st:=Z2) l11 c11 k11
 have b11:=F11.binds (ps:=["cut","becomes"]) fun _ _ _ _ _ _ us hl=>by obtain ⟨_,_,rfl⟩:=u6 hl;rfl
 have F12:=o6 (st:=Be) l12 c12 k12
 have b12:=F12.binds (ps:=["_law_cells"]) fun _ _ _ _ _ _ us hl=>by obtain ⟨_,rfl⟩:=W7 hl;rfl
 have F13:=o6 (st:=Bn) l13 c13 k13
 have b13:=F13.binds (ps:=["_law_cut","_law_line"]) fun _ _ _ _ _ _ us hl=>by obtain ⟨_,_,rfl⟩:=u6 hl;rfl
 have F14:=o6 (st:=An) l14 c14 k14
 have b14:=F14.binds (ps:=["cut","p"]) fun _ _ _ _ _ _ us hl=>by obtain ⟨_,_,rfl⟩:=u6 hl;rfl
 have F15:=o6 (st:=Bh) l15 c15 k15
 have b15:=F15.binds (ps:=["cut","p"]) fun _ _ _ _ _ _ us hl=>by obtain ⟨_,_,rfl⟩:=u6 hl;rfl
 have F16:=o6 (st:=Z3) l16 c16 k16
 have b16:=F16.binds (ps:=["n","lines"]) fun _ _ _ _ _ _ us hl=>by obtain ⟨_,_,rfl⟩:=u6 hl;rfl
 have F17:=vf (st:=Y1) l17 c17 k17
 have b17:=F17.binds (ps:=["cut","by"]) (ds:=[]) t17 2 rfl fun _ _ _ _ _ _ us hl=>match us,hl with | [_,_],_=>⟨_,rfl,rfl⟩
 have bd17:=F17.binds (ps:=["cut","by"]) (ds:=[.int 1 tk17]) t17 1 rfl fun _ _ _ _ _ _ us hl=>match us,hl with | [_],_=>⟨_,rfl,rfl⟩
 have F18:=o6 (st:=Am) l18 c18 k18
 have b18:=F18.binds (ps:=["cut"]) fun _ _ _ _ _ _ us hl=>by obtain ⟨_,rfl⟩:=W7 hl;rfl
 have F19:=o6 (st:=As) l19 c19 k19
 have b19:=F19.binds (ps:=["self","cut"]) fun _ _ _ _ _ _ us hl=>by obtain ⟨_,_,rfl⟩:=u6 hl;rfl
 have F20:=o6 (st:=Bl) l20 c20 k20
 have b20:=F20.binds (ps:=["self","cut"]) fun _ _ _ _ _ _ us hl=>by obtain ⟨_,_,rfl⟩:=u6 hl;rfl
 have F21:=o6 (st:=Br) l21 c21 k21
 have b21:=F21.binds (ps:=["_law_cut","_law_cell"]) fun _ _ _ _ _ _ us hl=>by obtain ⟨_,_,rfl⟩:=u6 hl;rfl
 have F22:=o6 (st:=Aw) l22 c22 k22
 have b22:=F22.binds (ps:=["_law_cut","_law_cell"]) fun _ _ _ _ _ _ us hl=>by obtain ⟨_,_,rfl⟩:=u6 hl;rfl
 have F23:=o6 (st:=Av) l23 c23 k23
 have b23:=F23.binds (ps:=["_law_cut","_law_cell","_law_made"]) fun _ _ _ _ _ _ us hl=>by obtain ⟨_,_,_,rfl⟩:=W6 hl;rfl
 have F24:=o6 (st:=Bg) l24 c24 k24
 have b24:=F24.binds (ps:=["cut","p"]) fun _ _ _ _ _ _ us hl=>by obtain ⟨_,_,rfl⟩:=u6 hl;rfl
 have F25:=o6 (st:=Az) l25 c25 k25
 have b25:=F25.binds (ps:=["cut"]) fun _ _ _ _ _ _ us hl=>by obtain ⟨_,rfl⟩:=W7 hl;rfl
 have F26:=o6 (st:=At) l26 c26 k26
 have b26:=F26.binds (ps:=["self","cut"]) fun _ _ _ _ _ _ us hl=>by obtain ⟨_,_,rfl⟩:=u6 hl;rfl
 have F27:=o6 (st:=Bm) l27 c27 k27
 have b27:=F27.binds (ps:=["self","cut"]) fun _ _ _ _ _ _ us hl=>by obtain ⟨_,_,rfl⟩:=u6 hl;rfl
 have F28:=o6 (st:=Ab) l28 c28 k28
 have b28:=F28.binds (ps:=["cut","p"]) fun _ _ _ _ _ _ us hl=>by obtain ⟨_,_,rfl⟩:=u6 hl;rfl
 have F29:=o6 (st:=Aa) l29 c29 k29
 have b29:=F29.binds (ps:=["cut","line"]) fun _ _ _ _ _ _ us hl=>by obtain ⟨_,_,rfl⟩:=u6 hl;rfl
 have F30:=o6 (st:=Bu) l30 c30 k30
 have b30:=F30.binds (ps:=["self","cut"]) fun _ _ _ _ _ _ us hl=>by obtain ⟨_,_,rfl⟩:=u6 hl;rfl
 have F31:=o6 (st:=Bt) l31 c31 k31
 have b31:=F31.binds (ps:=["self","cut"]) fun _ _ _ _ _ _ us hl=>by obtain ⟨_,_,rfl⟩:=u6 hl;rfl
 have F32:=o6 (st:=Ad) l32 c32 k32
 have b32:=F32.binds (ps:=["cut","deeds"]) fun _ _ _ _ _ _ us hl=>by obtain ⟨_,_,rfl⟩:=u6 hl;rfl
 have F33:=o6 (st:=Y3) l33 c33 k33
 have b33:=F33.binds (ps:=["cut","deeds"]) fun _ _ _ _ _ _ us hl=>by obtain ⟨_,_,rfl⟩:=u6 hl;rfl
 have F34:=o6 (st:=Au) l34 c34 k34
 have b34:=F34.binds (ps:=["_law_way","_law_cut","_law_deeds"]) fun _ _ _ _ _ _ us hl=>by obtain ⟨_,_,_,rfl⟩:=W6 hl;rfl
 have F35:=o6 (st:=M0) l35 c35 k35
 refine ⟨PySem.W.fnOf "law" "law" (m7 M0) (j7 M0) (g7 M0) .none kV35 dc35 pm35 an35 cd35 ct35,fun s v=>.of_eq rfl,fun base kb nb=>?_⟩
 have O_Spin:MkO l.prog w K mg base "Spin" u3 ["by"] 1:=⟨Z.n_Spin,rfl,fI_Spin,_,["self","by"],⟨Z.om_Spin,ni_Spin,beq_iff_eq.mpr ti_Spin,Z.oq_Spin⟩,Tv (k:=0) (o6 (st:=Ar) li_Spin ci_Spin ki_Spin) zq Z.cl_Spin Z.ov_Spin rfl (Or.inl rfl) (Or.inl rfl),(o6 (st:=Ar) li_Spin ci_Spin ki_Spin).binds (ps:=["self","by"]) fun _ _ _ _ _ _ us hl=>by match us,hl with | [_,_],_=>rfl⟩
 have O_TurnLine:MkO l.prog w K mg base "TurnLine" u4 ["line"] 1:=⟨Z.n_TurnLine,rfl,fI_TurnLine,_,["self","line"],⟨Z.om_TurnLine,ni_TurnLine,beq_iff_eq.mpr ti_TurnLine,Z.oq_TurnLine⟩,Tv (k:=0) (o6 (st:=Bs) li_TurnLine ci_TurnLine ki_TurnLine) zZ Z.cl_TurnLine Z.ov_TurnLine rfl (Or.inl rfl) (Or.inl rfl),(o6 (st:=Bs) li_TurnLine ci_TurnLine ki_TurnLine).binds (ps:=["self","line"]) fun _ _ _ _ _ _ us hl=>by match us,hl with | [_,_],_=>rfl⟩
 have G_is_whole:i0 l.prog w K mg base "is_whole" ["thing"] 1 (spD K mg false V2 1):=⟨f0,_,yQ F0 T Z ,b0,mg_of X G a0,k0⟩
 have G_pair:i0 l.prog w K mg base "pair" ["a","b"] 1 (spD K mg false Y4 2):=⟨f1,_,qM F1 T Z ,b1,mg_of X G a1,k1⟩
 have G_is_side:i0 l.prog w K mg base "is_side" ["n","p"] 1 (spD K mg false Aj 2):=⟨f2,_,yt F2 T Z ,b2,mg_of X G a2,k2⟩
 have G_corner_behind:i0 l.prog w K mg base "corner_behind" ["corner","top","lines"] 1 (spD K mg false Bw 3):=⟨f3,_,zW F3 T Z ,b3,mg_of X G a3,k3⟩
 have G__law_pick:i0 l.prog w K mg base "_law_pick" ["_law_script","_law_k"] 1 (spD K mg false z0 2):=⟨f4,_,zi F4 T Z ,b4,mg_of X G a4,k4⟩
 have G__law_put_on:i0 l.prog w K mg base "_law_put_on" ["_law_n","_law_lines","_law_at"] 1 (spD K mg true Bq 3):=⟨f5,_,zO F5 T Z ,b5,mg_of X G a5,k5⟩
 have G__law_image:i0 l.prog w K mg base "_law_image" ["_law_cut","_law_by","_law_sign"] 1 (spD K mg false V4 3):=⟨f6,_,zF F6 T Z ,b6,mg_of X G a6,k6⟩
 have G__law_joined:i0 l.prog w K mg base "_law_joined" ["_law_cut","_law_a","_law_b"] 1 (spD K mg false V5 3):=⟨f7,_,zN F7 T Z ,b7,mg_of X G a7,k7⟩
 have G__law_wide:i0 l.prog w K mg base "_law_wide" ["_law_cell"] 1 (spD K mg false Q4 1):=⟨f8,_,zh F8 T Z ,b8,mg_of X G a8,k8⟩
 have G_is_two:i0 l.prog w K mg base "is_two" ["thing"] 2 (spD K mg false Q0 1):=⟨f9,_,xK F9 T Z G_is_whole,b9,mg_of X G a9,k9⟩
 have G_room_under:i0 l.prog w K mg base "room_under" ["top","lines"] 2 (spD K mg false Bj 2):=⟨f10,_,zE F10 T Z G_corner_behind,b10,mg_of X G a10,k10⟩
 have G_image:i0 l.prog w K mg base "image" ["cut","becomes"] 2 (spD K mg false P7 2):=⟨f11,_,wA F11 T Z G_pair,b11,mg_of X G a11,k11⟩
 have G__law_glued:i0 l.prog w K mg base "_law_glued" ["_law_cells"] 2 (spD K mg false V3 1):=⟨f12,_,zC F12 T Z G__law_put_on,b12,mg_of X G a12,k12⟩
 have G__law_turned:i0 l.prog w K mg base "_law_turned" ["_law_cut","_law_line"] 2 (spD K mg false Q6 2):=⟨f13,_,zM F13 T Z G__law_joined,b13,mg_of X G a13,k13⟩
 have G_has_pair:i0 l.prog w K mg base "has_pair" ["cut","p"] 3 (spD K mg false Aq 2):=⟨f14,_,yP F14 T Z G_is_side G_is_two,b14,mg_of X G a14,k14⟩
 have G_check_line:i0 l.prog w K mg base "check_line" ["cut","p"] 3 (spD K mg false Q5 2):=⟨f15,_,zB F15 T Z G_is_two,b15,mg_of X G a15,k15⟩
 have G_rooms:i0 l.prog w K mg base "rooms" ["n","lines"] 3 (spD K mg true Z6 2):=⟨f16,_,wz F16 T Z G_room_under,b16,mg_of X G a16,k16⟩
 have G_spun:i0 l.prog w K mg base "spun" ["cut","by"] 3 (spD K mg false P0 2):=⟨f17,_,Rm F17 T Z G_image,b17,mg_of X G a17,k17⟩
 have GD_spun:Xq l.prog w K mg base "spun" ["cut","by"] 3 (spD K mg false P0 2) 1:=⟨f17,_,tk17,Rm F17 T Z G_image,bd17,mg_of X G a17,k17⟩
 have G_mirrored:i0 l.prog w K mg base "mirrored" ["cut"] 3 (spD K mg false Ap 1):=⟨f18,_,yO F18 T Z G_image,b18,mg_of X G a18,k18⟩
 have G_Spin_back:FnOk l.prog w K mg base (CX1 l.prog w) 3 f19 _ ["self","cut"] (spD K mg false Ea 2):=zg F19 T Z O_Spin
 have G_Mirror_back:FnOk l.prog w K mg base (CX1 l.prog w) 3 f20 _ ["self","cut"] (spD K mg false Ec 2):=zL F20 T Z 
 have G__law_no_line:i0 l.prog w K mg base "_law_no_line" ["_law_cut","_law_cell"] 3 (spD K mg false K8 2):=⟨f21,_,zS F21 T Z G__law_turned,b21,mg_of X G a21,k21⟩
 have G__law_next:i0 l.prog w K mg base "_law_next" ["_law_cut","_law_cell"] 3 (spD K mg false Q3 2):=⟨f22,_,zf F22 T Z G__law_image G__law_turned G__law_wide,b22,mg_of X G a22,k22⟩
 have G__law_deed:i0 l.prog w K mg base "_law_deed" ["_law_cut","_law_cell","_law_made"] 3 (spP K (K6 (hashStr w)) 2):=⟨f23,_,ze F23 T Z G__law_wide O_Spin O_TurnLine,b23,mg_of X G a23,k23⟩
 have G_check_pair:i0 l.prog w K mg base "check_pair" ["cut","p"] 4 (spD K mg false Bi 2):=⟨f24,_,zA F24 T Z G_has_pair,b24,mg_of X G a24,k24⟩
 have G_triangles:i0 l.prog w K mg base "triangles" ["cut"] 4 (spD K mg true Ba 1):=⟨f25,_,zd F25 T Z G_rooms,b25,mg_of X G a25,k25⟩
 have G_Spin_done:FnOk l.prog w K mg base (CX1 l.prog w) 4 f26 _ ["self","cut"] (spD K mg false Dz 2):=zc F26 T Z G_spun GD_spun
 have G_Mirror_done:FnOk l.prog w K mg base (CX1 l.prog w) 4 f27 _ ["self","cut"] (spD K mg false Eb 2):=zK F27 T Z G_mirrored
 have G_thirds:i0 l.prog w K mg base "thirds" ["cut","p"] 5 (spD K mg true U3 2):=⟨f28,_,xJ F28 T Z G_check_pair G_triangles,b28,mg_of X G a28,k28⟩
 have G_turned:i0 l.prog w K mg base "turned" ["cut","line"] 6 (spD K mg false K3 2):=⟨f29,_,xI F29 T Z G_check_line G_thirds,b29,mg_of X G a29,k29⟩
 have G_TurnLine_done:FnOk l.prog w K mg base (CX1 l.prog w) 7 f30 _ ["self","cut"] (spD K mg false V7 2):=zV F30 T Z G_turned
 have G_TurnLine_back:FnOk l.prog w K mg base (CX1 l.prog w) 7 f31 _ ["self","cut"] (spD K mg false V6 2):=zU F31 T Z G_turned O_TurnLine
 have M_done:Mths l.prog w K mg base "done" 7 2 z9:=⟨by
  intro c g h;simp only [z9] at h;by_cases e:c="Mirror"
  . rw [ζ e] at h;cases h;subst e;exact ⟨_,_,_,_,_,Z.n_Mirror,Z.cl_Mirror,⟨a27,n27,k27⟩,G_Mirror_done,by decide,b27,by decide,fun ds=>P9 ds⟩
  rw [ξ e] at h;by_cases e:c="Spin"
  . rw [ζ e] at h;cases h;subst e;exact ⟨_,_,_,_,_,Z.n_Spin,Z.cl_Spin,⟨a26,n26,k26⟩,G_Spin_done,by decide,b26,by decide,fun ds=>P9 ds⟩
  rw [ξ e] at h;by_cases e:c="TurnLine"
  . rw [ζ e] at h;cases h;subst e;exact ⟨_,_,_,_,_,Z.n_TurnLine,Z.cl_TurnLine,⟨a30,n30,k30⟩,G_TurnLine_done,by decide,b30,by decide,fun ds=>P9 ds⟩
  rw [ξ e] at h;cases h⟩
 have G_walked:i0 l.prog w K mg base "walked" ["cut","deeds"] 8 (spD K mg true B9 2):=⟨f32,_,xH F32 T Z M_done,b32,mg_of X G a32,k32⟩
 have M_back:Mths l.prog w K mg base "back" 7 2 B6:=⟨by
  intro c g h;simp only [B6] at h;by_cases e:c="Mirror"
  . rw [ζ e] at h;cases h;subst e;exact ⟨_,_,_,_,_,Z.n_Mirror,Z.cl_Mirror,⟨a20,n20,k20⟩,G_Mirror_back,by decide,b20,by decide,fun ds=>P9 ds⟩
  rw [ξ e] at h;by_cases e:c="Spin"
  . rw [ζ e] at h;cases h;subst e;exact ⟨_,_,_,_,_,Z.n_Spin,Z.cl_Spin,⟨a19,n19,k19⟩,G_Spin_back,by decide,b19,by decide,fun ds=>P9 ds⟩
  rw [ξ e] at h;by_cases e:c="TurnLine"
  . rw [ζ e] at h;cases h;subst e;exact ⟨_,_,_,_,_,Z.n_TurnLine,Z.cl_TurnLine,⟨a31,n31,k31⟩,G_TurnLine_back,by decide,b31,by decide,fun ds=>P9 ds⟩
  rw [ξ e] at h;cases h⟩
 have G_home:i0 l.prog w K mg base "home" ["cut","deeds"] 8 (spD K mg true B5 2):=⟨f33,_,qK F33 T Z M_back M_done,b33,mg_of X G a33,k33⟩
 have G__law_told:i0 l.prog w K mg base "_law_told" ["_law_way","_law_cut","_law_deeds"] 9 (spD K mg false p9 3):=⟨f34,_,zb F34 T Z G_home G_walked,b34,mg_of X G a34,k34⟩
 exact (jD F35 T Z G__law_deed G__law_glued G__law_next G__law_no_line G__law_pick G__law_told O_TurnLine).imp fun _ _ _ _ z=>z.spD
abbrev kO (n:String) (t1:Nat) (q:String) (t2 t3:Nat) (a b c d e:Int) (r1:Nat) (g:Int) (r2 r3 r4 r5:Nat) (k l:Int) (t4:Nat):Obj:=⟨.type "code",none,.fields [vs n t1,vs q t2,vs "/claim/cut.py" t3,.int a 0,.int b 0,.int c 0,.int d 0,.int e 0,.ref r1,.bool true,.int g 0,.ref r2,.none,.ref r3,.ref r4,.ref r5,.int k 0,.int l 0,vs "/claim/cut.py" t4].toArray,#[]⟩
abbrev kCo (n:String) (t1:Nat) (q:String) (t2 t3:Nat) (a b c d e:Int) (r1:Nat) (g:Int) (r2 r5:Nat) (k l:Int) (t4:Nat):Obj:=⟨.type "code",none,.fields [vs n t1,vs q t2,vs "/claim/cut.py" t3,.int a 0,.int b 0,.int c 0,.int d 0,.int e 0,.ref r1,.bool true,.int g 0,.ref r2,.none,.none,.none,.ref r5,.int k 0,.int l 0,vs "/claim/cut.py" t4].toArray,#[]⟩
abbrev fO (i:Nat) (n m:String) (t r:Nat):Obj:=oF (top i) n n .none .none .none (vs m t) none (.ref r) .none
abbrev cO (n:String) (b a ns r t1 t2:Nat):Obj:=⟨.type "type",none,.cls { name:=Str.ofString n,bases:=[.ref b],mro:=[.ref a,.ref b,.type "ValueError",.type "Exception",.type "BaseException",.type "object"],ns:=ns,qualname:=Str.ofString n,hasDict:=true,slotNames:=[],subclasses:=[],abstract:=false,collection:=none,hasDel:=false },#[some (.ref r),none,some (vs n t1),some (vs n t2),some (.builtin "ValueError.__new__"),some (.bool true)]⟩
def K:Params->Frag:=fun P=>
 (nat_lit 2,⟨.none,none,(.dict [].toArray 0),#[]⟩) ::
 (nat_lit 3,oD [en P "__name__" 165 (vs "law_friezeyard_k89_whole_journeys_home" 535),en P "__doc__" 166 .none,en P "__package__" 167 .none,en P "__loader__" 168 (.builtin "__main__.__loader__#opaque"),en P "__spec__" 169 .none,en P "__annotations__" 170 (.ref 6),en P "__builtins__" 171 (.ref 4),en P "__file__" 173 (vs "/claim/cut.py" 172),en P "__cached__" 174 .none,en P "_wall" 193 (.ref 21),en P "walked" 205 (.ref 28),en P "home" 216 (.ref 35),en P "FloorError" 236 (.ref 45),en P "NoLine" 252 (.ref 58),en P "is_whole" 261 (.ref 67),en P "pair" 269 (.ref 74),en P "is_side" 279 (.ref 81),en P "is_two" 288 (.ref 88),en P "has_pair" 296 (.ref 95),en P "check_line" 304 (.ref 102),en P "check_pair" 312 (.ref 109),en P "rooms" 320 (.ref 114),en P "room_under" 329 (.ref 121),en P "corner_behind" 335 (.ref 126),en P "triangles" 342 (.ref 133),en P "thirds" 348 (.ref 138),en P "spun" 357 (.ref 144),en P "mirrored" 363 (.ref 149),en P "image" 369 (.ref 154),en P "turned" 377 (.ref 159),en P "Deed" 399 (.ref 169),en P "TurnLine" 447 (.ref 211),en P "Spin" 495 (.ref 251),en P "Mirror" 534 (.ref 284),en P "_law_pick" 544 (.ref 293),en P "_law_put_on" 550 (.ref 298),en P "_law_glued" 560 (.ref 305),en P "_law_image" 574 (.ref 312),en P "_law_joined" 585 (.ref 319),en P "_law_turned" 591 (.ref 324),en P "_law_no_line" 597 (.ref 329),en P "_law_wide" 604 (.ref 336),en P "_law_next" 612 (.ref 343),en P "_law_deed" 623 (.ref 350),en P "_law_told" 633 (.ref 357),en P "law" 639 (.ref 362)] 46) ::
 (nat_lit 15,oT []) ::
 (nat_lit 17,oT [(vs "k" 190)]) ::
 (nat_lit 18,oT []) ::
 (nat_lit 20,(kO "_wall" 187 "_wall" 188 189 1 1 0 0 3 15 181 16 17 18 19 191 1 192)) ::
 (nat_lit 21,(fO 0 "_wall" "__main__" 164 20)) ::
 (nat_lit 22,oT []) ::
 (nat_lit 24,oT [(vs "cut" 199),(vs "deeds" 200),(vs "found" 201),(vs "deed" 202)]) ::
 (nat_lit 25,oT []) ::
 (nat_lit 27,(kO "walked" 196 "walked" 197 198 5 2 0 0 3 22 181 23 24 25 26 203 5 204)) ::
 (nat_lit 28,(fO 2 "walked" "friezeyard.journeys" 194 27)) ::
 (nat_lit 29,oT []) ::
 (nat_lit 31,oT [(vs "cut" 209),(vs "deeds" 210),(vs "backs" 211),(vs "now" 212),(vs "deed" 213)]) ::
 (nat_lit 32,oT []) ::
 (nat_lit 34,(kO "home" 206 "home" 207 208 10 2 0 0 3 29 181 30 31 32 33 214 10 215)) ::
 (nat_lit 35,(fO 3 "home" "friezeyard.journeys" 194 34)) ::
 (nat_lit 36,oT [(.type "ValueError")]) ::
 (nat_lit 43,oT []) ::
 (nat_lit 44,oD [en P "__module__" 226 (vs "friezeyard.errors" 217),en P "__firstlineno__" 230 (.int 18 229),en P "__static_attributes__" 231 (.ref 43),en P "__weakref__" 233 (.ref 46),en P "__doc__" 234 .none] 3) ::
 (nat_lit 45,⟨(.type "type"),none,(.cls { name:=Str.ofString "FloorError",bases:=[(.type "ValueError")],mro:=[(.ref 45),(.type "ValueError"),(.type "Exception"),(.type "BaseException"),(.type "object")],ns:=44,qualname:=Str.ofString "FloorError",hasDict:=true,slotNames:=[],subclasses:=[(.ref 58)],abstract:=false,collection:=none,hasDel:=false }),#[some (.ref 36),none,some (vs "FloorError" 219),some (vs "FloorError" 227),some (.builtin "ValueError.__new__"),some (.bool true)]⟩) ::
 (nat_lit 46,⟨(.type "getset_descriptor"),none,(.fields [(vs "__weakref__" 232),(.ref 45),(.builtin "ExceptionGroup.__weakref__"),.none].toArray),#[]⟩) ::
 (nat_lit 49,oT [(.ref 45)]) ::
 (nat_lit 56,oT []) ::
 (nat_lit 57,oD [en P "__module__" 244 (vs "friezeyard.errors" 217),en P "__firstlineno__" 248 (.int 20 247),en P "__static_attributes__" 249 (.ref 56),en P "__doc__" 250 .none] 2) ::
 (nat_lit 58,(cO "NoLine" 45 58 57 49 237 245)) ::
 (nat_lit 61,oT []) ::
 (nat_lit 63,oT [(vs "thing" 258)]) ::
 (nat_lit 64,oT []) ::
 (nat_lit 66,(kO "is_whole" 255 "is_whole" 256 257 23 1 0 0 3 61 181 62 63 64 65 259 23 260)) ::
 (nat_lit 67,(fO 8 "is_whole" "friezeyard.pairs" 253 66)) ::
 (nat_lit 68,oT []) ::
 (nat_lit 70,oT [(vs "a" 265),(vs "b" 266)]) ::
 (nat_lit 71,oT []) ::
 (nat_lit 73,(kO "pair" 262 "pair" 263 264 25 2 0 0 3 68 181 69 70 71 72 267 25 268)) ::
 (nat_lit 74,(fO 9 "pair" "friezeyard.pairs" 253 73)) ::
 (nat_lit 75,oT []) ::
 (nat_lit 77,oT [(vs "n" 273),(vs "p" 274),(vs "a" 275),(vs "b" 276)]) ::
 (nat_lit 78,oT []) ::
 (nat_lit 80,(kO "is_side" 270 "is_side" 271 272 27 2 0 0 3 75 181 76 77 78 79 277 27 278)) ::
 (nat_lit 81,(fO 10 "is_side" "friezeyard.pairs" 253 80)) ::
 (nat_lit 82,oT []) ::
 (nat_lit 84,oT [(vs "thing" 285)]) ::
 (nat_lit 85,oT []) ::
 (nat_lit 87,(kO "is_two" 282 "is_two" 283 284 34 1 0 0 3 82 181 83 84 85 86 286 34 287)) ::
 (nat_lit 88,(fO 12 "is_two" "friezeyard.common" 280 87)) ::
 (nat_lit 89,oT []) ::
 (nat_lit 91,oT [(vs "cut" 292),(vs "p" 293)]) ::
 (nat_lit 92,oT []) ::
 (nat_lit 94,(kO "has_pair" 289 "has_pair" 290 291 36 2 0 0 3 89 181 90 91 92 93 294 36 295)) ::
 (nat_lit 95,(fO 13 "has_pair" "friezeyard.common" 280 94)) ::
 (nat_lit 96,oT []) ::
 (nat_lit 98,oT [(vs "cut" 300),(vs "p" 301)]) ::
 (nat_lit 99,oT []) ::
 (nat_lit 101,(kO "check_line" 297 "check_line" 298 299 38 2 0 0 3 96 181 97 98 99 100 302 38 303)) ::
 (nat_lit 102,(fO 14 "check_line" "friezeyard.common" 280 101)) ::
 (nat_lit 103,oT []) ::
 (nat_lit 105,oT [(vs "cut" 308),(vs "p" 309)]) ::
 (nat_lit 106,oT []) ::
 (nat_lit 108,(kO "check_pair" 305 "check_pair" 306 307 41 2 0 0 3 103 181 104 105 106 107 310 41 311)) ::
 (nat_lit 109,(fO 15 "check_pair" "friezeyard.common" 280 108)) ::
 (nat_lit 110,oT []) ::
 (nat_lit 113,(kCo "rooms" 315 "rooms" 316 317 45 2 0 0 3 110 181 111 112 318 45 319)) ::
 (nat_lit 114,(fO 17 "rooms" "friezeyard.rooms" 313 113)) ::
 (nat_lit 115,oT []) ::
 (nat_lit 117,oT [(vs "top" 324),(vs "lines" 325),(vs "room" 326)]) ::
 (nat_lit 118,oT []) ::
 (nat_lit 120,(kO "room_under" 321 "room_under" 322 323 48 2 0 0 3 115 181 116 117 118 119 327 48 328)) ::
 (nat_lit 121,(fO 18 "room_under" "friezeyard.rooms" 313 120)) ::
 (nat_lit 122,oT []) ::
 (nat_lit 125,(kCo "corner_behind" 330 "corner_behind" 331 332 53 3 0 0 3 122 181 123 124 333 53 334)) ::
 (nat_lit 126,(fO 19 "corner_behind" "friezeyard.rooms" 313 125)) ::
 (nat_lit 127,oT []) ::
 (nat_lit 129,oT [(vs "cut" 339)]) ::
 (nat_lit 130,oT []) ::
 (nat_lit 132,(kO "triangles" 336 "triangles" 337 338 56 1 0 0 3 127 181 128 129 130 131 340 56 341)) ::
 (nat_lit 133,(fO 20 "triangles" "friezeyard.rooms" 313 132)) ::
 (nat_lit 134,oT []) ::
 (nat_lit 137,(kCo "thirds" 343 "thirds" 344 345 58 2 0 0 3 134 181 135 136 346 58 347)) ::
 (nat_lit 138,(fO 21 "thirds" "friezeyard.rooms" 313 137)) ::
 (nat_lit 139,oT [(.int 1 351)]) ::
 (nat_lit 140,oT []) ::
 (nat_lit 143,(kCo "spun" 352 "spun" 353 354 63 2 0 0 3 140 181 141 142 355 63 356)) ::
 (nat_lit 144,oF (top 23) "spun" "spun" (.ref 139) .none .none (vs "friezeyard.images" 349) none (.ref 143) .none) ::
 (nat_lit 145,oT []) ::
 (nat_lit 148,(kCo "mirrored" 358 "mirrored" 359 360 66 1 0 0 3 145 181 146 147 361 66 362)) ::
 (nat_lit 149,(fO 24 "mirrored" "friezeyard.images" 349 148)) ::
 (nat_lit 150,oT []) ::
 (nat_lit 153,(kCo "image" 364 "image" 365 366 69 2 0 0 3 150 181 151 152 367 69 368)) ::
 (nat_lit 154,(fO 25 "image" "friezeyard.images" 349 153)) ::
 (nat_lit 155,oT []) ::
 (nat_lit 158,(kCo "turned" 372 "turned" 373 374 72 2 0 0 3 155 181 156 157 375 72 376)) ::
 (nat_lit 159,(fO 27 "turned" "friezeyard.turns" 370 158)) ::
 (nat_lit 167,oT []) ::
 (nat_lit 168,oD [en P "__module__" 387 (vs "friezeyard.deeds" 378),en P "__firstlineno__" 391 (.int 78 390),en P "__static_attributes__" 392 (.ref 167),en P "__dict__" 394 (.ref 170),en P "__weakref__" 396 (.ref 171),en P "__doc__" 397 .none] 4) ::
 (nat_lit 169,⟨(.type "type"),none,(.cls { name:=Str.ofString "Deed",bases:=[(.type "object")],mro:=[(.ref 169),(.type "object")],ns:=168,qualname:=Str.ofString "Deed",hasDict:=true,slotNames:=[],subclasses:=[(.ref 211),(.ref 251),(.ref 284)],abstract:=false,collection:=none,hasDel:=false }),#[none,none,some (vs "Deed" 380),some (vs "Deed" 388),some (.builtin "object.__new__"),some (.bool true)]⟩) ::
 (nat_lit 170,⟨(.type "getset_descriptor"),none,(.fields [(vs "__dict__" 393),(.ref 169),(.builtin "function.__dict__"),(.builtin "function.__dict__#set")].toArray),#[]⟩) ::
 (nat_lit 171,⟨(.type "getset_descriptor"),none,(.fields [(vs "__weakref__" 395),(.ref 169),(.builtin "ExceptionGroup.__weakref__"),.none].toArray),#[]⟩) ::
 (nat_lit 174,oT [(.ref 169)]) ::
 (nat_lit 181,oT []) ::
 (nat_lit 183,oT [(vs "self" 415),(vs "line" 416)]) ::
 (nat_lit 184,oT []) ::
 (nat_lit 186,(kO "__init__" 412 "TurnLine.__init__" 413 414 82 2 0 0 3 181 181 182 183 184 185 417 82 418)) ::
 (nat_lit 187,oF (G4 (top 30) 0) "__init__" "TurnLine.__init__" .none .none .none (vs "friezeyard.deeds" 378) none (.ref 186) .none) ::
 (nat_lit 188,oT []) ::
 (nat_lit 190,oT [(vs "self" 423),(vs "cut" 424)]) ::
 (nat_lit 191,oT []) ::
 (nat_lit 193,(kO "done" 420 "TurnLine.done" 421 422 85 2 0 0 3 188 181 189 190 191 192 425 85 426)) ::
 (nat_lit 194,oF (G4 (top 30) 1) "done" "TurnLine.done" .none .none .none (vs "friezeyard.deeds" 378) none (.ref 193) .none) ::
 (nat_lit 195,oT []) ::
 (nat_lit 197,oT [(vs "self" 431),(vs "cut" 432)]) ::
 (nat_lit 198,oT []) ::
 (nat_lit 200,(kO "back" 428 "TurnLine.back" 429 430 88 2 0 0 3 195 181 196 197 198 199 433 88 434)) ::
 (nat_lit 201,oF (G4 (top 30) 2) "back" "TurnLine.back" .none .none .none (vs "friezeyard.deeds" 378) none (.ref 200) .none) ::
 (nat_lit 202,oT []) ::
 (nat_lit 204,oT [(vs "self" 439)]) ::
 (nat_lit 205,oT []) ::
 (nat_lit 207,(kO "shown" 436 "TurnLine.shown" 437 438 91 1 0 0 3 202 181 203 204 205 206 440 91 441)) ::
 (nat_lit 208,oF (G4 (top 30) 3) "shown" "TurnLine.shown" .none .none .none (vs "friezeyard.deeds" 378) none (.ref 207) .none) ::
 (nat_lit 209,oT [(vs "line" 443)]) ::
 (nat_lit 210,oD [en P "__module__" 407 (vs "friezeyard.deeds" 378),en P "__firstlineno__" 411 (.int 80 410),en P "__init__" 419 (.ref 187),en P "done" 427 (.ref 194),en P "back" 435 (.ref 201),en P "shown" 442 (.ref 208),en P "__static_attributes__" 444 (.ref 209),en P "__doc__" 445 .none] 2) ::
 (nat_lit 211,⟨(.type "type"),none,(.cls { name:=Str.ofString "TurnLine",bases:=[(.ref 169)],mro:=[(.ref 211),(.ref 169),(.type "object")],ns:=210,qualname:=Str.ofString "TurnLine",hasDict:=true,slotNames:=[],subclasses:=[],abstract:=false,collection:=none,hasDel:=false }),#[some (.ref 174),none,some (vs "TurnLine" 400),some (vs "TurnLine" 408),some (.builtin "object.__new__"),some (.bool true)]⟩) ::
 (nat_lit 214,oT [(.ref 169)]) ::
 (nat_lit 221,oT []) ::
 (nat_lit 223,oT [(vs "self" 463),(vs "by" 464)]) ::
 (nat_lit 224,oT []) ::
 (nat_lit 226,(kO "__init__" 460 "Spin.__init__" 461 462 95 2 0 0 3 221 181 222 223 224 225 465 95 466)) ::
 (nat_lit 227,oF (G4 (top 31) 0) "__init__" "Spin.__init__" .none .none .none (vs "friezeyard.deeds" 378) none (.ref 226) .none) ::
 (nat_lit 228,oT []) ::
 (nat_lit 230,oT [(vs "self" 471),(vs "cut" 472)]) ::
 (nat_lit 231,oT []) ::
 (nat_lit 233,(kO "done" 468 "Spin.done" 469 470 98 2 0 0 3 228 181 229 230 231 232 473 98 474)) ::
 (nat_lit 234,oF (G4 (top 31) 1) "done" "Spin.done" .none .none .none (vs "friezeyard.deeds" 378) none (.ref 233) .none) ::
 (nat_lit 235,oT []) ::
 (nat_lit 237,oT [(vs "self" 479),(vs "cut" 480)]) ::
 (nat_lit 238,oT []) ::
 (nat_lit 240,(kO "back" 476 "Spin.back" 477 478 101 2 0 0 3 235 181 236 237 238 239 481 101 482)) ::
 (nat_lit 241,oF (G4 (top 31) 2) "back" "Spin.back" .none .none .none (vs "friezeyard.deeds" 378) none (.ref 240) .none) ::
 (nat_lit 242,oT []) ::
 (nat_lit 244,oT [(vs "self" 487)]) ::
 (nat_lit 245,oT []) ::
 (nat_lit 247,(kO "shown" 484 "Spin.shown" 485 486 104 1 0 0 3 242 181 243 244 245 246 488 104 489)) ::
 (nat_lit 248,oF (G4 (top 31) 3) "shown" "Spin.shown" .none .none .none (vs "friezeyard.deeds" 378) none (.ref 247) .none) ::
 (nat_lit 249,oT [(vs "by" 491)]) ::
 (nat_lit 250,oD [en P "__module__" 455 (vs "friezeyard.deeds" 378),en P "__firstlineno__" 459 (.int 93 458),en P "__init__" 467 (.ref 227),en P "done" 475 (.ref 234),en P "back" 483 (.ref 241),en P "shown" 490 (.ref 248),en P "__static_attributes__" 492 (.ref 249),en P "__doc__" 493 .none] 2) ::
 (nat_lit 251,⟨(.type "type"),none,(.cls { name:=Str.ofString "Spin",bases:=[(.ref 169)],mro:=[(.ref 251),(.ref 169),(.type "object")],ns:=250,qualname:=Str.ofString "Spin",hasDict:=true,slotNames:=[],subclasses:=[],abstract:=false,collection:=none,hasDel:=false }),#[some (.ref 214),none,some (vs "Spin" 448),some (vs "Spin" 456),some (.builtin "object.__new__"),some (.bool true)]⟩) ::
 (nat_lit 254,oT [(.ref 169)]) ::
 (nat_lit 261,oT []) ::
 (nat_lit 263,oT [(vs "self" 511),(vs "cut" 512)]) ::
 (nat_lit 264,oT []) ::
 (nat_lit 266,(kO "done" 508 "Mirror.done" 509 510 108 2 0 0 3 261 181 262 263 264 265 513 108 514)) ::
 (nat_lit 267,oF (G4 (top 32) 0) "done" "Mirror.done" .none .none .none (vs "friezeyard.deeds" 378) none (.ref 266) .none) ::
 (nat_lit 268,oT []) ::
 (nat_lit 270,oT [(vs "self" 519),(vs "cut" 520)]) ::
 (nat_lit 271,oT []) ::
 (nat_lit 273,(kO "back" 516 "Mirror.back" 517 518 111 2 0 0 3 268 181 269 270 271 272 521 111 522)) ::
 (nat_lit 274,oF (G4 (top 32) 1) "back" "Mirror.back" .none .none .none (vs "friezeyard.deeds" 378) none (.ref 273) .none) ::
 (nat_lit 275,oT []) ::
 (nat_lit 277,oT [(vs "self" 527)]) ::
 (nat_lit 278,oT []) ::
 (nat_lit 280,(kO "shown" 524 "Mirror.shown" 525 526 114 1 0 0 3 275 181 276 277 278 279 528 114 529)) ::
 (nat_lit 281,oF (G4 (top 32) 2) "shown" "Mirror.shown" .none .none .none (vs "friezeyard.deeds" 378) none (.ref 280) .none) ::
 (nat_lit 282,oT []) ::
 (nat_lit 283,oD [en P "__module__" 503 (vs "friezeyard.deeds" 378),en P "__firstlineno__" 507 (.int 106 506),en P "done" 515 (.ref 267),en P "back" 523 (.ref 274),en P "shown" 530 (.ref 281),en P "__static_attributes__" 531 (.ref 282),en P "__doc__" 532 .none] 2) ::
 (nat_lit 284,⟨(.type "type"),none,(.cls { name:=Str.ofString "Mirror",bases:=[(.ref 169)],mro:=[(.ref 284),(.ref 169),(.type "object")],ns:=283,qualname:=Str.ofString "Mirror",hasDict:=true,slotNames:=[],subclasses:=[],abstract:=false,collection:=none,hasDel:=false }),#[some (.ref 254),none,some (vs "Mirror" 496),some (vs "Mirror" 504),some (.builtin "object.__new__"),some (.bool true)]⟩) ::
 (nat_lit 287,oT []) ::
 (nat_lit 289,oT [(vs "_law_script" 540),(vs "_law_k" 541)]) ::
 (nat_lit 290,oT []) ::
 (nat_lit 292,(kO "_law_pick" 537 "_law_pick" 538 539 117 2 0 0 3 287 181 288 289 290 291 542 117 543)) ::
 (nat_lit 293,(fO 34 "_law_pick" "law_friezeyard_k89_whole_journeys_home" 535 292)) ::
 (nat_lit 294,oT []) ::
 (nat_lit 297,(kCo "_law_put_on" 545 "_law_put_on" 546 547 119 3 0 0 3 294 181 295 296 548 119 549)) ::
 (nat_lit 298,(fO 35 "_law_put_on" "law_friezeyard_k89_whole_journeys_home" 535 297)) ::
 (nat_lit 299,oT []) ::
 (nat_lit 301,oT [(vs "_law_cells" 554),(vs "_law_n" 555),(vs "_law_lines" 556),(vs "_law_cell" 557)]) ::
 (nat_lit 302,oT []) ::
 (nat_lit 304,(kO "_law_glued" 551 "_law_glued" 552 553 124 1 0 0 3 299 181 300 301 302 303 558 124 559)) ::
 (nat_lit 305,(fO 36 "_law_glued" "law_friezeyard_k89_whole_journeys_home" 535 304)) ::
 (nat_lit 306,oT []) ::
 (nat_lit 308,oT [(vs "_law_cut" 564),(vs "_law_by" 565),(vs "_law_sign" 566),(vs "_law_n" 567),(vs "_law_lines" 568),(vs "_law_a" 569),(vs "_law_b" 570),(vs "_law_ends" 571)]) ::
 (nat_lit 309,oT []) ::
 (nat_lit 311,(kO "_law_image" 561 "_law_image" 562 563 131 3 0 0 3 306 181 307 308 309 310 572 131 573)) ::
 (nat_lit 312,(fO 37 "_law_image" "law_friezeyard_k89_whole_journeys_home" 535 311)) ::
 (nat_lit 313,oT []) ::
 (nat_lit 315,oT [(vs "_law_cut" 578),(vs "_law_a" 579),(vs "_law_b" 580),(vs "_law_low" 581),(vs "_law_high" 582)]) ::
 (nat_lit 316,oT []) ::
 (nat_lit 318,(kO "_law_joined" 575 "_law_joined" 576 577 138 3 0 0 3 313 181 314 315 316 317 583 138 584)) ::
 (nat_lit 319,(fO 38 "_law_joined" "law_friezeyard_k89_whole_journeys_home" 535 318)) ::
 (nat_lit 320,oT []) ::
 (nat_lit 323,(kCo "_law_turned" 586 "_law_turned" 587 588 142 2 0 0 3 320 181 321 322 589 142 590)) ::
 (nat_lit 324,(fO 39 "_law_turned" "law_friezeyard_k89_whole_journeys_home" 535 323)) ::
 (nat_lit 325,oT []) ::
 (nat_lit 328,(kCo "_law_no_line" 592 "_law_no_line" 593 594 148 2 0 0 3 325 181 326 327 595 148 596)) ::
 (nat_lit 329,(fO 40 "_law_no_line" "law_friezeyard_k89_whole_journeys_home" 535 328)) ::
 (nat_lit 330,oT []) ::
 (nat_lit 332,oT [(vs "_law_cell" 601)]) ::
 (nat_lit 333,oT []) ::
 (nat_lit 335,(kO "_law_wide" 598 "_law_wide" 599 600 156 1 0 0 3 330 181 331 332 333 334 602 156 603)) ::
 (nat_lit 336,(fO 41 "_law_wide" "law_friezeyard_k89_whole_journeys_home" 535 335)) ::
 (nat_lit 337,oT []) ::
 (nat_lit 339,oT [(vs "_law_cut" 608),(vs "_law_cell" 609)]) ::
 (nat_lit 340,oT []) ::
 (nat_lit 342,(kO "_law_next" 605 "_law_next" 606 607 160 2 0 0 3 337 181 338 339 340 341 610 160 611)) ::
 (nat_lit 343,(fO 42 "_law_next" "law_friezeyard_k89_whole_journeys_home" 535 342)) ::
 (nat_lit 344,oT []) ::
 (nat_lit 346,oT [(vs "_law_cut" 616),(vs "_law_cell" 617),(vs "_law_made" 618),(vs "_law_line" 619),(vs "_law_by" 620)]) ::
 (nat_lit 347,oT []) ::
 (nat_lit 349,(kO "_law_deed" 613 "_law_deed" 614 615 166 3 0 0 3 344 181 345 346 347 348 621 166 622)) ::
 (nat_lit 350,(fO 43 "_law_deed" "law_friezeyard_k89_whole_journeys_home" 535 349)) ::
 (nat_lit 351,oT []) ::
 (nat_lit 353,oT [(vs "_law_way" 627),(vs "_law_cut" 628),(vs "_law_deeds" 629),(vs "_law_found" 630)]) ::
 (nat_lit 354,oT []) ::
 (nat_lit 356,(kO "_law_told" 624 "_law_told" 625 626 174 3 0 0 3 351 181 352 353 354 355 631 174 632)) ::
 (nat_lit 357,(fO 44 "_law_told" "law_friezeyard_k89_whole_journeys_home" 535 356)) ::
 (nat_lit 358,oT []) ::
 (nat_lit 361,(kCo "law" 634 "law" 635 636 184 1 0 0 3 358 181 359 360 637 184 638)) ::
 (nat_lit 362,(fO 45 "law" "law_friezeyard_k89_whole_journeys_home" 535 361))::[]
noncomputable def places:List Addr:=[2,3,15,17,18,20,21,22,24,25,27,28,29,31,32,34,35,36,43,44,45,46,49,56,57,58,61,63,64,66,67,68,70,71,73,74,75,77,78,80,81,82,84,85,87,88,89,91,92,94,95,96,98,99,101,102,103,105,106,108,109,110,113,114,115,117,118,120,121,122,125,126,127,129,130,132,133,134,137,138,139,140,143,144,145,148,149,150,153,154,155,158,159,167,168,169,170,171,174,181,183,184,186,187,188,190,191,193,194,195,197,198,200,201,202,204,205,207,208,209,210,211,214,221,223,224,226,227,228,230,231,233,234,235,237,238,240,241,242,244,245,247,248,249,250,251,254,261,263,264,266,267,268,270,271,273,274,275,277,278,280,281,282,283,284,287,289,290,292,293,294,297,298,299,301,302,304,305,306,308,309,311,312,313,315,316,318,319,320,323,324,325,328,329,330,332,333,335,336,337,339,340,342,343,344,346,347,349,350,351,353,354,356,357,358,361,362]
theorem wy:∀P,places=(K P).map (·.1):=fun _=>by kernel_rfl
def hook:PySem.W.Hook:=PySem.W.kHook K places wy
abbrev loose:List Str:=["spun"]
noncomputable def q:Program:=PySem.W.view PySem.Challenge.pw_friezeyard_k89_whole_journeys_home [0,2,3,5,6,8,9,10,12,13,14,15,17,18,19,20,21,24,25,27,29,30,31,32,34,35,36,37,38,39,40,41,42,43,44,45]
def xtH (s:Shared):Bool:=PySem.W.xlAt q [] s&&PySem.W.recOk (PySem.W.RowW.records PySem.Challenge.rw_friezeyard_k89_whole_journeys_home.row.toRowW) s
def out (w:World) (os:OsState):=outAt PySem.Challenge.pw_friezeyard_k89_whole_journeys_home q K89.loose xtH (fun s=>places.map s.heap.get?) 5254 w os
def good:=PySem.W.openGood q K89.loose
example:((fun (_:Params->Obj) (_:Str)=>true) PySem.W.boot_o_0 (Str.ofString "dull"))=true:=by k_qdec
lay_quick out good
theorem jC:∀w os,out w os=some (true,good,(K w.params).map fun p=>some p.2):=fun w os=>(congrFun (congrFun PySem.W.Fast.te13714270236447107506 w) os).trans (by rw [PySem.W.Fast.te10150580690636614082];kernel_rfl)
theorem left:PySem.W.LeftO PySem.Challenge.pw_friezeyard_k89_whole_journeys_home q K89.loose xtH (PySem.W.Hook.obs hook) (PySem.W.Hook.val hook) 5254:=qR (by kernel_rfl) (by kernel_rfl) (fun _=>by kernel_rfl) jC
end K89
namespace K89
open L2 Cu
local macro_rules | `(tactic| walk_at "dz")=>do
 let a:=("Cv,Fv,zzk,zuw,zuv,zyv,Fk,sNx,y2h,G2,zyy,y2e,L9,Cw,P6,zux,zuy,zqg,wq,wo,zun,zuq,zuo,zup,zqe,zur,zus,zut,zuu,zqf,zqh,Kj,zzl,zzm,zzn,Jk,Jj,zuz,Ki,Ln,zqi,zv0,zvt,y00,y01,y02,zvu,zvv,zqt,zqu,zll,zqj,zlm,zln,zlo,Vi,zvq,zr,zr0,zv1,zv2,xS,zv3,zqk,zql,zqm,zqn,S1,Kk,Option.bind_some,Bool.and_true,Bool.true_and,kc,zzo,zzp,zzq,y2q,y2r,eC,eOp,eUn,d9,d7,i7,eCB,p7,t8,eIf,eSl,oSo,oNo,zvw,G3,bOr,C4,i6,D6,eOr,y2b,y2c,zyq,zyr,zto,ztp,t9,iL,zqy,zqz,zqs,zqq,zqr,L2.R.bind_ok,L2.R.of_some,w4,t7,J7,dLe,S0,dGe,zzr,D5,zzs,znd,zv5,zv6,zv7,zv8,zv9,zva,zvb,wm,wl,zvc,zvd,zve,zvg,wj,zvh,zzu,zvr,zzv,zzz,y04,zvy,zvz,zr2,zr3,Vh,zlr,y2s,zvs,zzy,y2t,y2u,Jl,Jm,y05,y06,zw3,zw4,zw5,zw6,zw7,y07,y08,zls,T7,wf,zzt,zvi,zvj,zqo,zvk,zvl,zvm,Sd,wg,Sc,T8,zvn,zvo,zvp,zqp,List.map_cons,List.map_nil,List.length_cons,List.length_nil,List.cons_append,List.nil_append,List.replicate_succ,List.replicate_zero,List.getElem?_cons_zero,List.getElem?_cons_succ,List.set_cons_zero,List.set_cons_succ,Option.map_some,Option.getD_some,if_true,if_false,Bool.false_eq_true,Bool.not_true,Bool.not_false,Bool.and_false,Bool.false_and,Bool.or_true,Bool.true_or,Bool.or_false,Bool.false_or,Nat.reduceAdd,Nat.reduceLeDiff,Nat.reduceEqDiff,reduceCtorEq,decide_true,decide_false,Int.reduceEq".splitOn ",").toArray.map fun s=>Lean.mkIdent s.toName
 `(tactic| try simp (implicitDefEqProofs:=false) only [$[$a:term],*])
theorem Li {α:Type} (ls:List α) (f:α->D) (n:Nat) (hn:n<=20) (h1:∀x,(f x).oi=true) (h2:∀x,(f x).dep<=n) (h3:∀x y,(j6 (f x) (f y)).isSome=true) (h4:((ls.map f).all isI||(ls.map f).all E1||(ls.map f).all N6)=true) (hl:ls.length<64):C7 [.lst (ls.map f)]=some (.lst (y6 (ls.map f))):=by
 have ok:Dl (ls.map f)=true:=by unfold Dl;rw [M5 _ _ h1,decide_eq_true (Nat.le_trans (M8 ls f n h2) hn),C9 ls f (fun d=>(ls.map f).all fun e=>(j6 d e).isSome) (fun x=>C9 _ _ _ fun y=>h3 x y),h4,List.length_map,decide_eq_true hl];rfl
 simp only [C7,ok,if_true]
theorem sorted_T2 (ls:List P2) (hl:ls.length<64):C7 [.lst (ls.map T2)]=some (.lst ((so2 ls).map T2)):=by rw [Li ls T2 1 (by decide) Fc P4 Pw (by rw [C9 ls T2 E1 fun _=>rfl,Bool.or_true,Bool.true_or]) hl,Dn]
theorem sorted_T3 (ls:List P3) (hl:ls.length<64):C7 [.lst (ls.map T3)]=some (.lst ((so3 ls).map T3)):=by rw [Li ls T3 1 (by decide) Hs Px Pv (by rw [C9 ls T3 E1 fun _=>rfl,Bool.or_true,Bool.true_or]) hl,Fy]
theorem sorted_I (ls:List Int) (hl:ls.length<64):C7 [L ls]=some (L (soI ls)):=by unfold L;rw [Li ls D.int 0 (by decide) Eh (fun _=>by simp [D.dep]) (fun _ _=>rfl) (by rw [C9 ls D.int isI fun _=>rfl];rfl) hl,Dm]
theorem jB (d:Int) (ns:List Int):X5 [L ns,.int d]=some (.int (mxD d ns)):=by simp only [L,X5,Ml,Option.map_some]
theorem wx (c:Int) (p:P2) (ls:List P2) (hl:ls.length<=1000):Bw [.int c,T2 p,.tup (ls.map T2)]=.ok (.int (mxD (c+1) (ends c p ls))):=by
 unfold Bw Xf;walk_at "dz";rw [ζ (by rw [List.length_map];omega),U9 (en:=T2) (bs:=fun l=>[T2 l]) (p:=pk c p) (g:=fun l=>D.int l.2) ls (fun x _=>rfl) (fun l _=>by
  unfold Xj;simp only [T2];walk_at "dz";rfl) (fun l _ _=>by
  unfold Xi;simp only [T2];walk_at "dz")]
 simp only [R.bind_ok];rw [show D.lst ((ls.filter (pk c p)).map fun l=>D.int l.2)=L (ends c p ls) by unfold L ends;rw [List.map_map];rfl];walk_at "dz";rw [jB];walk_at "dz"
theorem Lh (t:DE->R Bool) (g:DS->SR) (n:Nat) (ρ:DS):M6 t g (n+1) ρ=(t (see ρ)).toS fun b=>if b=true then (g ρ).itr (M6 t g n) else .nx ρ:=by rw [M6];congr 1
theorem Pb (xs:List Int) (v:Int):dIx (L (xs++[v])) (.int (-1))=some (.int v):=by
 have:(xs++[v]).map D.int=xs.map D.int++[D.int v]:=by simp
 simp only [L,dIx,dOr,z5,this,xq]
theorem Ko (ls:List P2) (p:P2) (xs:List Int) (v:Int):Gq [some (T2 p),some (.tup (ls.map T2)),some (L (xs++[v]))]=.ok (decide (v<p.2)):=by unfold Gq;simp only [T2];walk_at "dz";rw [Pb];walk_at "dz"
theorem Rl (ls:List P2) (hl:ls.length<=1000) (p:P2) (xs:List Int) (v:Int) (hx:xs.length<1000):Gp [.im (T2 p),.im (.tup (ls.map T2)),.ow (L (xs++[v]))]=.nx [.im (T2 p),.im (.tup (ls.map T2)),.ow (L (xs++[v]++[mxD (v+1) (ends v p ls)]))]:=by unfold Gp;walk_at "dz";rw [Pb];walk_at "dz";rw [wx _ _ _ hl];walk_at "dz";rw [Yv (by simp;omega)];walk_at "dz"
theorem qJ {n:Int} {ls ls':List P2} {T:List P3} (I:CInv n ls T) (p:ls'.Perm ls) (hl:ls'.length<=1000) (a c b:Int) (h:(a,c,b)∈T) :
  Bj [T2 (a,b),.tup (ls'.map T2)]=.ok (T3 (a,c,b)):=by
 obtain ⟨g1,g2,g3,g4,_⟩:=I.tri a c b h
 unfold Bj Wo
 walk_at "dz"
 have w:Dg 1000 Gq Gp [.im (T2 (a,b)),.im (.tup (ls'.map T2)),.ow (L [a])]=.nx [.im (T2 (a,b)),.im (.tup (ls'.map T2)),.ow (L [a,c,b])]:=by have t1:=Ko ls' (a,b) [] a;have t2:=Ko ls' (a,b) [a] c;have t3:=Ko ls' (a,b) [a,c] b;have b1:=Rl ls' hl (a,b) [] a (by simp);have b2:=Rl ls' hl (a,b) [a] c (by simp);rw [I.beh1 p h] at b1;rw [I.beh2 p h] at b2;simp only [List.nil_append,List.cons_append] at t1 t2 t3 b1 b2;unfold Dg;rw [show (1000:Nat)=997+1+1+1 from rfl,Lh];simp only [Jj,Ki,Ln,Jk];rw [t1,P6,decide_eq_true (show a<b by omega),ζ rfl,b1,T8,Lh];simp only [Jj,Ki,Ln,Jk];rw [t2,P6,decide_eq_true (show c<b by omega),ζ rfl,b2,T8,Lh];simp only [Jj,Ki,Ln,Jk];rw [t3,P6,decide_eq_false (show ¬b<b by omega),ξ θ]
 rw [show D.lst [D.int a]=L [a] from rfl,w]
 walk_at "dz"
 rfl
theorem qH {n:Int} {ls ls':List P2} {T:List P3} (I:CInv n ls T) (p:ls'.Perm ls) (hl:ls.length<=60) :
  Z6 [.int n,.tup (ls'.map T2)]=.ok (.lst ((so3 T).map T3)):=by
 have hl':ls'.length<=60:=by rw [p.length_eq];exact hl
 unfold Z6 Rn
 walk_at "dz"
 rw [show A6 (D.lst [D.tup [D.int 0,D.int (n - 1)]]) (D.lst (ls'.map T2))=some (.lst (((0,n - 1)::ls').map T2)) by simp only [A6];rw [ζ (by simp;omega)];rfl]
 obtain ⟨tops,ht⟩:∃tops:List P2,tops=(0,n - 1)::ls':=⟨_,rfl⟩
 have hlt:tops.length<=61:=by rw [ht,List.length_cons];omega
 rw [<-ht]
 have kp:keeps true (D.lst (tops.map T2))=true:=by rw [Vi];exact Af _ _ fun x _=>T7 x
 simp only [R.of_some,P6,kp]
 walk_at "dz"
 rw [ζ (by rw [List.length_map];omega),V0 (en:=T2) (bs:=fun q=>[T2 q]) (g:=fun q=>T3 (thr T q)) tops (fun x _=>rfl) (fun q hq=>by obtain ⟨m1,m2⟩:=I.top_in p (by rw [<-ht];exact hq);unfold Uo;walk_at "dz";generalize thr T q=u at m1 m2;obtain ⟨a,c,b⟩:=u;rw [<-m2];exact qJ I p (by omega) a c b m1)]
 walk_at "dz"
 have e1:tops.map (fun q=>T3 (thr T q))=(tops.map (thr T)).map T3:=by rw [List.map_map];rfl
 have pm:(tops.map (thr T)).Perm T:=by rw [ht];exact I.tops p
 rw [e1,sorted_T3 _ (by rw [List.length_map];omega),Tw pm]
 walk_at "dz"
theorem yN {n:Int} {ls ls':List P2} {T:List P3} (I:CInv n ls T) (p:ls'.Perm ls) (hl:ls.length<=60) :
  Ba [.tup [.int n,.tup (ls'.map T2)]]=.ok (.lst ((so3 T).map T3)):=by
 unfold Ba Wd
 walk_at "dz"
 rw [qH I p hl]
 walk_at "dz"
theorem Rj (i:Int):V2 [.int i]=.ok (.bl true):=by unfold V2 Vq;walk_at "dz"
def Cf (n a b:Int):Bool:=!(decide (a<0)||decide (n<=b))&&(decide (b=a+1)||(decide (a=0)&&decide (b=n - 1)))
theorem jA (n:Int) (p:P2):Aj [.int n,T2 p]=.ok (.bl (Cf n p.1 p.2)):=by unfold Aj Uq Cf;walk_at "dz";generalize (decide (p.1<0)||decide (n<=p.2))=c;cases c<;>rfl
theorem Hm (p:P2):Q0 [T2 p]=.ok (.bl true):=by unfold Q0 Tr;walk_at "dz";rw [Rj];walk_at "dz";rw [Rj];walk_at "dz"
theorem y0o (n:Int) (ls:List P2) (p:P2):Aq [.tup [.int n,.tup (ls.map T2)],T2 p]=.ok (.bl (Cf n p.1 p.2||decide (p∈ls))):=by unfold Aq Vp;walk_at "dz";rw [Hm];walk_at "dz";rw [jA];walk_at "dz";rw [Jv];walk_at "dz"
theorem ww (n:Int) (ls:List P2) (p:P2) (h:(Cf n p.1 p.2||decide (p∈ls))=true):Bi [.tup [.int n,.tup (ls.map T2)],T2 p]=.ok .non:=by unfold Bi Wl;walk_at "dz";rw [y0o,h];walk_at "dz"
theorem qG (T:List P3):(so3 T).length=T.length:=(U6 T).length_eq
theorem xG {n:Int} {ls ls':List P2} {T:List P3} (I:CInv n ls T) (pm:ls'.Perm ls) (hl:ls.length<=60) (p:P2) (h:(Cf n p.1 p.2||decide (p∈ls'))=true) :
  U3 [.tup [.int n,.tup (ls'.map T2)],T2 p]=.ok (L (u9 T p)):=by
 have hT:(so3 T).length<=61:=by rw [qG,I.len];omega
 unfold U3 Tp
 walk_at "dz"
 rw [ww n ls' p h]
 walk_at "dz"
 rw [yN I pm hl]
 walk_at "dz"
 rw [ζ (by rw [List.length_map];omega),U9 (en:=T3) (bs:=fun t=>[T3 t]) (p:=bth p.1 p.2) (g:=fun t=>T3 t) (so3 T) (fun x _=>rfl) (fun t _=>by
  unfold Vn;walk_at "dz";rw [Np];walk_at "dz";rw [Np];walk_at "dz";rfl) (fun t _ _=>by
  unfold Vm;walk_at "dz")]
 simp only [R.bind_ok]
 obtain ⟨F,hF⟩:∃F,F=(so3 T).filter (bth p.1 p.2):=⟨_,rfl⟩
 have hFl:F.length<=61:=by rw [hF];exact Nat.le_trans (List.length_filter_le _ _) hT
 rw [<-hF]
 walk_at "dz"
 rw [ζ (by rw [List.length_map];omega),V0 (en:=T3) (bs:=fun t=>[T3 t]) (g:=fun t=>D.int (t.1+(t.2.1+(t.2.2+0)) - (p.1+(p.2+0)))) F (fun x _=>rfl) (fun t _=>by unfold Vl;walk_at "dz")]
 simp only [R.bind_ok]
 rw [show D.lst (F.map fun t=>D.int (t.1+(t.2.1+(t.2.2+0)) - (p.1+(p.2+0))))=L (F.map fun t=>t.1+(t.2.1+(t.2.2+0)) - (p.1+(p.2+0))) by unfold L;rw [List.map_map];rfl]
 walk_at "dz"
 rw [sorted_I _ (by rw [List.length_map];omega)]
 walk_at "dz"
 rw [hF];rfl
theorem Kn (p:P2) (ls:List P2):dIn true (T2 p) (.tup (ls.map T2))=some (.bl (!decide (p∈ls))):=by have h:=Jv p ls;have h1:=M8 ls T2 1 P4;unfold dIn dOr R7 at h ⊢;simp only [S2,Jz ls T2 S2,true_and,ζ (show o4 (ls.map T2)<=20 by omega),Bool.false_eq_true,if_false,if_true,Option.some.injEq,D.bl.injEq] at h ⊢;rw [h]
theorem Nd (p q:P2):dNe (T2 p) (T2 q)=some (.bl (!decide (p=q))):=by unfold dNe;rw [ζ ⟨S2 p,S2 q,by have:=P4 p;omega⟩,Jw]
theorem qF (n:Int) (ls:List P2) (p:P2) (h:p∈ls):Q5 [.tup [.int n,.tup (ls.map T2)],T2 p]=.ok .non:=by unfold Q5 Mr;walk_at "dz";rw [Hm];walk_at "dz";rw [Kn,decide_eq_true h];walk_at "dz"
theorem Ri (ls' ls0:List P2) (l:P2) (p:ls'.Perm (l::ls0)) (h:l∉ls0):(ls'.filter fun o=>!decide (o=l)).Perm ls0:=by refine (p.filter _).trans ?_;rw [List.filter_cons_of_neg (by simp)];rw [List.filter_eq_self.mpr fun o ho=>by simp;exact fun e=>h (by rw [<-e];exact ho)]
section
variable {n:Int} {ls ls' ls0:List P2} {T:List P3} {l w:P2}
theorem jz (K:Cut n ls T) (pm:ls'.Perm ls) (hl:ls.length<=60) (h:l∈ls):U3 [.tup [.int n,.tup (ls'.map T2)],T2 l]=.ok (L (u9 T l)):=
 xG K.inv pm hl l (by rw [decide_eq_true (pm.mem_iff.mpr h),Bool.or_true])
theorem To (K:Cut n ls T) (pm:ls'.Perm ls) (hl:ls.length<=60) (h:l∈ls) (p0:ls.Perm (l::ls0)) (hw:u9 T l=[w.1,w.2]) :
  K3 [.tup [.int n,.tup (ls'.map T2)],T2 l]=.ok (.tup [.tup [.int n,.tup ((so2 (ls0++[w])).map T2)],T2 w]):=by
 have nd0:l∉ls0:=by have:=p0.nodup_iff.mp K.inv.nd;rw [List.nodup_cons] at this;exact this.1
 have hl':ls'.length<=60:=by rw [pm.length_eq];exact hl
 unfold K3 Lk
 walk_at "dz"
 rw [qF n ls' l (pm.mem_iff.mpr h)]
 walk_at "dz"
 rw [jz K pm hl h,hw]
 walk_at "dz"
 rw [show E6 [L [w.1,w.2]]=some (T2 w) from rfl]
 simp only [R.of_some,P6]
 rw [show keeps false (T2 w)=true from T7 w]
 walk_at "dz"
 rw [ζ (by rw [List.length_map];omega),U9 (en:=T2) (bs:=fun o=>[T2 o]) (p:=fun o=>!decide (o=l)) (g:=fun o=>T2 o) ls' (fun x _=>rfl) (fun o _=>by
  unfold Vk;walk_at "dz";rw [Nd];walk_at "dz") (fun o _ _=>by
  unfold Vj;walk_at "dz")]
 simp only [R.bind_ok]
 have kn:=Ri ls' ls0 l (pm.trans p0) nd0
 obtain ⟨kp,hkp⟩:∃kp,kp=ls'.filter fun o=>!decide (o=l):=⟨_,rfl⟩
 rw [<-hkp] at kn ⊢
 have hkl:kp.length<=60:=by rw [hkp];exact Nat.le_trans (List.length_filter_le _ _) hl'
 walk_at "dz"
 rw [show D.lst [T2 w]=D.lst ([w].map T2) from rfl,Fo _ _ (by simp;omega)]
 obtain ⟨xs,hxs⟩:∃xs,xs=kp++[w]:=⟨_,rfl⟩
 have hx:xs.length<=61:=by rw [hxs];simp;omega
 rw [<-hxs]
 walk_at "dz"
 rw [sorted_T2 _ (by omega),U5 (show xs.Perm (ls0++[w]) by rw [hxs];exact kn.append_right _)]
 walk_at "dz"
end
theorem jy (a b:Int):Y4 [.int a,.int b]=.ok (T2 (nr (a,b))):=by
 unfold Y4 Pd nr;walk_at "dz";by_cases h:a<b
 . rw [decide_eq_true h,ζ h];walk_at "dz";rfl
 . rw [decide_eq_false h,ξ h];walk_at "dz";rfl
theorem Rh (n:Nat) (f:Int->Int) (ls:List P2) (hl:Inn (n:Int) ls) (h60:ls.length<64) :
  P7 [.tup [.int (n:Int),.tup (ls.map T2)],L ((List.range n).map fun (i:Nat)=>f (i:Int))]=.ok (.tup [.int (n:Int),.tup ((imL f ls).map T2)]):=by
 obtain ⟨bs,hbs⟩:∃bs,bs=(List.range n).map fun (i:Nat)=>f (i:Int):=⟨_,rfl⟩
 have hlen:bs.length=n:=by rw [hbs];simp
 have hat:∀x:Int,0<=x->x<n->bs.getD x.toNat 0=f x:=fun x h0 h1=>by rw [hbs,List.getD_eq_getElem?_getD,List.getElem?_map,List.getElem?_range (by omega)];show f ((x.toNat:Nat):Int)=f x;rw [Int.toNat_of_nonneg h0]
 rw [<-hbs]
 unfold P7 Ro
 walk_at "dz"
 rw [ζ (by rw [List.length_map];omega),V0 (en:=T2) (bs:=fun q=>[D.int q.1,D.int q.2]) (g:=fun q=>T2 (im f q)) ls (fun x _=>rfl) (fun q hq=>by obtain ⟨h0,h1,h2⟩:=hl q.1 q.2 hq;unfold Up;walk_at "dz";rw [Gr h0 (by omega),Gr (by omega) (by omega),hat _ h0 (by omega),hat _ (by omega) h2];walk_at "dz";rw [jy];rfl)]
 simp only [R.bind_ok]
 rw [show ls.map (fun q=>T2 (im f q))=(ls.map (im f)).map T2 by rw [List.map_map];rfl]
 unfold imL
 have hm:(ls.map (im f)).length<64:=by rw [List.length_map];exact h60
 generalize ls.map (im f)=xs at hm
 walk_at "dz"
 rw [sorted_T2 _ hm]
 walk_at "dz"
theorem jx (n:Nat) (by':Int) (ls:List P2) (h3:3<=n) (hn:n<=1000) (hl:Inn (n:Int) ls) (h60:ls.length<64) :
  P0 [.tup [.int (n:Int),.tup (ls.map T2)],.int by']=.ok (.tup [.int (n:Int),.tup ((imL (fun x=>(x+by') % (n:Int)) ls).map T2)]):=by
 have e:=Rh n (fun x=>(x+by') % (n:Int)) ls hl h60
 unfold P0 Pc
 generalize (D.tup (ls.map T2))=t at e
 walk_at "dz"
 rw [Ht (n:Int) (by omega) (by walk_at "dz")]
 walk_at "dz"
 rw [ζ (by rw [Py];omega)]
 simp only [zD,Int.toNat_natCast]
 rw [V0 (en:=fun (i:Nat)=>D.int (0+(i:Int))) (bs:=fun (i:Nat)=>[D.int (0+(i:Int))]) (g:=fun (i:Nat)=>D.int (((i:Int)+by') % (n:Int))) (List.range n) (fun x _=>rfl) (fun i hi=>by unfold Tq;walk_at "dz";rw [x9 (by omega),Int.zero_add];walk_at "dz")]
 simp only [R.bind_ok]
 rw [show D.lst ((List.range n).map fun (i:Nat)=>D.int (((i:Int)+by') % (n:Int)))=L ((List.range n).map fun (i:Nat)=>((i:Int)+by') % (n:Int)) by unfold L;rw [List.map_map];rfl]
 generalize L ((List.range n).map fun (i:Nat)=>((i:Int)+by') % (n:Int))=b at e
 walk_at "dz"
 rw [e]
 walk_at "dz"
theorem yr (n:Nat) (ls:List P2) (h3:3<=n) (hn:n<=1000) (hl:Inn (n:Int) ls) (h60:ls.length<64) :
  Ap [.tup [.int (n:Int),.tup (ls.map T2)]]=.ok (.tup [.int (n:Int),.tup ((imL (fun x=>((n:Int) - x) % (n:Int)) ls).map T2)]):=by
 have e:=Rh n (fun x=>((n:Int) - x) % (n:Int)) ls hl h60
 unfold Ap Vo
 generalize (D.tup (ls.map T2))=t at e
 walk_at "dz"
 rw [Ht (n:Int) (by omega) (by walk_at "dz")]
 walk_at "dz"
 rw [ζ (by rw [Py];omega)]
 simp only [zD,Int.toNat_natCast]
 rw [V0 (en:=fun (i:Nat)=>D.int (0+(i:Int))) (bs:=fun (i:Nat)=>[D.int (0+(i:Int))]) (g:=fun (i:Nat)=>D.int (((n:Int) - (i:Int)) % (n:Int))) (List.range n) (fun x _=>rfl) (fun i hi=>by unfold Wm;walk_at "dz";rw [x9 (by omega),Int.zero_add];walk_at "dz")]
 simp only [R.bind_ok]
 rw [show D.lst ((List.range n).map fun (i:Nat)=>D.int (((n:Int) - (i:Int)) % (n:Int)))=L ((List.range n).map fun (i:Nat)=>((n:Int) - (i:Int)) % (n:Int)) by unfold L;rw [List.map_map];rfl]
 generalize L ((List.range n).map fun (i:Nat)=>((n:Int) - (i:Int)) % (n:Int))=b at e
 walk_at "dz"
 rw [e]
 walk_at "dz"
theorem jw (a b:Int):Ci [D.lst [.int a,.int b]]=some (.int (nr (a,b)).1):=by
 have:E9 a [b]=(nr (a,b)).1:=by
  unfold E9 nr;show (if b<a then b else a)=(if a<b then (a,b) else (b,a)).1;by_cases h:a<b
  . rw [ζ h,ξ (by omega)]
  . rw [ξ h];show _=b;split<;>omega
 simp only [Ci,x6,Option.map_some,this]
theorem jv (a b:Int):Cj [D.lst [.int a,.int b]]=some (.int (nr (a,b)).2):=by
 have:D4 a [b]=(nr (a,b)).2:=by
  unfold D4 nr;show (if b > a then b else a)=(if a<b then (a,b) else (b,a)).2;by_cases h:a<b
  . rw [ζ h,ζ (by omega)]
  . rw [ξ h,ξ (by omega)]
 simp only [Cj,x6,Option.map_some,this]
theorem Xm (c x:Int):x+(if decide (c<x)=true then 1 else 0)=sh c x:=by
 unfold sh;by_cases h:c<x
 . rw [decide_eq_true h,ζ rfl,ζ h]
 . rw [decide_eq_false h,ξ θ,ξ h];omega
theorem t6 {a r:DS->SR} {ρ ρ':DS} (h:a ρ=.nx ρ'):g8 a r ρ=r ρ':=by rw [Fv,h,wq]
def pkv (ns:List Int) (k:Int):Int:=(x8 ns (some k) (some (k+1))++[0]).getD 0 0
theorem Rg (ns:List Int) (a b:Option Int):(x8 ns a b).length<=ns.length:=by unfold x8;simp only [List.length_drop,List.length_take];omega
theorem Pa (ns:List Int) (hl:ns.length<=63) (k:Int):z0 [.scr ns,.int k]=.ok (.int (pkv ns k)):=by have h:=Rg ns (some k) (some (k+1));unfold z0 Wg pkv;walk_at "dz";generalize x8 ns (some k) (some (k+1))=xs at h;rw [show A6 (L xs) (D.lst [D.int 0])=some (L (xs++[0])) by simp only [L,A6,List.length_map,List.length_cons,List.length_nil,ζ (show xs.length+(0+1)<=100000 by omega),List.map_append,List.map_cons,List.map_nil]];walk_at "dz";rw [Gr (by omega) (by simp)];rfl
theorem y0p (n:Int) (ls:List P2) (c:Int) (hl:ls.length<1000):Bq [.int n,.lst (ls.map T2),.int c]=.ok (.lst ((ls.map (sh2 c)++[u7 n c]).map T2)):=by
 unfold Bq Wu;walk_at "dz";rw [ζ (by rw [List.length_map];omega),V0 (en:=T2) (bs:=fun q=>[D.int q.1,D.int q.2]) (g:=fun q=>T2 (sh2 c q)) ls (fun x _=>rfl) (fun q _=>by unfold Xe;walk_at "dz";rw [Xm,Xm];rfl)];simp only [R.bind_ok];rw [show ls.map (fun q=>T2 (sh2 c q))=(ls.map (sh2 c)).map T2 by rw [List.map_map];rfl];generalize hls:ls.map (sh2 c)=ls';have hl':ls'.length<1000:=by rw [<-hls,List.length_map];exact hl
 walk_at "dz";by_cases q:c=n - 1
 . rw [decide_eq_true q];walk_at "dz";rw [show D.lst [D.tup [D.int 0,D.int (n - 1)]]=D.lst ([u7 n c].map T2) by unfold u7;rw [ζ q,<-q];rfl,Fo _ _ (by simp;omega)];generalize ls'++[u7 n c]=xs;walk_at "dz"
 . rw [decide_eq_false q];walk_at "dz";rw [show D.lst [D.tup [D.int c,D.int (c+2)]]=D.lst ([u7 n c].map T2) by unfold u7;rw [ξ q];rfl,Fo _ _ (by simp;omega)];generalize ls'++[u7 n c]=xs;walk_at "dz"
theorem qE (A0:Sl) (row:List Int) (ls:List P2) (cell:Int) (h3:3<=row.length) (hn:row.length<900) (hl:ls.length<900) :
  ∃c:Nat,c<row.length/\Ee [A0,.im (.int (row.length:Int)),.ow (.lst (ls.map T2)),.im (.int cell)] =
   .nx [A0,.im (.int ((row.length:Int)+1)),.ow (.lst ((ls.map (sh2 (c:Int))++[u7 (row.length:Int) (c:Int)]).map T2)),.im (.int cell)]:=by
 have m0:0<=cell % (row.length:Int):=Int.emod_nonneg _ (by omega)
 have m1:cell % (row.length:Int)<row.length:=Int.emod_lt_of_pos _ (by omega)
 unfold Ee
 walk_at "dz"
 rw [x9 (by omega)]
 walk_at "dz"
 rw [y0p _ _ _ (by omega)]
 generalize hxs:(ls.map (sh2 (cell % (row.length:Int)))++[u7 (row.length:Int) (cell % (row.length:Int))])=xs
 walk_at "dz"
 refine ⟨(cell % (row.length:Int)).toNat,by omega,?_⟩
 rw [Int.toNat_of_nonneg m0,hxs]
theorem Tn (n:Nat) (s by':Int) (hs:s=1\/s=-1) (ls:List P2) (h3:3<=n) (h60:ls.length<64) :
  V4 [.tup [.int (n:Int),.tup (ls.map T2)],.int by',.int s]=.ok (.tup [.int (n:Int),.tup ((imL (fun x=>(s * x+by') % (n:Int)) ls).map T2)]):=by
 unfold V4 Wp
 walk_at "dz"
 obtain ⟨ρ',e,xs,s5,s6,s7,hx,hr⟩:=Ty (tg:=.t [5,6]) (g:=Mt) (en:=T2)
  (fun r ρ=>∃(xs:List P2) (s5 s6 s7:Sl),xs++r.map (im fun x=>(s * x+by') % (n:Int))=ls.map (im fun x=>(s * x+by') % (n:Int))/\ρ=[.im (.tup [.int (n:Int),.tup (ls.map T2)]),.im (.int by'),.im (.int s),.im (.int (n:Int)),.ow (.lst (xs.map T2)),s5,s6,s7])
  ls [.im (.tup [.int (n:Int),.tup (ls.map T2)]),.im (.int by'),.im (.int s),.im (.int (n:Int)),.ow (.lst []),.em,.em,.em] ⟨[],.em,.em,.em,rfl,rfl⟩ (by
   rintro ⟨a,b⟩ r ρ ⟨xs,s5,s6,s7,hx,rfl⟩;have hl:=congrArg List.length hx;simp only [χ,List.length_map,List.length_cons] at hl;refine ⟨_,[.im (.tup [.int (n:Int),.tup (ls.map T2)]),.im (.int by'),.im (.int s),.im (.int (n:Int)),.ow (.lst ((xs++[im (fun x=>(s * x+by') % (n:Int)) (a,b)]).map T2)),.im (.int a),.im (.int b),.ow (.lst [.int ((s * a+by') % (n:Int)),.int ((s * b+by') % (n:Int))])],rfl,Or.inl ?_,⟨_,_,_,_,?_,rfl⟩⟩
   . unfold Mt;walk_at "dz";rw [Hu (by omega),Hu (by omega)];walk_at "dz";rw [x9 (by omega),x9 (by omega)];walk_at "dz";rw [jw,jv];walk_at "dz";rw [jX (by omega)];walk_at "dz";rfl
   . rw [<-hx,List.map_cons,List.append_assoc];rfl)
 rw [e,hr]
 simp only [List.map_nil,List.append_nil] at hx
 have hl:xs.length<64:=by rw [hx,List.length_map];exact h60
 unfold imL
 rw [<-hx]
 walk_at "dz"
 rw [sorted_T2 _ hl]
 walk_at "dz"
theorem ju (n:Int) (ls:List P2):(D.tup [.int n,.tup (ls.map T2)]).pl=true/\(D.tup [.int n,.tup (ls.map T2)]).dep<=20:=by have h1:=jW ls;have h2:=M8 ls T2 1 P4;simp only [D.pl,pls,D.dep,o4] at h1 ⊢;exact ⟨by rw [h1.1];rfl,by omega⟩
abbrev e7 (n:Int) (ls:List P2):D:=.tup [.int n,.tup (ls.map T2)]
def jn (n:Int) (ls:List P2) (a b:Int):Bool:=decide ((nr (a,b)).2 - (nr (a,b)).1=1)||(decide (nr (a,b)=(0,n - 1))||decide (nr (a,b)∈ls))
theorem Tm (n:Int) (ls:List P2) (a b:Int):V5 [e7 n ls,.int a,.int b]=.ok (.bl (jn n ls a b)):=by
 have e1:(if b<a then b else a)=(nr (a,b)).1:=by unfold nr;split<;>split<;>first | rfl | (simp only;omega)
 have e2:(if b > a then b else a)=(nr (a,b)).2:=by unfold nr;split<;>rfl
 unfold V5 Wt e7;walk_at "dz";rw [e1,e2];generalize hq:nr (a,b)=q;rw [show D.tup [D.int q.1,D.int q.2]=T2 q from rfl,Jv];walk_at "dz";unfold jn;rw [hq];obtain ⟨x,y⟩:=q;simp only [Prod.mk.injEq];by_cases h1:y - x=1
 . simp [h1]
 . by_cases h2:x=0/\y=n - 1
   . simp [h1,h2.1,h2.2]
   . have:(decide (x=0)&&decide (y=n - 1))=false:=by simpa using h2
     simp [h1,h2,this]
theorem Fl (I:CInv n ls T) (x0:0<=x) (x1:x<n) (k0:0<=k) (k1:k<n) (hne:k≠x):jn n ls k x=true↔adj n ls x k:=by
 unfold jn;simp only [Bool.or_eq_true,decide_eq_true_eq];rcases Int.lt_or_gt_of_ne hne with h | h
 . rw [show nr (k,x)=(k,x) by unfold nr;rw [ζ h]];simp only [Prod.mk.injEq];constructor
   . intro z;exact (Cy I k0 h x1 (by rcases z with z | z | z;exact .inr (.inl (by omega));exact .inr (.inr z);exact .inl z)).2
   . intro z;rcases P1 I k0 h x1 (.inr z) with z | z | z
     . exact .inr (.inr z)
     . exact .inl (by omega)
     . exact .inr (.inl z)
 . rw [show nr (k,x)=(x,k) by unfold nr;rw [ξ (by simp only;omega)]];simp only [Prod.mk.injEq];constructor
   . intro z;exact (Cy I x0 h k1 (by rcases z with z | z | z;exact .inr (.inl (by omega));exact .inr (.inr z);exact .inl z)).1
   . intro z;rcases P1 I x0 h k1 (.inl z) with z | z | z
     . exact .inr (.inr z)
     . exact .inl (by omega)
     . exact .inr (.inl z)
theorem y32 {xs:List Nat} {u v:Int} (huv:u<v) (hs:xs.Pairwise (·<·)) (hm:∀k:Nat,k∈xs↔((k:Int)=u\/(k:Int)=v)) (u0:0<=u):xs.map (fun k:Nat=>(k:Int))=[u,v]:=by
 have p:xs.Perm [u.toNat,v.toNat]:=by
  refine (List.perm_ext_iff_of_nodup (hs.imp fun h=>Nat.ne_of_lt h) (by simp;omega)).mpr fun k=>?_
  rw [hm k];simp only [List.mem_cons,List.not_mem_nil,or_false];omega
 have e:xs=[u.toNat,v.toNat]:=p.eq_of_pairwise (le:=(·<·)) (fun a b _ _ h1 h2=>absurd h1 (Nat.lt_asymm h2)) hs (by simp;omega);rw [e];simp only [List.map_cons,List.map_nil];rw [Int.toNat_of_nonneg u0,Int.toNat_of_nonneg (by omega)]
theorem xF (n:Nat):(List.range n).Pairwise (·<·):=List.pairwise_lt_range
section
variable {n:Nat} {ls ls0:List P2} {T:List P3} {l w:P2}
theorem qC (K:Cut (n:Int) ls T) (h:l∈ls) (hw:u9 T l=[w.1,w.2]) (hlt:w.1<w.2) (w0:0<=w.1) (wn:w.2<n) (hwl:∀k,k∈u9 T l->k≠l.1/\k≠l.2) :
  (((List.range n).filter fun (k:Nat)=>!(decide ((k:Int)=l.1)||decide ((k:Int)=l.2))).filter fun (k:Nat)=>jn n ls (k:Int) l.1&&jn n ls (k:Int) l.2).map (fun k:Nat=>(k:Int))=[w.1,w.2]:=by
 have I:=K.inv
 obtain ⟨a,b⟩:=l
 have li:=I.lin a b h
 refine y32 hlt (((xF n).filter _).filter _) (fun k=>?_) w0
 have e:((k:Int)=w.1\/(k:Int)=w.2)↔(k:Int)∈u9 T (a,b):=by rw [hw];simp
 rw [e,List.mem_filter,List.mem_filter,List.mem_range]
 simp only [Bool.not_eq_true',Bool.or_eq_false_iff,decide_eq_false_iff_not,Bool.and_eq_true]
 constructor
 . rintro ⟨⟨h1,h2,h3⟩,h4,h5⟩;exact (I.com h (by omega) (by omega) h2 h3).mp ⟨(Fl I li.1 (by omega) (by omega) (by omega) h2).mp h4,(Fl I (by omega) (by omega) (by omega) (by omega) h3).mp h5⟩
 . intro z;obtain ⟨z1,z2⟩:=hwl _ z;have hk:(k:Int)<n:=by rw [hw] at z;simp at z;omega
   obtain ⟨c1,c2⟩:=(I.com h (by omega) hk z1 z2).mpr z;exact ⟨⟨by omega,z1,z2⟩,(Fl I li.1 (by omega) (by omega) (by omega) z1).mpr c1,(Fl I (by omega) (by omega) (by omega) hk z2).mpr c2⟩
theorem y0q (k c e:Int):dIn true (.int k) (.lst [.int c,.int e])=some (.bl (!(decide (k=c)||decide (k=e)))):=by
 have h1:(c==k)=decide (k=c):=by rw [Bool.eq_iff_iff,beq_iff_eq,decide_eq_true_eq];exact ⟨Eq.symm,Eq.symm⟩
 have h2:(e==k)=decide (k=e):=by rw [Bool.eq_iff_iff,beq_iff_eq,decide_eq_true_eq];exact ⟨Eq.symm,Eq.symm⟩
 unfold dIn dOr R7;simp only [D.pl,pls,o4,D.dep,Bool.and_self,true_and,ζ (show max 0 (max 0 0)<=20 by decide),List.any_cons,List.any_nil,eqD,Bool.or_false,if_true,h1,h2]
theorem jt (n:Nat):zD 0 ((n:Int)).toNat=(List.range n).map fun (k:Nat)=>D.int (k:Int):=by unfold zD;rw [Int.toNat_natCast];exact List.map_congr_left fun k _=>by rw [Int.zero_add]
theorem Um (K:Cut (n:Int) ls T) (hl:ls.length<=60) (h60:n<=60) (h:l∈ls) (p0:ls.Perm (l::ls0)) (hw:u9 T l=[w.1,w.2]) (hlt:w.1<w.2) (w0:0<=w.1) (wn:w.2<n) (hwl:∀k,k∈u9 T l->k≠l.1/\k≠l.2) :
  Q6 [e7 n ls,T2 l]=.ok (e7 n (so2 (ls0++[w]))):=by
 have nd0:l∉ls0:=by have:=p0.nodup_iff.mp K.inv.nd;rw [List.nodup_cons] at this;exact this.1
 have tp:=qC K h hw hlt w0 wn hwl
 have je:=fun k=>Tm n ls k l.1
 have je2:=fun k=>Tm n ls k l.2
 have kn:=Ri ls ls0 l p0 nd0
 have ne:=Nd (q:=l)
 unfold Q6 Ws
 obtain ⟨a,b⟩:=l
 simp only [T2] at je je2 ⊢
 unfold e7 at *
 have itl:items (D.tup (ls.map T2))=some (ls.map T2):=rfl
 have hlen:(ls.map T2).length<=100000:=by rw [List.length_map];omega
 generalize htl:D.tup (ls.map T2)=tl at je je2 itl ⊢
 walk_at "dz"
 rw [Ht (n:Int) (by omega) (by walk_at "dz"),jt]
 walk_at "dz"
 rw [ζ (by rw [List.length_map,List.length_range];omega),U9 (en:=fun (k:Nat)=>D.int (k:Int)) (bs:=fun k=>[D.int (k:Int)]) (p:=fun (k:Nat)=>!(decide ((k:Int)=a)||decide ((k:Int)=b))) (g:=fun (k:Nat)=>D.int (k:Int)) (List.range n) (fun x _=>rfl) (fun o _=>by
  unfold Xd;walk_at "dz";rw [y0q];walk_at "dz") (fun o _ _=>by
  unfold Xb;walk_at "dz")]
 obtain ⟨os,hos⟩:∃os,os=(List.range n).filter fun (k:Nat)=>!(decide ((k:Int)=a)||decide ((k:Int)=b)):=⟨_,rfl⟩
 simp only [<-hos] at tp ⊢
 have hol:os.length<=60:=by rw [hos];exact Nat.le_trans (List.length_filter_le _ _) (by rw [List.length_range];omega)
 have nL:i9 (os.map fun (k:Nat)=>D.int (k:Int))=true:=Af _ _ fun x _=>rfl
 walk_at "dz"
 rw [nL]
 walk_at "dz"
 rw [ζ (by rw [List.length_map];omega),U9 (en:=fun (k:Nat)=>D.int (k:Int)) (bs:=fun k=>[D.int (k:Int)]) (p:=fun (k:Nat)=>jn n ls (k:Int) a&&jn n ls (k:Int) b) (g:=fun (k:Nat)=>D.int (k:Int)) os (fun x _=>rfl) (fun o _=>by
  unfold Xa;walk_at "dz";rw [je,je2];walk_at "dz") (fun o _ _=>by
  unfold Wz;walk_at "dz")]
 have tp2:((os.filter fun (k:Nat)=>jn n ls (k:Int) a&&jn n ls (k:Int) b).map fun (k:Nat)=>D.int (k:Int))=[D.int w.1,D.int w.2]:=by have:=congrArg (List.map D.int) tp;rw [List.map_map] at this;exact this
 rw [tp2]
 walk_at "dz"
 rw [itl]
 walk_at "dz"
 rw [ζ hlen,U9 (en:=T2) (bs:=fun o=>[T2 o]) (p:=fun o=>!decide (o=(a,b))) (g:=fun o=>T2 o) ls (fun x _=>rfl) (fun o _=>by
  unfold Wy;have:=ne o;simp only [T2] at this;walk_at "dz";simp only [T2];rw [this];walk_at "dz") (fun o _ _=>by
  unfold Wx;walk_at "dz")]
 simp only [R.bind_ok]
 obtain ⟨kp,hkp⟩:∃kp,kp=ls.filter fun o=>!decide (o=(a,b)):=⟨_,rfl⟩
 rw [<-hkp] at kn ⊢
 have hkl:kp.length<=60:=by rw [hkp];exact Nat.le_trans (List.length_filter_le _ _) hl
 rw [P6,show keeps true (D.lst (kp.map fun o=>T2 o))=true from Vh kp]
 walk_at "dz"
 rw [show D.tup [D.int w.1,D.int w.2]=T2 w from rfl,show D.lst [T2 w]=D.lst ([w].map T2) from rfl,Fo _ _ (by simp;omega)]
 obtain ⟨xs,hxs⟩:∃xs,xs=kp++[w]:=⟨_,rfl⟩
 have hx:xs.length<=61:=by rw [hxs];simp;omega
 rw [<-hxs]
 walk_at "dz"
 rw [sorted_T2 _ (by omega)]
 walk_at "dz"
 rw [U5 (show xs.Perm (ls0++[w]) by rw [hxs];exact kn.append_right _)]
end
def Okc (n:Nat) (ls:List P2):Prop:=(∃T,CInv (n:Int) ls T)/\so2 ls=ls/\ls.length+3=n
inductive Stp (n:Nat):List P2->D->List P2->Prop where
 | turn {ls ls0:List P2} {T T':List P3} {l w:P2} (K:Cut (n:Int) ls T) (h:l∈ls) (p0:ls.Perm (l::ls0)) (K':Cut (n:Int) (ls0++[w]) T') (hw:u9 T l=[w.1,w.2]) (hv:u9 T' w=[l.1,l.2]):Stp n ls (.obj "TurnLine" [T2 l]) (so2 (ls0++[w]))
 | spin (ls:List P2) (b:Int):Stp n ls (.obj "Spin" [.int b]) (imL (fun x=>(x+b) % (n:Int)) ls)
 | mir (ls:List P2):Stp n ls (.obj "Mirror" []) (imL (fun x=>((n:Int) - x) % (n:Int)) ls)
theorem Okc.im (O:Okc n ls) (h:∀T,CInv (n:Int) ls T->∃T',CInv (n:Int) (ls.map (im f)) T'):Okc n (imL f ls):=by obtain ⟨⟨T,I⟩,_,hl⟩:=O;obtain ⟨T',I'⟩:=h T I;exact ⟨⟨T',I'.perm (C1 _)⟩,Jp _,by rw [qO];exact hl⟩
theorem Stp.ok (S:Stp n ls d ls') (O:Okc n ls):Okc n ls':=by
 cases S with
 | turn K h p0 K' hw hv=>
  refine ⟨⟨_,K'.inv.perm (C1 _)⟩,Jp _,?_⟩
  have:=O.2.2
  have e:=p0.length_eq
  rw [(C1 _).length_eq,χ,List.length_singleton]
  rw [List.length_cons] at e
  omega
 | spin b=>
  refine O.im fun T I=>?_
  . obtain ⟨T',I',_⟩:=Cn.spin (g:=fun k=>c1 k T) ⟨T,I,fun _ _ _=>rfl⟩ b;exact ⟨T',I'⟩
 | mir=>
  refine O.im fun T I=>?_
  . obtain ⟨T',I',_⟩:=Cn.mirror (g:=fun k=>c1 k T) ⟨T,I,fun _ _ _=>rfl⟩;exact ⟨T',I'⟩
theorem Stp.turn' (O:Okc n ls) (h:l∈ls):∃(w:P2) (ls0:List P2) (T T':List P3),Cut (n:Int) ls T/\ls.Perm (l::ls0)/\Cut (n:Int) (ls0++[w]) T'/\u9 T l=[w.1,w.2]/\u9 T' w=[l.1,l.2]/\w∉ls:=by obtain ⟨⟨T,I⟩,_,_⟩:=O;obtain ⟨w,ls0,T',h1,h2,h3,h4,h5⟩:=I.cut.turn h;exact ⟨w,ls0,T,T',I.cut,h1,h2,h3,h4,h5⟩
theorem Ew (p:P2):G5 "line" ["TurnLine"] (.obj "TurnLine" [T2 p])=some (T2 p):=by simp only [G5,v6];rfl
theorem Nc (b:Int):G5 "by" ["Spin"] (.obj "Spin" [.int b])=some (.int b):=by simp only [G5,v6];rfl
section
variable {n:Nat} {ls ls':List P2} {d:D}
theorem N5 {tb:String->Option (List D->R D)} {fo:DE->R D} {fs:DE->R (List D)} {ρ:DE} {c:String} {zs:List D} {g:List D->R D} {x:D} (h1:fo ρ=.ok (.obj c zs)) (h2:fs ρ=.ok [x]) (h3:tb c=some g):D7 tb fo fs ρ=g [.obj c zs,x]:=by unfold D7;rw [h1];simp only [R.bind_ok,h3];rw [h2,R.bind_ok]
theorem Oz (S:Stp n ls d ls') (O:Okc n ls) (h60:n<=60) (h1:fo ρ=.ok d) (h2:fs ρ=.ok [e7 n ls]):D7 z9 fo fs ρ=.ok (e7 n ls'):=by
 have hl:ls.length<=60:=by have:=O.2.2;omega
 obtain ⟨⟨T0,I0⟩,_,_⟩:=id O;have n3:3<=n:=by have:=I0.n3;omega
 cases S with
 | @turn ls0 T T' l w K h p0 K' hw hv=>
  rw [N5 h1 h2 (show z9 "TurnLine"=some V7 by simp [z9])]
  have te:=To K (.refl _) hl h p0 hw
  unfold V7 Mw
  generalize hq:T2 l=q at *
  unfold e7
  generalize D.tup (ls.map T2)=tl at *
  walk_at "dz"
  rw [<-hq,Ew,hq]
  walk_at "dz"
  rw [te]
  walk_at "dz"
 | spin b=>
  rw [N5 h1 h2 (show z9 "Spin"=some Dz by simp [z9])]
  have te:=jx n b ls n3 (by omega) I0.inn (by omega)
  unfold Dz Wc e7
  generalize D.tup (ls.map T2)=tl at *
  walk_at "dz"
  rw [Nc]
  walk_at "dz"
  rw [te]
  walk_at "dz"
 | mir=>
  rw [N5 h1 h2 (show z9 "Mirror"=some Eb by simp [z9])]
  have te:=yr n ls n3 (by omega) I0.inn (by omega)
  unfold Eb Wq e7
  generalize D.tup (ls.map T2)=tl at *
  walk_at "dz"
  rw [te]
  walk_at "dz"
end
theorem My (p:P2) (fs:DE->R (List D)) (ρ:DE) (h:fs ρ=.ok [T2 p]):y4 "TurnLine" fs ρ=.ok (.obj "TurnLine" [T2 p]):=by unfold y4;rw [h,R.bind_ok,ζ ⟨rfl,by simp [i9,T7],by simp [T2,pls,D.pl]⟩]
theorem Xl (b:Int) (fs:DE->R (List D)) (ρ:DE) (h:fs ρ=.ok [.int b]):y4 "Spin" fs ρ=.ok (.obj "Spin" [.int b]):=by unfold y4;rw [h,R.bind_ok,ζ ⟨rfl,by simp [i9,D.noL],by simp [pls,D.pl]⟩]
section
variable {n:Nat} {ls ls':List P2} {d:D}
theorem Stp.deed (S:Stp n ls d ls'):K9 M7 d=some (.bl true)/\d.noL=true:=by cases S<;>exact ⟨by simp [K9,M7],rfl⟩
theorem Stp.in3 (S:Stp n ls d ls') (O:Okc n ls):3<=n:=by obtain ⟨⟨T0,I0⟩,_,_⟩:=id O;have:=I0.n3;omega
theorem jr (S:Stp n ls d ls') (O:Okc n ls) (h60:n<=60) (h1:fo ρ=.ok d) (h2:fs ρ=.ok [e7 n ls]):∃d',D7 B6 fo fs ρ=.ok d'/\Stp n ls' d' ls:=by
 have hl:ls.length<=60:=by have:=O.2.2;omega
 have n3:=S.in3 O;obtain ⟨⟨T0,I0⟩,hs,_⟩:=id O;cases S with
 | @turn ls0 T T' l w K h p0 K' hw hv=>
  refine ⟨.obj "TurnLine" [T2 w],?_,?_⟩
  . rw [N5 h1 h2 (show B6 "TurnLine"=some V6 by simp [B6])];have te:=To K (.refl _) hl h p0 hw;unfold V6 Mv;generalize hq:T2 l=q at *;unfold e7;generalize D.tup (ls.map T2)=tl at *;walk_at "dz";rw [My w _ _ (by walk_at "dz";rw [<-hq,Ew,hq];walk_at "dz";rw [te];walk_at "dz")];walk_at "dz"
  . have pw:(so2 (ls0++[w])).Perm (w::ls0):=(C1 _).trans (List.perm_append_singleton _ _);have pl:(ls0++[l]).Perm ls:=(List.perm_append_singleton _ _).trans p0.symm;have e:so2 (ls0++[l])=ls:=by rw [U5 pl,hs]
    have:=Stp.turn (n:=n) (T:=T') (T':=T) (K'.inv.perm (C1 _)).cut (pw.mem_iff.mpr List.mem_cons_self) pw (K.inv.perm pl).cut hv hw;rw [e] at this;exact this
 | spin b=>
  refine ⟨.obj "Spin" [.int (-b)],?_,?_⟩
  . rw [N5 h1 h2 (show B6 "Spin"=some Ea by simp [B6])];unfold Ea We e7;generalize D.tup (ls.map T2)=tl at *;walk_at "dz";rw [Xl (-b) _ _ (by walk_at "dz";rw [Nc];walk_at "dz")];walk_at "dz"
  . have:=Stp.spin (n:=n) (imL (fun x=>(x+b) % (n:Int)) ls) (-b);have e:imL (fun x=>(x+-b) % (n:Int)) (imL (fun x=>(x+b) % (n:Int)) ls)=ls:=by rw [Rp,Pe (f:=fun x=>((x+b) % (n:Int)+-b) % (n:Int)) I0.inn (fun x h0 h1=>by rw [Int.emod_add_emod,Int.add_assoc,Int.add_right_neg,Int.add_zero,Int.emod_eq_of_lt h0 h1]),hs]
    rw [e] at this;exact this
 | mir=>
  refine ⟨.obj "Mirror" [],?_,?_⟩
  . rw [N5 h1 h2 (show B6 "Mirror"=some Ec by simp [B6])];unfold Ec Wr e7;generalize D.tup (ls.map T2)=tl at *;walk_at "dz";simp only [Y5];walk_at "dz"
  . have:=Stp.mir (n:=n) (imL (fun x=>((n:Int) - x) % (n:Int)) ls);have e:imL (fun x=>((n:Int) - x) % (n:Int)) (imL (fun x=>((n:Int) - x) % (n:Int)) ls)=ls:=by
     rw [Rp,Pe (f:=fun x=>((n:Int) - ((n:Int) - x) % (n:Int)) % (n:Int)) I0.inn (fun x h0 h1=>by
      by_cases hx:x=0
      . subst hx;rw [Int.sub_zero,Int.emod_self,Int.sub_zero,Int.emod_self]
      . rw [Int.emod_eq_of_lt (a:=(n:Int) - x) (by omega) (by omega),Int.emod_eq_of_lt (by omega) (by omega)];omega),hs]
    rw [e] at this;exact this
end
def Pth (n:Nat):List P2->List (D×List P2)->Prop
 | _,[]=>True
 | ls,(d,ls')::r=>Stp n ls d ls'/\Pth n ls' r
def o8 (ls:List P2):List (D×List P2)->List P2
 | []=>ls
 | (_,ls')::r=>o8 ls' r
theorem E0 (n:Int) (ls:List P2):(e7 n ls).noL=true:=by simp only [e7,D.noL,i9,Vh,Bool.and_self]
theorem Dk (X:List D) (c:D):dIx (.lst (X++[c])) (.int (-1))=some c:=by
 have:atI (X++[c]) (-1)=some c:=by unfold atI ixN;rw [ξ (by omega),ζ (by rw [χ,List.length_singleton];omega)];simp only [χ,List.length_singleton];show (X++[c])[(-1+((X.length+1:Nat):Int)).toNat]?=some c;rw [show (-1+((X.length+1:Nat):Int)).toNat=X.length by omega];simp
 simp only [dIx,dOr,z5,this]
theorem Km (Y:List D) (c:D) (h:Y.length<100000):A3 (.lst Y) [c]=some (.lst (Y++[c])):=by simp only [A3,h,if_true]
section
variable {n:Nat} {ls ls':List P2} {d:D}
theorem Oy (S:Stp n ls d ls') (O:Okc n ls) (h60:n<=60) (c0 D0:D) (X:List D) (hX:X.length<1000) :
  K5 [.im c0,.im D0,.ow (.lst (X++[e7 n ls])),.im d]=.nx [.im c0,.im D0,.ow (.lst (X++[e7 n ls]++[e7 n ls'])),.im d]:=by
 have nl:=E0 n ls'
 have de:=fun (fo:DE->R D) (fs:DE->R (List D)) (ρ:DE) h1 h2=>Oz S O h60 (fo:=fo) (fs:=fs) (ρ:=ρ) h1 h2
 generalize e7 n ls=C at *
 generalize e7 n ls'=C' at *
 unfold K5
 walk_at "dz"
 rw [de _ _ _ (by walk_at "dz") (by walk_at "dz";rw [Dk];walk_at "dz")]
 walk_at "dz"
 rw [nl]
 walk_at "dz"
 rw [Km _ _ (by simp;omega)]
 walk_at "dz"
theorem Ox (c0 D0:D) (h60:n<=60):∀(P:List (D×List P2)) (ls:List P2) (X:List D) (s3:Sl),Okc n ls->Pth n ls P->X.length+P.length<1000 ->
  ∃s3',w6 (.n 3) K5 (P.map (·.1)) [.im c0,.im D0,.ow (.lst (X++[e7 n ls])),s3]=.nx [.im c0,.im D0,.ow (.lst (X++(e7 n ls::P.map fun q=>e7 n q.2))),s3']
 | [],ls,X,s3,_,_,_=>⟨s3,rfl⟩
 | (d,ls')::P,ls,X,s3,O,h,hl=>by obtain ⟨S,h2⟩:=h;simp only [List.length_cons] at hl;obtain ⟨s',e⟩:=Ox c0 D0 h60 P ls' (X++[e7 n ls]) (.im d) (S.ok O) h2 (by simp;omega);refine ⟨s',?_⟩;rw [List.map_cons,S9];show (K5 [.im c0,.im D0,.ow (.lst (X++[e7 n ls])),.im d]).itr _=_;rw [Oy S O h60 c0 D0 X (by omega),T8,e];simp
theorem Tl (h60:n<=60) (P:List (D×List P2)) (ls:List P2) (O:Okc n ls) (h:Pth n ls P) (hl:P.length<900) :
  B9 [e7 n ls,.lst (P.map (·.1))]=.ok (.lst (e7 n ls::P.map fun q=>e7 n q.2)):=by
 have nl:=E0 n ls
 obtain ⟨s',e⟩:=Ox (e7 n ls) (.lst (P.map (·.1))) h60 P ls [] .em O h (by simp;omega)
 generalize e7 n ls=C at *
 unfold B9 Lj
 generalize hds:P.map (·.1)=ds at *
 walk_at "dz"
 rw [nl]
 walk_at "dz"
 simp only [List.nil_append] at e
 rw [e]
 walk_at "dz"
theorem Pth.snoc:∀{Q:List (D×List P2)} {a b:List P2} {d':D} {c:List P2},Pth n a Q->o8 a Q=b->Stp n b d' c->Pth n a (Q++[(d',c)])/\o8 a (Q++[(d',c)])=c
 | [],a,b,d',c,_,e,S=>by simp only [o8] at e;subst e;exact ⟨⟨S,trivial⟩,rfl⟩
 | (x,a')::Q,a,b,d',c,h,e,S=>by obtain ⟨h1,h2⟩:=h;simp only [o8] at e;obtain ⟨i1,i2⟩:=Pth.snoc h2 e S;exact ⟨⟨h1,i1⟩,by simpa only [List.cons_append,o8] using i2⟩
theorem Ow (S:Stp n ls d ls') (O:Okc n ls) (h60:n<=60) (c0 D0:D) (B:List D) (hB:B.length<1000) :
  ∃d',Stp n ls' d' ls/\K2 [.im c0,.im D0,.ow (.lst B),.im (e7 n ls),.im d]=.nx [.im c0,.im D0,.ow (.lst (B++[d'])),.im (e7 n ls'),.im d]:=by
 have nl:=E0 n ls'
 obtain ⟨d',be,S'⟩:=jr S O h60 (fo:=d6 4) (fs:=d7 (d6 3) d9) (ρ:=[none,none,none,some (e7 n ls),some d]) rfl rfl
 have de:=fun (fo:DE->R D) (fs:DE->R (List D)) (ρ:DE) h1 h2=>Oz S O h60 (fo:=fo) (fs:=fs) (ρ:=ρ) h1 h2
 refine ⟨d',S',?_⟩
 have nd:=S'.deed.2
 generalize e7 n ls=C at *
 generalize e7 n ls'=C' at *
 have be2:∀x y z,D7 B6 (d6 4) (d7 (d6 3) d9) [x,y,z,some C,some d]=.ok d':=fun x y z=>be
 unfold K2
 walk_at "dz"
 rw [be2]
 walk_at "dz"
 rw [nd]
 walk_at "dz"
 rw [Km _ _ (by omega)]
 walk_at "dz"
 rw [de _ _ _ (by walk_at "dz") (by walk_at "dz")]
 walk_at "dz"
 rw [show keeps false C'=true from nl]
 walk_at "dz"
theorem Ov (c0 D0:D) (h60:n<=60):∀(P:List (D×List P2)) (ls:List P2) (B:List D) (s4:Sl),Okc n ls->Pth n ls P->B.length+P.length<1000 ->
  ∃(Bk:List D) (Q:List (D×List P2)) (s4':Sl),w6 (.n 4) K2 (P.map (·.1)) [.im c0,.im D0,.ow (.lst B),.im (e7 n ls),s4]=.nx [.im c0,.im D0,.ow (.lst (B++Bk)),.im (e7 n (o8 ls P)),s4'] /\
   Pth n (o8 ls P) Q/\Q.map (·.1)=Bk.reverse/\(e7 n (o8 ls P)::Q.map fun q=>e7 n q.2)=(e7 n ls::P.map fun q=>e7 n q.2).reverse/\Bk.length=P.length/\o8 (o8 ls P) Q=ls/\Okc n (o8 ls P)
 | [],ls,B,s4,O,_,_=>⟨[],[],s4,by simp [Sc,o8],trivial,rfl,rfl,rfl,rfl,O⟩
 | (d,ls')::P,ls,B,s4,O,h,hl=>by
  obtain ⟨S,h2⟩:=h;simp only [List.length_cons] at hl;obtain ⟨d',S',se⟩:=Ow S O h60 c0 D0 B (by omega);obtain ⟨Bk,Q,s',e,q1,q2,q3,q4,q5,q6⟩:=Ov c0 D0 h60 P ls' (B++[d']) (.im d) (S.ok O) h2 (by simp;omega);obtain ⟨i1,i2⟩:=Pth.snoc q1 q5 S';refine ⟨d'::Bk,Q++[(d',ls)],s',?_,i1,?_,?_,by simp [q4],i2,q6⟩
  . rw [List.map_cons,S9];show (K2 [.im c0,.im D0,.ow (.lst B),.im (e7 n ls),.im d]).itr _=_;rw [se,T8,e];simp [o8]
  . rw [List.map_append,q2,List.reverse_cons];rfl
  . simp only [o8,List.map_append,List.map_cons,List.map_nil,List.reverse_cons] at q3 ⊢;rw [<-List.cons_append,q3]
theorem jq (h60:n<=60) (P:List (D×List P2)) (ls:List P2) (O:Okc n ls) (h:Pth n ls P) (hl:P.length<900) :
  ∃Q,B5 [e7 n ls,.lst (P.map (·.1))]=.ok (.lst (Q.map (·.1)))/\Pth n (o8 ls P) Q/\(e7 n (o8 ls P)::Q.map fun q=>e7 n q.2)=(e7 n ls::P.map fun q=>e7 n q.2).reverse/\Q.length=P.length/\Okc n (o8 ls P):=by
 have nl:=E0 n ls
 obtain ⟨Bk,Q,s',e,q1,q2,q3,q4,q5,q6⟩:=Ov (e7 n ls) (.lst (P.map (·.1))) h60 P ls [] .em O h (by simp;omega)
 refine ⟨Q,?_,q1,q3,?_,q6⟩
 . rw [q2];generalize e7 n (o8 ls P)=C2 at *;generalize e7 n ls=C at *;unfold B5 Jo;generalize hds:P.map (·.1)=ds at *;walk_at "dz";rw [show keeps false C=true from nl];walk_at "dz";simp only [List.nil_append] at e;rw [e];walk_at "dz";simp only [X0];walk_at "dz"
 . have:=congrArg List.length q2;simp at this;omega
end
abbrev N4:DS->SR:=sIf (fun ρ=>((i6 asB (eOp dEq (d6 0) (eC (.int 0)))) ρ).noE) (h9 true 3 [false,true,true] (E8 knX B9 (d7 (d6 1) (d7 (d6 2) d9)))) (h9 true 3 [false,true,true] (E8 knX B5 (d7 (d6 1) (d7 (d6 2) d9))))
theorem qB (k:Int) (c ds:D) (xs:List D) (hk:(k=0/\B9 [c,ds]=.ok (.lst xs))\/(k=1/\B5 [c,ds]=.ok (.lst xs))) (hn:i9 xs=true):N4 [.im (.int k),.im c,.im ds,.ow (.lst [])]=.nx [.im (.int k),.im c,.im ds,.ow (.lst xs)]:=by
 rcases hk with ⟨rfl,h⟩ | ⟨rfl,h⟩
 . unfold N4;walk_at "dz";simp only [E8];walk_at "dz";rw [h];simp only [R.kn];walk_at "dz";rw [hn];walk_at "dz"
 . unfold N4;walk_at "dz";simp only [E8];walk_at "dz";rw [h];simp only [R.kn];walk_at "dz";rw [hn];walk_at "dz"
theorem qA (k:Int) (c ds:D) (z:List D) (hk:(k=0/\B9 [c,ds]=.er ⟨"NoLine",z⟩)\/(k=1/\B5 [c,ds]=.er ⟨"NoLine",z⟩)):N4 [.im (.int k),.im c,.im ds,.ow (.lst [])]=.er ⟨"NoLine",z⟩:=by
 rcases hk with ⟨rfl,h⟩ | ⟨rfl,h⟩
 . unfold N4;walk_at "dz";simp only [E8];walk_at "dz";rw [h];rfl
 . unfold N4;walk_at "dz";simp only [E8];walk_at "dz";rw [h];rfl
theorem Re (k:Int) (c ds r:D) (h2:Q7 N4 (hNo Ak (h9 false 3 [] (eC .non)) Ei) [.im (.int k),.im c,.im ds,.ow (.lst [])]=.nx [.im (.int k),.im c,.im ds,.ow r]\/Q7 N4 (hNo Ak (h9 false 3 [] (eC .non)) Ei) [.im (.int k),.im c,.im ds,.ow (.lst [])]=.nx [.im (.int k),.im c,.im ds,.im r]):p9 [.int k,c,ds]=.ok r:=by
 have s1:h9 true 3 [] (t8 d9) [.im (.int k),.im c,.im ds,.em]=.nx [.im (.int k),.im c,.im ds,.ow (.lst [])]:=by walk_at "dz"
 unfold p9;rw [Cv,ζ (show [D.int k,c,ds].length=3 from rfl)];show SR.out false (Mo [.im (.int k),.im c,.im ds,.em])=_;unfold Mo;rcases h2 with h2 | h2
 . rw [t6 s1,t6 h2];walk_at "dz"
 . rw [t6 s1,t6 h2];walk_at "dz"
theorem Rc (k:Int) (c ds:D) (xs:List D) (hk:(k=0/\B9 [c,ds]=.ok (.lst xs))\/(k=1/\B5 [c,ds]=.ok (.lst xs))) (hn:i9 xs=true):p9 [.int k,c,ds]=.ok (.lst xs):=by refine Re k c ds _ (.inl ?_);unfold Q7;rw [qB k c ds xs hk hn]
theorem Rb (k:Int) (c ds:D) (z:List D) (hk:(k=0/\B9 [c,ds]=.er ⟨"NoLine",z⟩)\/(k=1/\B5 [c,ds]=.er ⟨"NoLine",z⟩)):p9 [.int k,c,ds]=.ok .non:=by refine Re k c ds _ (.inr ?_);unfold Q7;rw [qA k c ds z hk];rfl
section
variable {n:Nat} {ls ls':List P2} {d:D}
theorem qz (n:Int) (ls:List P2) (p:P2) (h:p∉ls):Q5 [e7 n ls,T2 p]=.er ⟨"NoLine",[]⟩:=by unfold Q5 Mr e7;have e:=Hm p;have e2:=Kn p ls;generalize T2 p=q at *;generalize D.tup (ls.map T2)=tl at *;walk_at "dz";rw [e];walk_at "dz";rw [e2,decide_eq_false h];walk_at "dz";rfl
theorem xE (n:Int) (ls:List P2) (p:P2) (h:p∉ls):K3 [e7 n ls,T2 p]=.er ⟨"NoLine",[]⟩:=by have e:=qz n ls p h;unfold K3 Lk;generalize e7 n ls=C at *;generalize T2 p=q at *;walk_at "dz";rw [e];walk_at "dz"
theorem Ra (h:p∉ls) (h1:fo ρ=.ok (.obj "TurnLine" [T2 p])) (h2:fs ρ=.ok [e7 n ls]):D7 z9 fo fs ρ=.er ⟨"NoLine",[]⟩/\D7 B6 fo fs ρ=.er ⟨"NoLine",[]⟩:=by
 have te:=xE n ls p h;refine ⟨?_,?_⟩
 . rw [N5 h1 h2 (show z9 "TurnLine"=some V7 by simp [z9])];unfold V7 Mw;generalize e7 n ls=C at *;walk_at "dz";rw [Ew];walk_at "dz";rw [te];walk_at "dz"
 . rw [N5 h1 h2 (show B6 "TurnLine"=some V6 by simp [B6])];unfold V6 Mv;generalize e7 n ls=C at *;walk_at "dz";simp only [y4];walk_at "dz";rw [Ew];walk_at "dz";rw [te];walk_at "dz"
theorem qy (h:p∉ls) (c0 D0:D) (X:List D) :
  K5 [.im c0,.im D0,.ow (.lst (X++[e7 n ls])),.im (.obj "TurnLine" [T2 p])]=.er ⟨"NoLine",[]⟩:=by
 have de:=fun (fo:DE->R D) (fs:DE->R (List D)) (ρ:DE) h1 h2=>(Ra (n:=n) h (fo:=fo) (fs:=fs) (ρ:=ρ) h1 h2).1
 generalize e7 n ls=C at *
 unfold K5
 walk_at "dz"
 rw [de _ _ _ (by walk_at "dz") (by walk_at "dz";rw [Dk];walk_at "dz")]
 walk_at "dz"
theorem Ou (c0 D0:D) (h60:n<=60) (p:P2) (R:List D):∀(P:List (D×List P2)) (ls:List P2) (X:List D) (s3:Sl),Okc n ls->Pth n ls P->X.length+P.length<1000->p∉o8 ls P ->
  w6 (.n 3) K5 (P.map (·.1)++.obj "TurnLine" [T2 p]::R) [.im c0,.im D0,.ow (.lst (X++[e7 n ls])),s3]=.er ⟨"NoLine",[]⟩
 | [],ls,X,s3,_,_,_,hp=>by rw [List.map_nil,List.nil_append,S9];show (K5 [.im c0,.im D0,.ow (.lst (X++[e7 n ls])),.im (.obj "TurnLine" [T2 p])]).itr _=_;have hp:p∉ls:=hp;rw [qy hp];rfl
 | (d,ls')::P,ls,X,s3,O,h,hl,hp=>by obtain ⟨S,h2⟩:=h;simp only [List.length_cons] at hl;have e:=Ou c0 D0 h60 p R P ls' (X++[e7 n ls]) (.im d) (S.ok O) h2 (by simp;omega) hp;rw [List.map_cons,List.cons_append,S9];show (K5 [.im c0,.im D0,.ow (.lst (X++[e7 n ls])),.im d]).itr _=_;rw [Oy S O h60 c0 D0 X (by omega),T8,e]
theorem wv (h60:n<=60) (P:List (D×List P2)) (ls:List P2) (O:Okc n ls) (h:Pth n ls P) (hl:P.length<900) (p:P2) (R:List D) (hp:p∉o8 ls P) :
  B9 [e7 n ls,.lst (P.map (·.1)++.obj "TurnLine" [T2 p]::R)]=.er ⟨"NoLine",[]⟩:=by
 have nl:=E0 n ls
 have e:=Ou (e7 n ls) (.lst (P.map (·.1)++.obj "TurnLine" [T2 p]::R)) h60 p R P ls [] .em O h (by simp;omega) hp
 generalize e7 n ls=C at *
 unfold B9 Lj
 generalize hds:P.map (·.1)++D.obj "TurnLine" [T2 p]::R=ds at *
 walk_at "dz"
 rw [nl]
 walk_at "dz"
 simp only [List.nil_append] at e
 rw [e]
 walk_at "dz"
theorem qx (h:p∉ls) (c0 D0:D) (B:List D) :
  K2 [.im c0,.im D0,.ow (.lst B),.im (e7 n ls),.im (.obj "TurnLine" [T2 p])]=.er ⟨"NoLine",[]⟩:=by
 have de:=fun (fo:DE->R D) (fs:DE->R (List D)) (ρ:DE) h1 h2=>(Ra (n:=n) h (fo:=fo) (fs:=fs) (ρ:=ρ) h1 h2).2
 generalize e7 n ls=C at *
 unfold K2
 walk_at "dz"
 rw [de _ _ _ (by walk_at "dz") (by walk_at "dz")]
 walk_at "dz"
theorem Ot (c0 D0:D) (h60:n<=60) (p:P2) (R:List D):∀(P:List (D×List P2)) (ls:List P2) (B:List D) (s4:Sl),Okc n ls->Pth n ls P->B.length+P.length<1000->p∉o8 ls P ->
  w6 (.n 4) K2 (P.map (·.1)++.obj "TurnLine" [T2 p]::R) [.im c0,.im D0,.ow (.lst B),.im (e7 n ls),s4]=.er ⟨"NoLine",[]⟩
 | [],ls,B,s4,_,_,_,hp=>by rw [List.map_nil,List.nil_append,S9];show (K2 [.im c0,.im D0,.ow (.lst B),.im (e7 n ls),.im (.obj "TurnLine" [T2 p])]).itr _=_;have hp:p∉ls:=hp;rw [qx hp];rfl
 | (d,ls')::P,ls,B,s4,O,h,hl,hp=>by obtain ⟨S,h2⟩:=h;simp only [List.length_cons] at hl;obtain ⟨d',S',se⟩:=Ow S O h60 c0 D0 B (by omega);have e:=Ot c0 D0 h60 p R P ls' (B++[d']) (.im d) (S.ok O) h2 (by simp;omega) hp;rw [List.map_cons,List.cons_append,S9];show (K2 [.im c0,.im D0,.ow (.lst B),.im (e7 n ls),.im d]).itr _=_;rw [se,T8,e]
theorem qw (h60:n<=60) (P:List (D×List P2)) (ls:List P2) (O:Okc n ls) (h:Pth n ls P) (hl:P.length<900) (p:P2) (R:List D) (hp:p∉o8 ls P) :
  B5 [e7 n ls,.lst (P.map (·.1)++.obj "TurnLine" [T2 p]::R)]=.er ⟨"NoLine",[]⟩:=by
 have nl:=E0 n ls
 have e:=Ot (e7 n ls) (.lst (P.map (·.1)++.obj "TurnLine" [T2 p]::R)) h60 p R P ls [] .em O h (by simp;omega) hp
 generalize e7 n ls=C at *
 unfold B5 Jo
 generalize hds:P.map (·.1)++D.obj "TurnLine" [T2 p]::R=ds at *
 walk_at "dz"
 rw [show keeps false C=true from nl]
 walk_at "dz"
 rw [e]
 walk_at "dz"
end
theorem jp:N8 (.int 10) (.int 60)=some (.int (10 ^ Int.toNat 60)):=by unfold N8;rw [Db,ζ (show O1 10 60 from ⟨by decide,by decide,by decide⟩)]
theorem jo:N8 (.int 10) (.int 30)=some (.int (10 ^ Int.toNat 30)):=by unfold N8;rw [Db,ζ (show O1 10 30 from ⟨by decide,by decide,by decide⟩)]
theorem jm (c:Int):∃w,Q4 [.int c]=.ok (.int w):=by
 have hB:(0:Int)<10 ^ Int.toNat 60:=Int.pow_pos (by decide);unfold Q4 Wf;have hp:=jp;generalize (10:Int) ^ Int.toNat 60=B at *;walk_at "dz";rw [x9 (by omega)];walk_at "dz";by_cases h:c % 2=0
 . rw [decide_eq_true h];walk_at "dz";rw [X3 (by omega)];walk_at "dz";rw [x9 (by omega)];walk_at "dz";exact ⟨_,rfl⟩
 . rw [decide_eq_false h];walk_at "dz";rw [X3 (by omega),hp];walk_at "dz";rw [Hu (by omega)];walk_at "dz";rw [x9 (by omega)];walk_at "dz";exact ⟨_,rfl⟩
theorem Qz (I:CInv n ls T) (h:l∈ls):∀k,k∈u9 T l->k≠l.1/\k≠l.2:=by intro k hk;obtain ⟨⟨x,y,z⟩,ht,hb,e⟩:=mem_dues.mp hk;have g:=I.tri _ _ _ ht;have li:=I.lin l.1 l.2 h;rw [bth_iff] at hb;simp only at hb e;omega
section
variable {n:Nat} {ls:List P2}
theorem Qy (hl:ls.length<=60) (j:Int) (h0:0<=j) (h1:j<ls.length):∃l∈ls,dIx (.tup (ls.map T2)) (.int j)=some (T2 l):=by
 have hj:j.toNat<ls.length:=by omega
 refine ⟨ls[j.toNat],List.getElem_mem hj,?_⟩;have:=jZ (ds:=ls.map T2) (j:=j.toNat) (d:=T2 ls[j.toNat]) (by rw [List.getElem?_map,List.getElem?_eq_getElem hj];rfl);rwa [show ((j.toNat:Nat):Int)=j by omega] at this
theorem jk (p:P2):Cz (.tup [.str "turn",T2 p]) (.obj "TurnLine" [T2 p]):=⟨"turn",T2 p,"TurnLine",[T2 p],.t [.i p.1,.i p.2],[.t [.i p.1,.i p.2]],rfl,rfl,rfl,rfl,by simp [NK.dep,K0],rfl⟩
theorem ji (b:Int):Cz (.tup [.str "spin",.int b]) (.obj "Spin" [.int b]):=⟨"spin",.int b,"Spin",[.int b],.i b,[.i b],rfl,rfl,rfl,rfl,by simp [NK.dep],rfl⟩
theorem jh:Cz (.tup [.str "mirror",.int 0]) (.obj "Mirror" []):=⟨"mirror",.int 0,"Mirror",[],.i 0,[],rfl,rfl,rfl,rfl,by simp [NK.dep],rfl⟩
theorem Mx (hk:k<100000) (h:fs (vis m [.im C,.im c,.ow (.dp hf k),s3,s4])=.ok [dk,dv]) (hn:i9 [dk,dv]=true) (ht:o9 true m [.im C,.im c,.ow (.dp hf k),s3,s4]=[.im C,.im c,.ow (.dp hf k),s3,s4]) (hp:Cz dk dv) :
  sRetP hf 2 m fs [.im C,.im c,.ow (.dp hf k),s3,s4]=.bk [.im dv,.im c,.ow (.dp hf (k+1)),s3,s4]:=by
 unfold sRetP
 simp only [List.getElem?_cons_succ,List.getElem?_cons_zero,if_true]
 rw [h,P6]
 simp only [hn,ht,List.getElem?_cons_succ,List.getElem?_cons_zero]
 rw [ζ ⟨rfl,hk,hp⟩]
 rfl
theorem Ev (c:Int) (hA:¬(c % 4<2/\3<n)) (tl:D) (r:DS) (X:DS->SR):sIf (G3 (i6 asB (eOp J7 (eOp n6 (d6 1) (eC (.int 4))) (eC (.int 2)))) (i6 asB (eOp S0 (eOp dIx (d6 0) (eC (.int 0))) (eC (.int 3))))) X sNx (.im (.tup [.int (n:Int),tl])::.im (.int c)::r)=.nx (.im (.tup [.int (n:Int),tl])::.im (.int c)::r):=by
 have m4:n6 (.int c) (.int 4)=some (.int (c % 4)):=x9 (by omega);walk_at "dz";rw [m4];walk_at "dz";by_cases h2:c % 4<2
 . rw [decide_eq_true h2,decide_eq_false (show ¬(n:Int) > 3 by omega)];walk_at "dz"
 . rw [decide_eq_false h2];walk_at "dz"
theorem Ef (c:Int) (C:D) (r:DS) (X:DS->SR):sIf (i6 asB (eOp J7 (eOp n6 (d6 1) (eC (.int 4))) (eC (.int 3)))) X sNx (.im C::.im (.int c)::r)=if c % 4<3 then X (.im C::.im (.int c)::r) else .nx (.im C::.im (.int c)::r):=by
 have m4:n6 (.int c) (.int 4)=some (.int (c % 4)):=x9 (by omega);walk_at "dz";rw [m4];walk_at "dz";by_cases h2:c % 4<3
 . rw [decide_eq_true h2,ζ rfl,ζ h2]
 . rw [decide_eq_false h2,ξ θ,ξ h2]
theorem jg (h:a ρ=.rt d):g8 a r ρ=.rt d:=by rw [Fv,h,wo]
theorem jf (O:Okc n ls) (h60:n<=60) (c:Int) (hf:PySem.Str->Int) (k:Nat) (hk:k<1000):∃d ls',Stp n ls d ls'/\Q3 [e7 n ls,.int c]=.ok (e7 n ls')/\K6 hf [e7 n ls,.int c,.dp hf k]=.ok (d,.dp hf (k+1)):=by
 obtain ⟨⟨T0,I0⟩,hs,hlen⟩:=id O;have n3:3<=n:=by have:=I0.n3;omega
 have hl:ls.length<=60:=by omega
 have nl:=E0 n ls;have m4:n6 (.int c) (.int 4)=some (.int (c % 4)):=x9 (by omega);have d4:v5 (.int c) (.int 4)=some (.int (c / 4)):=X3 (by omega);by_cases hA:c % 4<2/\3<n
 . have hj:n6 (.int (c / 4)) (.int ((n:Int) - 3))=some (.int (c / 4 % ((n:Int) - 3))):=x9 (by omega);have j0:0<=c / 4 % ((n:Int) - 3):=Int.emod_nonneg _ (by omega);have j1:c / 4 % ((n:Int) - 3)<(n:Int) - 3:=Int.emod_lt_of_pos _ (by omega);obtain ⟨l,hm,ix⟩:=Qy hl (c / 4 % ((n:Int) - 3)) j0 (by omega);obtain ⟨w,ls0,T,T',K,p0,K',hw,hv,hwn⟩:=Stp.turn' O hm;have lw:=K'.inv.lin w.1 w.2 (List.mem_append_right _ List.mem_cons_self);have te:=Um K hl h60 hm p0 hw (by omega) lw.1 (by omega) (Qz K.inv hm);refine ⟨_,_,.turn K hm p0 K' hw hv,?_,?_⟩
   . unfold Q3 Bb;generalize hR:e7 n (so2 (ls0++[w]))=R0 at *;unfold e7 at *;generalize hq:T2 l=q at *;generalize D.tup (ls.map T2)=tl at *;walk_at "dz";rw [m4];walk_at "dz";rw [decide_eq_true hA.1,decide_eq_true (show (n:Int) > 3 by omega)];walk_at "dz";rw [d4];walk_at "dz";rw [hj];walk_at "dz";rw [ix];walk_at "dz";rw [te];walk_at "dz"
   . have nq:=T7 l;have rp:=Mx (hf:=hf) (m:=[false,false,false,true]) (fs:=d7 (p7 (d7 (eC (.str "turn")) (d7 (d6 3) d9))) (d7 (y4 "TurnLine" (d7 (d6 3) d9)) d9)) (C:=e7 n ls) (c:=.int c) (dk:=.tup [.str "turn",T2 l]) (dv:=.obj "TurnLine" [T2 l]) (s3:=.im (T2 l)) (s4:=.em) (k:=k) (by omega) (by walk_at "dz";rw [My l _ _ (by walk_at "dz")];walk_at "dz") (by simp [i9,D.noL,T7]) (by walk_at "dz") (jk l);unfold K6 mPl;rw [ζ (show [e7 n ls,D.int c,D.dp hf k].length=2+1 from rfl)];show (match K7 hf [.im (e7 n ls),.im (.int c),.ow (.dp hf k),.em,.em] with | .bk ρ=>_ | _=>_)=_;have ge:K7 hf [.im (e7 n ls),.im (.int c),.ow (.dp hf k),.em,.em]=.bk [.im (.obj "TurnLine" [T2 l]),.im (.int c),.ow (.dp hf (k+1)),.im (T2 l),.em]:=by unfold K7;unfold e7 at *;generalize hq:T2 l=q at *;generalize D.tup (ls.map T2)=tl at *;walk_at "dz";rw [m4];walk_at "dz";rw [decide_eq_true hA.1,decide_eq_true (show (n:Int) > 3 by omega)];walk_at "dz";rw [d4];walk_at "dz";rw [hj];walk_at "dz";rw [ix];walk_at "dz";rw [show keeps false q=true from nq];walk_at "dz";rw [rp];walk_at "dz"
     rw [ge];rfl
 . by_cases hB:c % 4<3
   . obtain ⟨b,wb⟩:=jm (c / 4);have li:=Tn n 1 b (.inl rfl) ls n3 (by omega);rw [show (fun x:Int=>(1 * x+b) % (n:Int))=fun x=>(x+b) % (n:Int) from funext fun x=>by rw [Int.one_mul]] at li;refine ⟨_,_,.spin ls b,?_,?_⟩
     . unfold Q3;rw [Cv,ζ (show [e7 n ls,D.int c].length=2 from rfl)];show SR.out false (Bb [.im (e7 n ls),.im (.int c)])=_;unfold Bb;rw [t6 (Ev c hA _ _ _),Fv,Ef,ζ hB];unfold e7 at *;generalize D.tup (ls.map T2)=tl at *;walk_at "dz";rw [d4];walk_at "dz";rw [wb];walk_at "dz";rw [li];walk_at "dz"
     . have rp:=Mx (hf:=hf) (m:=[false,false,false,false,true]) (fs:=d7 (p7 (d7 (eC (.str "spin")) (d7 (d6 4) d9))) (d7 (y4 "Spin" (d7 (d6 4) d9)) d9)) (C:=e7 n ls) (c:=.int c) (dk:=.tup [.str "spin",.int b]) (dv:=.obj "Spin" [.int b]) (s3:=.em) (s4:=.im (.int b)) (k:=k) (by omega) (by
        walk_at "dz"
        rw [Xl b _ _ (by walk_at "dz")]
        walk_at "dz") (by simp [i9,D.noL]) (by walk_at "dz") (ji b)
       have ge:K7 hf [.im (e7 n ls),.im (.int c),.ow (.dp hf k),.em,.em]=.bk [.im (.obj "Spin" [.int b]),.im (.int c),.ow (.dp hf (k+1)),.em,.im (.int b)]:=by unfold K7;rw [t6 (Ev c hA _ _ _),Fv,Ef,ζ hB];unfold e7 at *;generalize D.tup (ls.map T2)=tl at *;walk_at "dz";rw [d4];walk_at "dz";rw [wb];walk_at "dz";rw [rp];walk_at "dz"
       unfold K6 mPl
       rw [ζ (show [e7 n ls,D.int c,D.dp hf k].length=2+1 from rfl)]
       show (match K7 hf [.im (e7 n ls),.im (.int c),.ow (.dp hf k),.em,.em] with | .bk ρ=>_ | _=>_)=_
       rw [ge]
       rfl
   . have li:=Tn n (-1) 0 (.inr rfl) ls n3 (by omega);rw [show (fun x:Int=>(-1 * x+0) % (n:Int))=fun x=>((n:Int) - x) % (n:Int) from funext fun x=>by rw [show (n:Int) - x=-1 * x+0+(n:Int) by omega,Int.add_emod_right]] at li;refine ⟨_,_,.mir ls,?_,?_⟩
     . unfold Q3;rw [Cv,ζ (show [e7 n ls,D.int c].length=2 from rfl)];show SR.out false (Bb [.im (e7 n ls),.im (.int c)])=_;unfold Bb;rw [t6 (Ev c hA _ _ _),t6 (by rw [Ef,ξ hB])];unfold e7 at *;generalize D.tup (ls.map T2)=tl at *;walk_at "dz";rw [li];walk_at "dz"
     . have rp:=Mx (hf:=hf) (m:=[]) (fs:=d7 (p7 (d7 (eC (.str "mirror")) (d7 (eC (.int 0)) d9))) (d7 (Y5 "Mirror") d9)) (C:=e7 n ls) (c:=.int c) (dk:=.tup [.str "mirror",.int 0]) (dv:=.obj "Mirror" []) (s3:=.em) (s4:=.em) (k:=k) (by omega) (by
        walk_at "dz"
        simp only [Y5]
        walk_at "dz") (by simp [i9,D.noL]) (by walk_at "dz") jh
       have ge:K7 hf [.im (e7 n ls),.im (.int c),.ow (.dp hf k),.em,.em]=.bk [.im (.obj "Mirror" []),.im (.int c),.ow (.dp hf (k+1)),.em,.em]:=by unfold K7;rw [t6 (Ev c hA _ _ _),t6 (by rw [Ef,ξ hB]),rp]
       unfold K6 mPl
       rw [ζ (show [e7 n ls,D.int c,D.dp hf k].length=2+1 from rfl)]
       show (match K7 hf [.im (e7 n ls),.im (.int c),.ow (.dp hf k),.em,.em] with | .bk ρ=>_ | _=>_)=_
       rw [ge]
       rfl
end
section
variable {n:Nat} {ls:List P2}
theorem wu (I:CInv n ls T) (a b:Int) (h:¬(0<=a/\a+2<=b/\b<=n - 1/\¬(a=0/\b=n - 1))):(a,b)∉ls:=fun z=>h (I.lin a b z)
theorem xD (O:Okc n ls) (h60:n<=60) (c:Int):∃p,p∉ls/\K8 [e7 n ls,.int c]=.ok (T2 p):=by
 obtain ⟨⟨T0,I0⟩,hs,hlen⟩:=id O;have n3:3<=n:=by have:=I0.n3;omega
 have hl:ls.length<=60:=by omega
 have nl:=E0 n ls;have hB:(0:Int)<10 ^ Int.toNat 30:=Int.pow_pos (by decide);have hp:=jo;have m5:n6 (.int c) (.int 5)=some (.int (c % 5)):=x9 (by omega);have d5:v5 (.int c) (.int 5)=some (.int (c / 5)):=X3 (by omega);have i5:0<=c % 5:=Int.emod_nonneg _ (by omega);have j5:c % 5<5:=Int.emod_lt_of_pos _ (by omega);unfold K8;rw [Cv,ζ (show [e7 n ls,D.int c].length=2 from rfl)];show ∃p,p∉ls/\SR.out false (Ms [.im (e7 n ls),.im (.int c),.em,.em,.em,.em])=_;unfold Ms;generalize (10:Int) ^ Int.toNat 30=B at *;have mB:n6 (.int (c / 5)) (.int B)=some (.int (c / 5 % B)):=x9 (by omega);have b0:0<=c / 5 % B:=Int.emod_nonneg _ (by omega);generalize c / 5 % B=z at *;by_cases hA:3<n/\c % 5=4
 . have hj:n6 (.int (c / 5)) (.int ((n:Int) - 3))=some (.int (c / 5 % ((n:Int) - 3))):=x9 (by omega);have j0:0<=c / 5 % ((n:Int) - 3):=Int.emod_nonneg _ (by omega);have j1:c / 5 % ((n:Int) - 3)<(n:Int) - 3:=Int.emod_lt_of_pos _ (by omega);obtain ⟨l,hm,ix⟩:=Qy hl (c / 5 % ((n:Int) - 3)) j0 (by omega);obtain ⟨w,ls0,T,T',K,p0,K',hw,hv,hwn⟩:=Stp.turn' O hm;have lw:=K'.inv.lin w.1 w.2 (List.mem_append_right _ List.mem_cons_self);have te:=Um K hl h60 hm p0 hw (by omega) lw.1 (by omega) (Qz K.inv hm);refine ⟨w,hwn,?_⟩;have inn:=fun o=>Kn o ls
   have fl:(so2 (ls0++[w])).filter (fun o=>!decide (o∈ls))=[w]:=by
    have e:((ls0++[w]).filter fun o=>!decide (o∈ls))=[w]:=by rw [List.filter_append,List.filter_eq_nil_iff.mpr fun o ho=>by simp;exact p0.mem_iff.mpr (List.mem_cons_of_mem _ ho)];simp [hwn]
    have pm:=(C1 (ls0++[w])).filter fun o=>!decide (o∈ls)
    rw [e] at pm;exact List.perm_singleton.mp pm
   have hxl:(so2 (ls0++[w])).length<=60:=by rw [(C1 _).length_eq,χ,List.length_singleton];have:=p0.length_eq;rw [List.length_cons] at this;omega
   generalize so2 (ls0++[w])=xs at *;have nq:=T7 l;unfold e7 at *;generalize hq:T2 l=q at *;generalize D.tup (ls.map T2)=tl at *;walk_at "dz";rw [d5];walk_at "dz";rw [hp];walk_at "dz";rw [mB];walk_at "dz";rw [m5];walk_at "dz";rw [decide_eq_true (show (3:Int)<n by omega),decide_eq_true hA.2];walk_at "dz";rw [d5];walk_at "dz";rw [hj];walk_at "dz";rw [ix];walk_at "dz";rw [show keeps false q=true from nq];walk_at "dz";rw [te];walk_at "dz";rw [ζ (by rw [List.length_map];omega),U9 (en:=T2) (bs:=fun o=>[T2 o]) (p:=fun o=>!decide (o∈ls)) (g:=fun o=>T2 o) xs (fun x _=>rfl) (fun o _=>by
    unfold Xh;have:=inn o;walk_at "dz";rw [this];walk_at "dz") (fun o _ _=>by
    unfold Xg;walk_at "dz"),fl]
   walk_at "dz"
 . obtain ⟨j,hj⟩:∃j:Nat,c % 5=(j:Int):=⟨(c % 5).toNat,by omega⟩;have hj5:j<5:=by omega
   have nz:∀p∈[((1:Int),(2:Int)),(0,(n:Int) - 1),(2,0),(0,(n:Int)+z),((n:Int) - 1,1)],p∉ls:=by intro p hp;simp only [List.mem_cons,List.not_mem_nil,or_false] at hp;rcases hp with rfl | rfl | rfl | rfl | rfl<;>exact wu I0 _ _ (by omega)
   have ix:∃p∈[((1:Int),(2:Int)),(0,(n:Int) - 1),(2,0),(0,(n:Int)+z),((n:Int) - 1,1)],dIx (.lst ([((1:Int),(2:Int)),(0,(n:Int) - 1),(2,0),(0,(n:Int)+z),((n:Int) - 1,1)].map T2)) (.int (c % 5))=some (T2 p):=by
    generalize hL:[((1:Int),(2:Int)),(0,(n:Int) - 1),(2,0),(0,(n:Int)+z),((n:Int) - 1,1)]=L5 at *;have hL5:L5.length=5:=by rw [<-hL];rfl
    refine ⟨L5[j],List.getElem_mem (by omega),?_⟩;rw [hj];exact Kb (by rw [List.getElem?_map,List.getElem?_eq_getElem (by omega)];rfl)
   obtain ⟨p,hp1,hp2⟩:=ix;refine ⟨p,nz p hp1,?_⟩;simp only [List.map_cons,List.map_nil] at hp2;generalize hR:T2 p=R0 at *;simp only [T2] at hp2;unfold e7;generalize D.tup (ls.map T2)=tl at *;walk_at "dz";rw [d5];walk_at "dz";rw [hp];walk_at "dz";rw [mB];walk_at "dz";rw [m5];walk_at "dz";have fin:SR.out false (((R.of (n6 (D.int c) (D.int 5))).bind fun y=>R.of (dIx (D.lst [D.tup [D.int 1,D.int 2],D.tup [D.int 0,D.int ((n:Int) - 1)],D.tup [D.int 2,D.int 0],D.tup [D.int 0,D.int ((n:Int)+z)],D.tup [D.int ((n:Int) - 1),D.int 1]]) y)).toS fun d=>SR.rt d)=.ok R0:=by rw [m5];walk_at "dz";rw [hp2];walk_at "dz"
   by_cases h3:(3:Int)<n
   . rw [decide_eq_true h3,decide_eq_false (fun e=>hA ⟨by omega,e⟩),ζ rfl,ξ θ];exact fin
   . rw [decide_eq_false h3,ξ θ];exact fin
end
theorem qu (A0:D) (cs:List Int) (hl:cs.length<=57):∃(n:Nat) (ls:List P2) (T:List P3) (s3:Sl),CInv (n:Int) ls T/\n=cs.length+3/\ls.length+3=n /\
  w6 (.n 3) Ee (cs.map D.int) [.im A0,.im (.int 3),.ow (.lst []),.em]=.nx [.im A0,.im (.int (n:Int)),.ow (.lst (ls.map T2)),s3]:=by
 obtain ⟨ρ',e,n,ls,T,s3,I,hn,hm,hr⟩:=Ty (tg:=.n 3) (g:=Ee) (en:=D.int)
  (fun r ρ=>∃(n:Nat) (ls:List P2) (T:List P3) (s3:Sl),CInv (n:Int) ls T/\n+r.length=cs.length+3/\ls.length+3=n/\ρ=[.im A0,.im (.int (n:Int)),.ow (.lst (ls.map T2)),s3])
  cs [.im A0,.im (.int 3),.ow (.lst []),.em] ⟨3,[],[(0,1,2)],.em,y2y,by omega,rfl,rfl⟩ (by rintro x r ρ ⟨n,ls,T,s3,I,hn,hm,rfl⟩;have h3:=I.n3;simp only [List.length_cons] at hn;have hrep:(List.replicate n (0:Int)).length=n:=List.length_replicate;obtain ⟨c,hc,e⟩:=qE (.im A0) (List.replicate n 0) ls x (by omega) (by omega) (by omega);rw [hrep] at hc e;refine ⟨_,_,rfl,Or.inl e,⟨n+1,_,_,.im (.int x),I.grow (c:Int) (by omega) (by omega),by omega,by simp;omega,?_⟩⟩;simp)
 exact ⟨n,ls,T,s3,I,by simpa using hn,hm,by rw [e,hr]⟩
theorem qt (cs:List Int) (hl:cs.length<=57):∃(n:Nat) (ls:List P2),Okc n ls/\n=cs.length+3/\V3 [L cs]=.ok (e7 n ls):=by obtain ⟨n,ls,T,s3,I,hn,hm,e⟩:=qu (L cs) cs hl;refine ⟨n,so2 ls,⟨⟨T,I.perm (C1 _)⟩,Jp _,by rw [(C1 _).length_eq];exact hm⟩,hn,?_⟩;unfold V3 Wn;walk_at "dz";rw [e];walk_at "dz";rw [sorted_T2 _ (by omega)];walk_at "dz"
section
variable {n:Nat}
theorem y0t (hf:PySem.Str->Int) (h60:n<=60) (ls:List P2) (Ok:Okc n ls) (A0 A1 A2:D) (X:List D) (Ds:List D) (k:Nat) (hk:k<900) (hX:X.length<900) (hD:Ds.length<900) (c:Int) :
  ∃d ls',Stp n ls d ls'/\Z5 hf [.im A0,.im A1,.im A2,.ow (.lst (X++[e7 n ls])),.ow (.lst Ds),.ow (.dp hf k),.im (.int c),.em,.em,.em]=.nx [.im A0,.im A1,.im A2,.ow (.lst (X++[e7 n ls]++[e7 n ls'])),.ow (.lst (Ds++[d])),.ow (.dp hf (k+1)),.im (.int c),.em,.em,.em]:=by
 obtain ⟨d,ls',S,ne,de⟩:=jf Ok h60 c hf k (by omega)
 refine ⟨d,ls',S,?_⟩
 have nl:=E0 n ls
 have nl':=E0 n ls'
 generalize e7 n ls=C at *
 generalize e7 n ls'=C' at *
 have a:X1 4 5 [false,false,false,true,false,false,true] (K6 hf) 2 (d7 (eOp dIx (d6 3) (eUn D5 (eC (D.int 1)))) (d7 (d6 6) d9))
   [.im A0,.im A1,.im A2,.ow (.lst (X++[C])),.ow (.lst Ds),.ow (.dp hf k),.im (.int c),.em,.em,.em]=.nx [.im A0,.im A1,.im A2,.ow (.lst (X++[C])),.ow (.lst (Ds++[d])),.ow (.dp hf (k+1)),.im (.int c),.em,.em,.em]:=by
  have fe:d7 (eOp dIx (d6 3) (eUn D5 (eC (D.int 1)))) (d7 (d6 6) d9) (vis [false,false,false,true,false,false,true] [.im A0,.im A1,.im A2,.ow (.lst (X++[C])),.ow (.lst Ds),.ow (.dp hf k),.im (.int c),.em,.em,.em])=.ok [C,.int c]:=by walk_at "dz";rw [Dk];walk_at "dz"
  have nn:i9 [C,D.int c]=true:=by simp [i9,nl,D.noL]
  have tt:o9 true [false,false,false,true,false,false,true] [.im A0,.im A1,.im A2,.ow (.lst (X++[C])),.ow (.lst Ds),.ow (.dp hf k),.im (.int c),.em,.em,.em]=[.im A0,.im A1,.im A2,.ow (.lst (X++[C])),.ow (.lst Ds),.ow (.dp hf k),.im (.int c),.em,.em,.em]:=by walk_at "dz"
  unfold X1
  simp only [List.getElem?_cons_succ,List.getElem?_cons_zero]
  rw [fe,P6]
  simp only [nn,tt,List.getElem?_cons_succ,List.getElem?_cons_zero]
  rw [ζ ⟨by decide,by omega,rfl⟩]
  show (match K6 hf [C,.int c,.dp hf k] with | .ok (d,p')=>_ | _=>_)=_
  rw [de]
  rfl
 unfold Z5
 rw [t6 a]
 walk_at "dz"
 rw [Dk]
 walk_at "dz"
 rw [ne]
 walk_at "dz"
 rw [nl']
 walk_at "dz"
 rw [Km _ _ (by simp;omega)]
 walk_at "dz"
theorem Nb (hf:PySem.Str->Int) (h60:n<=60) (A0 A1 A2:D):∀(cs:List Int) (ls:List P2) (X Ds:List D) (k:Nat) (s6:Sl),Okc n ls->k+cs.length<900->X.length+cs.length<900->Ds.length+cs.length<900 ->
  ∃(P:List (D×List P2)) (k':Nat) (s6':Sl),Pth n ls P/\P.length=cs.length/\w6 (.n 6) (Z5 hf) (cs.map D.int) [.im A0,.im A1,.im A2,.ow (.lst (X++[e7 n ls])),.ow (.lst Ds),.ow (.dp hf k),s6,.em,.em,.em]=.nx [.im A0,.im A1,.im A2,.ow (.lst (X++(e7 n ls::P.map fun q=>e7 n q.2))),.ow (.lst (Ds++P.map (·.1))),.ow (.dp hf k'),s6',.em,.em,.em]
 | [],ls,X,Ds,k,s6,_,_,_,_=>⟨[],k,s6,trivial,rfl,by simp [Sc]⟩
 | c::cs,ls,X,Ds,k,s6,Ok,h1,h2,h3=>by simp only [List.length_cons] at h1 h2 h3;obtain ⟨d,ls',S,e⟩:=y0t hf h60 ls Ok A0 A1 A2 X Ds k (by omega) (by omega) (by omega) c;obtain ⟨P,k',s',hP,hl,e2⟩:=Nb hf h60 A0 A1 A2 cs ls' (X++[e7 n ls]) (Ds++[d]) (k+1) (.im (.int c)) (S.ok Ok) (by omega) (by simp;omega) (by simp;omega);refine ⟨(d,ls')::P,k',s',⟨S,hP⟩,by simp [hl],?_⟩;rw [List.map_cons,S9];show (Z5 hf [.im A0,.im A1,.im A2,.ow (.lst (X++[e7 n ls])),.ow (.lst Ds),.ow (.dp hf k),.im (.int c),.em,.em,.em]).itr _=_;rw [e,T8,e2];simp
end
section
variable {n:Nat}
theorem Tk:∀{P:List (D×List P2)} {ls:List P2} (k:Nat),Pth n ls P->Pth n ls (P.take k)
 | [],_,k,_=>by rw [List.take_nil];trivial
 | _::_,_,0,_=>trivial
 | (d,l')::P,ls,k+1,h=>⟨h.1,Tk k h.2⟩
theorem Os:∀{P:List (D×List P2)} {ls:List P2},Okc n ls->Pth n ls P->Okc n (o8 ls P)
 | [],_,O,_=>O
 | (d,l')::P,ls,O,h=>show Okc n (o8 l' P) from Os (h.1.ok O) h.2
theorem Qx:∀{P:List (D×List P2)} {ls:List P2} {k:Nat},k<=P.length->(e7 n ls::P.map fun q=>e7 n q.2)[k]?=some (e7 n (o8 ls (P.take k)))
 | _,_,0,_=>by simp [o8]
 | [],_,k+1,h=>by simp at h
 | (d,l')::P,ls,k+1,h=>by have:=Qx (P:=P) (ls:=l') (k:=k) (by simpa using h);simp only [List.map_cons,List.getElem?_cons_succ,List.take_succ_cons,o8];exact this
theorem Ul:∀(P:List (D×List P2)) (ls:List P2),∃Y,(e7 n ls::P.map fun q=>e7 n q.2)=Y++[e7 n (o8 ls P)]
 | [],ls=>⟨[],rfl⟩
 | (d,l')::P,ls=>by obtain ⟨Y,e⟩:=Ul P l';refine ⟨e7 n ls::Y,?_⟩;simp only [List.map_cons,o8,List.cons_append];rw [e]
theorem Lg:∀{P:List (D×List P2)} {ls:List P2},Pth n ls P->∀q∈P,K9 M7 q.1=some (.bl true)/\q.1.noL=true
 | [],_,_,q,hq=>by simp at hq
 | (d,l')::P,ls,h,q,hq=>by
  rcases List.mem_cons.mp hq with rfl | hq
  . exact h.1.deed
  . exact Lg h.2 q hq
theorem Xk (n:Int) (l:List P2):(e7 n l).pl=true/\(e7 n l).dep<=19:=by refine ⟨(ju n l).1,?_⟩;simp only [e7,D.dep,o4];have:=M8 l T2 1 (fun x=>P4 x);omega
theorem pls_mem:∀{xs:List D},(∀x∈xs,x.pl=true/\x.dep<=19)->pls xs=true/\o4 xs<=19
 | [],_=>⟨rfl,by simp [o4]⟩
 | x::xs,h=>by
  have i:=pls_mem (xs:=xs) fun y hy=>h y (List.mem_cons_of_mem _ hy)
  have c:=h x List.mem_cons_self;refine ⟨by simp only [pls,i.1,c.1,Bool.and_true],?_⟩;simp only [o4];omega
theorem Jn (h:pls xs=true/\o4 xs<=19):dEq (.lst xs) (.lst xs)=some (.bl true)/\dNe (.lst xs) (.lst xs)=some (.bl false):=by
 have h1:(D.lst xs).pl=true:=by simp only [D.pl];exact h.1
 have h2:(D.lst xs).dep<=20:=by simp only [D.dep];omega
 unfold dEq dNe;rw [ζ ⟨h1,h1,h2⟩,ζ ⟨h1,h1,h2⟩,Lv _ h1];exact ⟨rfl,rfl⟩
theorem Kl (h:∀x∈xs,x.noL=true):i9 xs=true:=by have:=Af id xs h;rwa [List.map_id] at this
end
theorem qr (d:D) (h0:0<=x) (h1:x<=ds.length) (h:ds.length<1000):Q9 (.lst ds) [.int x,d]=some (.lst (ds.take x.toNat++d::ds.drop x.toNat)):=by simp only [Q9];rw [ζ ⟨by omega,by omega,by omega⟩];congr 2;simp only [C5,Bx,ξ (show ¬x<0 by omega)];rw [Nat.min_eq_left (by omega)]
theorem y0u (ns:List Int) (m:Int) (h0:0<=m):(x8 ns (some 1) (some (1+m))).length<=m.toNat:=by obtain ⟨k,rfl⟩:=Int.eq_ofNat_of_zero_le h0;rw [show (some (1:Int))=some ((1:Nat):Int) from rfl,show (1+(k:Int))=((1+k:Nat):Int) by omega];unfold x8;simp only [HT.sIx,ξ (show ¬(((1:Nat):Int)<0) by omega),ξ (show ¬(((1+k:Nat):Int)<0) by omega),Int.toNat_natCast,List.length_take,List.length_drop];omega
theorem Qw (c ds:D) (xs:List D) (h:B9 [c,ds]=.ok (.lst xs)) (hn:i9 xs=true):p9 [.int 0,c,ds]=.ok (.lst xs):=Rc 0 c ds xs (.inl ⟨rfl,h⟩) hn
theorem qq (c ds:D) (xs:List D) (h:B5 [c,ds]=.ok (.lst xs)) (hn:i9 xs=true):p9 [.int 1,c,ds]=.ok (.lst xs):=Rc 1 c ds xs (.inr ⟨rfl,h⟩) hn
def tl8:DS->SR:=
 (g8 (h9 false 8 [false,false,true,false,true] (i7 p9 (d7 (eC (.int 0)) (d7 (d6 2) (d7 (d6 4) d9)))))
  (g8 (sIf (bOr (C4 (i6 v4 (eUn (r8 "list") (d6 8)))) (bOr (i6 asB (eOp dNe (d6 8) (d6 3))) (i6 asB (eOp dNe (eCB p8 (d7 (d6 4) d9)) (eOp t7 (eCB p8 (d7 (d6 3) d9)) (eC (.int 1)))))))
   (j9 [] (eC (.bl false)))
   sNx)
  (g8 (h9 false 9 [false,false,true,false,true] (i7 p9 (d7 (eC (.int 1)) (d7 (d6 2) (d7 (d6 4) d9)))))
  (g8 (sIf (bOr (C4 (i6 v4 (eUn (r8 "list") (d6 9)))) (bOr (i6 asB (eOp dNe (eCB p8 (d7 (d6 9) d9)) (eCB p8 (d7 (d6 4) d9)))) (i6 asB (eOp dNe (eCB p8 (d7 (d6 4) d9)) (eOp t7 (eCB p8 (d7 (d6 3) d9)) (eC (.int 1)))))))
   (j9 [] (eC (.bl false)))
   sNx)
  (g8 (sIf (C4 (i6 v4 (eCB R6 (d7 (t9 (iL (d6 9)) b1 [] A4 Z4) d9))))
   (j9 [] (eC (.bl false)))
   sNx)
  (j9 [false,false,true,true,true,false,false,false,false,true] (D6 (eOp dEq (i7 p9 (d7 (eC (.int 0)) (d7 (eOp dIx (d6 3) (eUn D5 (eC (.int 1)))) (d7 (d6 9) d9)))) (eUn X0 (d6 3))) (eOp dEq (i7 p9 (d7 (eC (.int 0)) (d7 (d6 2) (d7 (d6 4) d9)))) (d6 3)))))))))
def tlX:DS->SR:=
 (g8 (h9 false 7 [true,false,false,false,true] (eOp n6 (i7 z0 (d7 (d6 0) (d7 (eC (.int 1)) d9))) (eOp w4 (eCB p8 (d7 (d6 4) d9)) (eC (.int 1)))))
  (g8 (G2 "list" Q9 4 [true,false,false,true,false,false,false,true] (d7 (d6 7) (d7 (y4 "TurnLine" (d7 (i7 K8 (d7 (eOp dIx (d6 3) (d6 7)) (d7 (eOp v5 (i7 z0 (d7 (d6 0) (d7 (eC (.int 1)) d9))) (eC (.int 60))) d9))) d9)) d9)))
  (j9 [false,false,true,false,true] (D6 (eOp Q8 (i7 p9 (d7 (eC (.int 0)) (d7 (d6 2) (d7 (d6 4) d9)))) (eC .non)) (eOp Q8 (i7 p9 (d7 (eC (.int 1)) (d7 (d6 2) (d7 (eCB O5 (d7 (d6 4) d9)) d9)))) (eC .non))))))
abbrev Hl:DE->R Bool:=i6 asB (eOp dEq (eOp n6 (i7 z0 (d7 (d6 0) (d7 (eC (.int 0)) d9))) (eC (.int 5))) (eC (.int 4)))
section
variable {n:Nat}
structure Jy (C0 CL:D) (cs ds bk:List D):Prop where
 t1:p9 [.int 0,C0,.lst ds]=.ok (.lst cs)
 t2:p9 [.int 1,C0,.lst ds]=.ok (.lst bk)
 t3:p9 [.int 0,CL,.lst bk]=.ok (.lst cs.reverse)
 e1:dEq (.lst cs) (.lst cs)=some (.bl true)
 e1':dNe (.lst cs) (.lst cs)=some (.bl false)
 e2:dEq (.lst cs.reverse) (.lst cs.reverse)=some (.bl true)
 ix:dIx (.lst cs) (.int (-1))=some CL
 lc:cs.length=ds.length+1
 lb:bk.length=ds.length
 ld:ds.length<=63
 isd:∀x∈bk,K9 M7 x=some (.bl true)
theorem y0v (h60:n<=60) (P:List (D×List P2)) (ls:List P2) (O:Okc n ls) (hP:Pth n ls P) (hl:P.length<=63):∃CL bk,Jy (e7 n ls) CL (e7 n ls::P.map fun q=>e7 n q.2) (P.map (·.1)) bk:=by
 have wk:=Tl h60 P ls O hP (by omega);obtain ⟨Q,he,hQ,hrv,hQl,OL⟩:=jq h60 P ls O hP (by omega);have wk2:=Tl h60 Q (o8 ls P) OL hQ (by omega);rw [hrv] at wk2;have hp:∀x∈(e7 n ls::P.map fun q=>e7 n q.2),x.pl=true/\x.dep<=19:=fun x hx=>by
  rcases List.mem_cons.mp hx with rfl | hx
  . exact Xk _ _
  . obtain ⟨q,_,rfl⟩:=List.mem_map.mp hx;exact Xk _ _
 have pc:=pls_mem hp;have pc2:=pls_mem (xs:=(e7 n ls::P.map fun q=>e7 n q.2).reverse) fun x hx=>hp x (List.mem_reverse.mp hx)
 have hc:∀x∈(e7 n ls::P.map fun q=>e7 n q.2),x.noL=true:=fun x hx=>by
  rcases List.mem_cons.mp hx with rfl | hx
  . exact E0 _ _
  . obtain ⟨q,_,rfl⟩:=List.mem_map.mp hx;exact E0 _ _
 have nc:=Kl hc;have nc2:i9 (e7 n ls::P.map fun q=>e7 n q.2).reverse=true:=Kl fun x hx=>hc x (List.mem_reverse.mp hx)
 have nb:i9 (Q.map (·.1))=true:=Kl fun x hx=>by obtain ⟨q,hq,rfl⟩:=List.mem_map.mp hx;exact (Lg hQ q hq).2
 obtain ⟨Y,hY⟩:=Ul (n:=n) P ls;have t1:=Qw _ _ _ wk nc;have t2:=qq _ _ _ he nb;have t3:=Qw _ _ _ wk2 nc2;have ix:dIx (.lst (e7 n ls::P.map fun q=>e7 n q.2)) (.int (-1))=some (e7 n (o8 ls P)):=by rw [hY];exact Dk _ _
 have lc:(e7 n ls::P.map fun q=>e7 n q.2).length=(P.map (·.1)).length+1:=by simp
 have lb:(Q.map (·.1)).length=(P.map (·.1)).length:=by simp [hQl]
 have ld:(P.map (·.1)).length<=63:=by simpa using hl
 have isd:∀x∈Q.map (·.1),K9 M7 x=some (.bl true):=fun x hx=>by obtain ⟨q,hq,rfl⟩:=List.mem_map.mp hx;exact (Lg hQ q hq).1
 refine ⟨e7 n (o8 ls P),Q.map (·.1),?_⟩;constructor
 . with_reducible exact t1
 . with_reducible exact t2
 . with_reducible exact t3
 . with_reducible exact (Jn pc).1
 . with_reducible exact (Jn pc).2
 . with_reducible exact (Jn pc2).1
 . with_reducible exact ix
 . with_reducible exact lc
 . with_reducible exact lb
 . with_reducible exact ld
 . with_reducible exact isd
end
theorem y0w (xs:List α):R6 [D.lst (xs.map fun _=>D.bl true)]=some (.bl true):=by
 have:M9 (xs.map fun _=>D.bl true)=some (xs.map fun _=>true):=by
  induction xs with
  | nil=>rfl
  | cons a r ih=>simp only [List.map_cons,M9,ih,Option.map_some]
 simp only [R6,this,Option.map_some];congr 1;congr 1;rw [List.all_eq_true];intro b hb;obtain ⟨_,_,rfl⟩:=List.mem_map.mp hb;rfl
theorem y0x (J:Jy C0 CL cs ds bk) :
  SR.out false (tl8 [.im A0,.im A1,.im C0,.ow (.lst cs),.ow (.lst ds),.ow (.dp hf k'),s6,.em,.em,.em])=.ok (.bl true):=by
 obtain ⟨t1,t2,t3,e1,e1',e2,ix,lc,lb,ld,isd⟩:=J
 unfold tl8
 have a8:h9 false 8 [false,false,true,false,true] (i7 p9 (d7 (eC (.int 0)) (d7 (d6 2) (d7 (d6 4) d9)))) [.im A0,.im A1,.im C0,.ow (.lst cs),.ow (.lst ds),.ow (.dp hf k'),s6,.em,.em,.em]=.nx [.im A0,.im A1,.im C0,.ow (.lst cs),.im (.lst ds),.ow (.dp hf k'),s6,.em,.im (.lst cs),.em]:=by walk_at "dz";rw [t1];walk_at "dz"
 rw [t6 a8]
 have a9:∀X,sIf (bOr (C4 (i6 v4 (eUn (r8 "list") (d6 8)))) (bOr (i6 asB (eOp dNe (d6 8) (d6 3))) (i6 asB (eOp dNe (eCB p8 (d7 (d6 4) d9)) (eOp t7 (eCB p8 (d7 (d6 3) d9)) (eC (.int 1))))))) X sNx [.im A0,.im A1,.im C0,.ow (.lst cs),.im (.lst ds),.ow (.dp hf k'),s6,.em,.im (.lst cs),.em]=.nx [.im A0,.im A1,.im C0,.ow (.lst cs),.im (.lst ds),.ow (.dp hf k'),s6,.em,.im (.lst cs),.em]:=by intro X;walk_at "dz";rw [e1'];walk_at "dz";rw [decide_eq_true (by omega)];rfl
 rw [t6 (a9 _)]
 have a10:h9 false 9 [false,false,true,false,true] (i7 p9 (d7 (eC (.int 1)) (d7 (d6 2) (d7 (d6 4) d9)))) [.im A0,.im A1,.im C0,.ow (.lst cs),.im (.lst ds),.ow (.dp hf k'),s6,.em,.im (.lst cs),.em]=.nx [.im A0,.im A1,.im C0,.ow (.lst cs),.im (.lst ds),.ow (.dp hf k'),s6,.em,.im (.lst cs),.im (.lst bk)]:=by walk_at "dz";rw [t2];walk_at "dz"
 rw [t6 a10]
 have a11:∀X,sIf (bOr (C4 (i6 v4 (eUn (r8 "list") (d6 9)))) (bOr (i6 asB (eOp dNe (eCB p8 (d7 (d6 9) d9)) (eCB p8 (d7 (d6 4) d9)))) (i6 asB (eOp dNe (eCB p8 (d7 (d6 4) d9)) (eOp t7 (eCB p8 (d7 (d6 3) d9)) (eC (.int 1))))))) X sNx [.im A0,.im A1,.im C0,.ow (.lst cs),.im (.lst ds),.ow (.dp hf k'),s6,.em,.im (.lst cs),.im (.lst bk)]=.nx [.im A0,.im A1,.im C0,.ow (.lst cs),.im (.lst ds),.ow (.dp hf k'),s6,.em,.im (.lst cs),.im (.lst bk)]:=by intro X;walk_at "dz";rw [decide_eq_true (by omega),decide_eq_true (by omega)];rfl
 rw [t6 (a11 _)]
 have cm:D9 b1 A4 Z4 [] bk=.ok (bk.map fun _=>D.bl true):=by have:=V0 (bn:=b1) (en:=fun d:D=>d) (bs:=fun d=>[d]) (g:=fun _=>D.bl true) (cs:=[]) (f:=Z4) bk (fun x _=>rfl) (fun o ho=>by unfold Z4;walk_at "dz";rw [isd o ho];walk_at "dz");rw [List.map_id'] at this;exact this
 have a12:∀X,sIf (C4 (i6 v4 (eCB R6 (d7 (t9 (iL (d6 9)) b1 [] A4 Z4) d9)))) X sNx [.im A0,.im A1,.im C0,.ow (.lst cs),.im (.lst ds),.ow (.dp hf k'),s6,.em,.im (.lst cs),.im (.lst bk)]=.nx [.im A0,.im A1,.im C0,.ow (.lst cs),.im (.lst ds),.ow (.dp hf k'),s6,.em,.im (.lst cs),.im (.lst bk)]:=by intro X;walk_at "dz";rw [ζ (by omega),cm];walk_at "dz";rw [y0w];walk_at "dz"
 rw [t6 (a12 _)]
 walk_at "dz"
 rw [ix]
 walk_at "dz"
 rw [t3]
 simp only [X0]
 walk_at "dz"
 rw [e2]
 walk_at "dz"
 rw [t1]
 walk_at "dz"
 rw [e1]
 walk_at "dz"
structure Rf (C0:D) (cs ds:List D) (p1:Int):Prop where
 r:∃(x:Int) (CX:D) (p:P2),0<=x/\x<=ds.length/\n6 (.int p1) (.int ((ds.length:Int)+1))=some (.int x)/\dIx (.lst cs) (.int x)=some CX/\K8 [CX,.int (p1 / 60)]=.ok (T2 p) /\
  p9 [.int 0,C0,.lst (ds.take x.toNat++.obj "TurnLine" [T2 p]::ds.drop x.toNat)]=.ok .non/\p9 [.int 1,C0,.lst (ds.take x.toNat++.obj "TurnLine" [T2 p]::ds.drop x.toNat)]=.ok .non
theorem qp (c ds:D) (z:List D) (h:B9 [c,ds]=.er ⟨"NoLine",z⟩):p9 [.int 0,c,ds]=.ok .non:=Rb 0 c ds z (.inl ⟨rfl,h⟩)
theorem qo (c ds:D) (z:List D) (h:B5 [c,ds]=.er ⟨"NoLine",z⟩):p9 [.int 1,c,ds]=.ok .non:=Rb 1 c ds z (.inr ⟨rfl,h⟩)
section
variable {n:Nat}
theorem y0y (h60:n<=60) (P:List (D×List P2)) (ls:List P2) (O:Okc n ls) (hP:Pth n ls P) (hl:P.length<=63) (p1:Int):Rf (e7 n ls) (e7 n ls::P.map fun q=>e7 n q.2) (P.map (·.1)) p1:=by
 have hd:(P.map (·.1)).length=P.length:=List.length_map _;have q0:0<=p1 % ((P.length:Int)+1):=Int.emod_nonneg _ (by omega);have q1:p1 % ((P.length:Int)+1)<(P.length:Int)+1:=Int.emod_lt_of_pos _ (by omega);have hm:n6 (.int p1) (.int ((P.length:Int)+1))=some (.int (p1 % ((P.length:Int)+1))):=x9 (by omega);generalize p1 % ((P.length:Int)+1)=x at *;obtain ⟨k,rfl⟩:=Int.eq_ofNat_of_zero_le q0;have hk:k<=P.length:=by omega
 have hT:=Tk k hP;have OT:=Os O hT;obtain ⟨p,hp,ne⟩:=xD OT h60 (p1 / 60);have hTl:(P.take k).length<900:=by rw [List.length_take];omega
 have w:=wv h60 (P.take k) ls O hT hTl p ((P.drop k).map (·.1)) hp;have h:=qw h60 (P.take k) ls O hT hTl p ((P.drop k).map (·.1)) hp;have t0:=qp _ _ _ w;have t1:=qo _ _ _ h;rw [List.map_take,List.map_drop] at t0 t1;have ix:dIx (.lst (e7 n ls::P.map fun q=>e7 n q.2)) (.int (k:Int))=some (e7 n (o8 ls (P.take k))):=Kb (Qx hk);refine ⟨?_⟩;refine ⟨(k:Int),e7 n (o8 ls (P.take k)),p,q0,?_,?_,?_,?_,?_,?_⟩
 . omega
 . rw [hd];exact hm
 . with_reducible exact ix
 . with_reducible exact ne
 . rw [Int.toNat_natCast];with_reducible exact t0
 . rw [Int.toNat_natCast];with_reducible exact t1
end
theorem y0z (pk1:z0 [A0,.int 1]=.ok (.int p1)) (J:Rf C0 cs ds p1) (hl:ds.length<=63) :
  tlX [.im A0,.im A1,.im C0,.ow (.lst cs),.ow (.lst ds),.ow (.dp hf k'),s6,.em,.em,.em]=.rt (.bl true):=by
 obtain ⟨x,CX,p,x0,x1,hm,ix,ne,t0,t1⟩:=J.r
 have dd:v5 (.int p1) (.int 60)=some (.int (p1 / 60)):=X3 (by omega)
 have iy:=qr (ds:=ds) (.obj "TurnLine" [T2 p]) x0 x1 (by omega)
 generalize (ds.take x.toNat++D.obj "TurnLine" [T2 p]::ds.drop x.toNat)=dz at *
 unfold tlX
 have a1:h9 false 7 [true,false,false,false,true] (eOp n6 (i7 z0 (d7 (d6 0) (d7 (eC (.int 1)) d9))) (eOp w4 (eCB p8 (d7 (d6 4) d9)) (eC (.int 1)))) [.im A0,.im A1,.im C0,.ow (.lst cs),.ow (.lst ds),.ow (.dp hf k'),s6,.em,.em,.em]=.nx [.im A0,.im A1,.im C0,.ow (.lst cs),.ow (.lst ds),.ow (.dp hf k'),s6,.im (.int x),.em,.em]:=by walk_at "dz";rw [pk1];walk_at "dz";rw [hm];walk_at "dz"
 rw [t6 a1]
 have a2:G2 "list" Q9 4 [true,false,false,true,false,false,false,true] (d7 (d6 7) (d7 (y4 "TurnLine" (d7 (i7 K8 (d7 (eOp dIx (d6 3) (d6 7)) (d7 (eOp v5 (i7 z0 (d7 (d6 0) (d7 (eC (.int 1)) d9))) (eC (.int 60))) d9))) d9)) d9)) [.im A0,.im A1,.im C0,.ow (.lst cs),.ow (.lst ds),.ow (.dp hf k'),s6,.im (.int x),.em,.em]=.nx [.im A0,.im A1,.im C0,.ow (.lst cs),.ow (.lst dz),.ow (.dp hf k'),s6,.im (.int x),.em,.em]:=by have mk:=My p (d7 (i7 K8 (d7 (eOp dIx (d6 3) (d6 7)) (d7 (eOp v5 (i7 z0 (d7 (d6 0) (d7 (eC (.int 1)) d9))) (eC (.int 60))) d9))) d9) [some A0,some A1,some C0,some (.lst cs),none,none,s6.see false,some (.int x),none,none] (by walk_at "dz";rw [ix];walk_at "dz";rw [pk1];walk_at "dz";rw [dd];walk_at "dz";rw [ne];walk_at "dz");walk_at "dz";rw [mk];walk_at "dz";rw [show (D.obj "TurnLine" [T2 p]).noL=true from rfl];walk_at "dz";rw [iy];walk_at "dz"
 rw [t6 a2]
 walk_at "dz"
 rw [t0]
 walk_at "dz"
 simp only [Q8]
 walk_at "dz"
 rw [t1]
 walk_at "dz"
theorem wt (hf:PySem.Str->Int) (ns:List Int) (hns:ns.length<=63):W8 hf [.scr ns]=.ok (.bl true):=by
 have pk0:=Pa ns hns 0;have pk1:=Pa ns hns 1;generalize pkv ns 0=p0 at *;generalize pkv ns 1=p1 at *;have d5:v5 (.int p0) (.int 5)=some (.int (p0 / 5)):=X3 (by omega);have m10:n6 (.int (p0 / 5)) (.int 10)=some (.int (p0 / 5 % 10)):=x9 (by omega);have m5:n6 (.int p0) (.int 5)=some (.int (p0 % 5)):=x9 (by omega);have q0:0<=p0 / 5 % 10:=Int.emod_nonneg _ (by omega);have q1:p0 / 5 % 10<10:=Int.emod_lt_of_pos _ (by omega);generalize p0 / 5 % 10=m at *;have cl:=y0u ns m q0;obtain ⟨n,ls,O,hn,ge⟩:=qt (x8 ns (some 1) (some (1+m))) (by omega);have h60:n<=60:=by omega
 have cl2:=Rg ns (some (1+m)) (some 281);obtain ⟨P,k',s6,hP,hPl,le⟩:=Nb hf h60 (.scr ns) (.int m) (e7 n ls) (x8 ns (some (1+m)) (some 281)) ls [] [] 0 .em O (by omega) (by simp;omega) (by simp;omega);have hPl2:P.length<=63:=by omega
 have nl:=E0 n ls;have RF:=y0y h60 P ls O hP hPl2 p1;obtain ⟨CL,bk,JY⟩:=y0v h60 P ls O hP hPl2;have ld:(P.map (·.1)).length<=63:=by rw [List.length_map];exact hPl2
 simp only [List.nil_append] at le;unfold W8;rw [Cv,ζ (show [D.scr ns].length=1 from rfl)];show SR.out false (Ho hf [.im (.scr ns),.em,.em,.em,.em,.em,.em,.em,.em,.em])=_;unfold Ho;have a1:h9 false 1 [true] (eOp n6 (eOp v5 (i7 z0 (d7 (d6 0) (d7 (eC (.int 0)) d9))) (eC (.int 5))) (eC (.int 10))) [.im (.scr ns),.em,.em,.em,.em,.em,.em,.em,.em,.em]=.nx [.im (.scr ns),.im (.int m),.em,.em,.em,.em,.em,.em,.em,.em]:=by walk_at "dz";rw [pk0];walk_at "dz";rw [d5];walk_at "dz";rw [m10];walk_at "dz"
 rw [t6 a1];generalize hC0:e7 n ls=C0 at *;have a2:h9 false 2 [true,true] (i7 V3 (d7 (eSl dSl (d6 0) (oSo (eC (.int 1))) (oSo (eOp w4 (eC (.int 1)) (d6 1)))) d9)) [.im (.scr ns),.im (.int m),.em,.em,.em,.em,.em,.em,.em,.em]=.nx [.im (.scr ns),.im (.int m),.im C0,.em,.em,.em,.em,.em,.em,.em]:=by walk_at "dz";rw [ge];walk_at "dz";rw [show keeps false C0=true from nl];walk_at "dz"
 rw [t6 a2];have a3:h9 true 3 [false,false,true] (t8 (d7 (d6 2) d9)) [.im (.scr ns),.im (.int m),.im C0,.em,.em,.em,.em,.em,.em,.em]=.nx [.im (.scr ns),.im (.int m),.im C0,.ow (.lst [C0]),.em,.em,.em,.em,.em,.em]:=by walk_at "dz";rw [nl];walk_at "dz"
 rw [t6 a3];have a4:h9 true 4 [] (t8 d9) [.im (.scr ns),.im (.int m),.im C0,.ow (.lst [C0]),.em,.em,.em,.em,.em,.em]=.nx [.im (.scr ns),.im (.int m),.im C0,.ow (.lst [C0]),.ow (.lst []),.em,.em,.em,.em,.em]:=by walk_at "dz"
 rw [t6 a4];have a5:h9 true 5 [] (Fb hf) [.im (.scr ns),.im (.int m),.im C0,.ow (.lst [C0]),.ow (.lst []),.em,.em,.em,.em,.em]=.nx [.im (.scr ns),.im (.int m),.im C0,.ow (.lst [C0]),.ow (.lst []),.ow (.dp hf 0),.em,.em,.em,.em]:=by walk_at "dz";simp only [Fb];walk_at "dz";rfl
 rw [t6 a5];have a6:L9 false [true,true] (iL (eSl dSl (d6 0) (oSo (eOp w4 (eC (.int 1)) (d6 1))) (oSo (eC (.int 281))))) (.n 6) (Z5 hf) [.im (.scr ns),.im (.int m),.im C0,.ow (.lst [C0]),.ow (.lst []),.ow (.dp hf 0),.em,.em,.em,.em]=.nx [.im (.scr ns),.im (.int m),.im C0,.ow (.lst (C0::P.map fun q=>e7 n q.2)),.ow (.lst (P.map (·.1))),.ow (.dp hf k'),s6,.em,.em,.em]:=by walk_at "dz";rw [le]
 rw [t6 a6];clear a1 a2 a3 a4 a5 a6 le;generalize (C0::P.map fun q=>e7 n q.2)=cs at *;generalize P.map (·.1)=ds at *;show SR.out false (g8 (sIf Hl tlX sNx) tl8 [.im (.scr ns),.im (.int m),.im C0,.ow (.lst cs),.ow (.lst ds),.ow (.dp hf k'),s6,.em,.em,.em])=_;by_cases h4:p0 % 5=4
 . have a7:∀X:DS->SR,sIf Hl X sNx [.im (.scr ns),.im (.int m),.im C0,.ow (.lst cs),.ow (.lst ds),.ow (.dp hf k'),s6,.em,.em,.em]=X [.im (.scr ns),.im (.int m),.im C0,.ow (.lst cs),.ow (.lst ds),.ow (.dp hf k'),s6,.em,.em,.em]:=by
    intro X
    walk_at "dz"
    rw [pk0]
    walk_at "dz"
    rw [m5]
    walk_at "dz"
    rw [decide_eq_true h4]
    walk_at "dz"
   have rr:=y0z (A1:=.int m) (k':=k') (s6:=s6) (hf:=hf) pk1 RF ld
   rw [jg ((a7 tlX).trans rr)]
   rfl
 have a7:∀X:DS->SR,sIf Hl X sNx [.im (.scr ns),.im (.int m),.im C0,.ow (.lst cs),.ow (.lst ds),.ow (.dp hf k'),s6,.em,.em,.em]=.nx [.im (.scr ns),.im (.int m),.im C0,.ow (.lst cs),.ow (.lst ds),.ow (.dp hf k'),s6,.em,.em,.em]:=by intro X;walk_at "dz";rw [pk0];walk_at "dz";rw [m5];walk_at "dz";rw [decide_eq_false h4];walk_at "dz"
 rw [t6 (a7 _)];exact y0x JY
end K89
namespace K89
open PySem PySem.Spec PyProof.Rows L2
theorem walk {l:PySem.W.OpenLaw} {q:Program} {loose:List Str} {XP:(Str->Option Value)->Heap->Prop} {YP:World->Heap->Prop} {d:DefRec} {K:Params->Frag} (hn:l.most=some 63) (hdf:d.params.defaults=[])
  (hY:∀(w:World) (h:Heap),YP w h->(K w.params).In h)
  (F:∀(w:World) (mg:Str->Option Value) (fa:Addr) (h:Heap),(K w.params).In h->h.Ns mainGlobals mg->mg d.name=some (.ref fa) ->
   ∃fd:FuncData,(∀(s:Shared) (u:Value),BindsTo s fd ⟨[u],[]⟩ [("_law_script",u)])/\∀base:Heap,(K w.params).In base->base.Ns mainGlobals mg->FnOk l.prog w (K w.params) mg base (CX1 l.prog w) 10 fa fd ["_law_script"] (spL (K w.params) false (W8 (hashStr w)) 1)) :
  PySem.W.WalkO q loose XP YP l.row.toRowW d [] (fun f vs=>PySem.call f vs):=
 L2.walk_of (n:=63) (k:=10) (x:="_law_script") (CX:=fun w=>CX1 l.prog w) (sp:=fun w=>(spL (K w.params) false (W8 (hashStr w)) 1)) hn (by decide) hdf ⟨rfl,by decide,by decide⟩ hY F (fun _ _ a ns hl hO hS=>km hO hS (wt _ ns hl)) fun _ _ _ _ _ ⟨_,_,_,_,_,_,z⟩=>z
end K89
open PySem PySem.W PyProof.Rows
set_option maxRecDepth 100000 in
set_option maxHeartbeats 0 in
theorem PySem.Challenge.cw_friezeyard_k89_whole_journeys_home_holds : PySem.Challenge.rw_friezeyard_k89_whole_journeys_home.Holds := by
 w_on;o_law
 refine holds_open (q:=K89.q) (loose:=K89.loose) (Xt:=K89.xtH) (XP:=XL K89.q []) (Yf:=K89.hook.obs) (Ya:=K89.hook.val)
  (YP:=K89.hook.says) (N:=5254) K89.left K89.hook.of K89.hook.keeps
  (fun s e=>xl_of s (Bool.and_eq_true_iff.mp e).1) XL.keeps (by rfl) (by rfl) (by rfl)
  (fun s e=>recFacts_of (Bool.and_eq_true_iff.mp e).2) (by rfl) (by assumption) (by decide +kernel)
  ⟨rfl,rfl,rfl,rfl,rfl,by decide +kernel⟩ ?hw ?hc
 (case hw=>w_witness2)
 refine K89.walk (l:=PySem.Challenge.rw_friezeyard_k89_whole_journeys_home) (K:=K89.K) rfl rfl (fun w h Y=>Y) ?F
 case F=>
  intro w mg fa h KX G hmg
  k_fill
  refine' K89.all_mk KX G hmg ?a0 ?l0 ?c0 ?k0 ?a1 ?l1 ?c1 ?k1 ?a2 ?l2 ?c2 ?k2 ?a3 ?l3 ?c3 ?k3 ?a4 ?l4 ?c4 ?k4 ?a5 ?l5 ?c5 ?k5 ?a6 ?l6 ?c6 ?k6 ?a7 ?l7 ?c7 ?k7 ?a8 ?l8 ?c8 ?k8 ?a9 ?l9 ?c9 ?k9 ?a10 ?l10 ?c10 ?k10 ?a11 ?l11 ?c11 ?k11 ?a12 ?l12 ?c12 ?k12 ?a13 ?l13 ?c13 ?k13 ?a14 ?l14 ?c14 ?k14 ?a15 ?l15 ?c15 ?k15 ?a16 ?l16 ?c16 ?k16 ?a17 ?l17 ?c17 ?k17 ?t17 ?a18 ?l18 ?c18 ?k18 ?a19 ?n19 ?l19 ?c19 ?k19 ?a20 ?n20 ?l20 ?c20 ?k20 ?a21 ?l21 ?c21 ?k21 ?a22 ?l22 ?c22 ?k22 ?a23 ?l23 ?c23 ?k23 ?a24 ?l24 ?c24 ?k24 ?a25 ?l25 ?c25 ?k25 ?a26 ?n26 ?l26 ?c26 ?k26 ?a27 ?n27 ?l27 ?c27 ?k27 ?a28 ?l28 ?c28 ?k28 ?a29 ?l29 ?c29 ?k29 ?a30 ?n30 ?l30 ?c30 ?k30 ?a31 ?n31 ?l31 ?c31 ?k31 ?a32 ?l32 ?c32 ?k32 ?a33 ?l33 ?c33 ?k33 ?a34 ?l34 ?c34 ?k34 ?a35 ?l35 ?c35 ?k35 ?z_all ?z_bool ?z_int ?z_isinstance ?z_len ?z_list ?z_max ?z_min ?z_range ?z_reversed ?z_sorted ?z_sum ?z_tuple ?n_Deed ?n_Mirror ?n_NoLine ?n_Spin ?n_TurnLine ?q_NoLine ?op_Mirror ?oh_Mirror ?oo_Mirror ?os_Mirror ?om_Mirror ?oq_Mirror ?oi_Mirror ?oc_Mirror ?ob_Mirror ?ok_Mirror_Deed ?op_Spin ?oh_Spin ?oo_Spin ?os_Spin ?om_Spin ?oq_Spin ?ov_Spin ?oc_Spin ?ob_Spin ?ok_Spin_Deed ?op_TurnLine ?oh_TurnLine ?oo_TurnLine ?os_TurnLine ?om_TurnLine ?oq_TurnLine ?ov_TurnLine ?oc_TurnLine ?ob_TurnLine ?ok_TurnLine_Deed ?xg ?xt ?fo_NoLine ?fb_NoLine ?fc_NoLine ?fg_NoLine ?ft_NoLine ?m_NoLine_NoLine ?ni_Spin ?li_Spin ?ci_Spin ?ki_Spin ?ti_Spin ?ni_TurnLine ?li_TurnLine ?ci_TurnLine ?ki_TurnLine ?ti_TurnLine
  (case n_Deed=>k_is)
  (case n_Mirror=>k_is)
  (case n_NoLine=>k_is)
  (case n_Spin=>k_is)
  (case n_TurnLine=>k_is)
  (case a0=>k_is)
  (case l0=>k_is)
  (case c0=>k_is)
  (case k0=>k_is)
  (case a1=>k_is)
  (case l1=>k_is)
  (case c1=>k_is)
  (case k1=>k_is)
  (case a2=>k_is)
  (case l2=>k_is)
  (case c2=>k_is)
  (case k2=>k_is)
  (case a3=>k_is)
  (case l3=>k_is)
  (case c3=>k_is)
  (case k3=>k_is)
  (case a4=>k_is)
  (case l4=>k_is)
  (case c4=>k_is)
  (case k4=>k_is)
  (case a5=>k_is)
  (case l5=>k_is)
  (case c5=>k_is)
  (case k5=>k_is)
  (case a6=>k_is)
  (case l6=>k_is)
  (case c6=>k_is)
  (case k6=>k_is)
  (case a7=>k_is)
  (case l7=>k_is)
  (case c7=>k_is)
  (case k7=>k_is)
  (case a8=>k_is)
  (case l8=>k_is)
  (case c8=>k_is)
  (case k8=>k_is)
  (case a9=>k_is)
  (case l9=>k_is)
  (case c9=>k_is)
  (case k9=>k_is)
  (case a10=>k_is)
  (case l10=>k_is)
  (case c10=>k_is)
  (case k10=>k_is)
  (case a11=>k_is)
  (case l11=>k_is)
  (case c11=>k_is)
  (case k11=>k_is)
  (case a12=>k_is)
  (case l12=>k_is)
  (case c12=>k_is)
  (case k12=>k_is)
  (case a13=>k_is)
  (case l13=>k_is)
  (case c13=>k_is)
  (case k13=>k_is)
  (case a14=>k_is)
  (case l14=>k_is)
  (case c14=>k_is)
  (case k14=>k_is)
  (case a15=>k_is)
  (case l15=>k_is)
  (case c15=>k_is)
  (case k15=>k_is)
  (case a16=>k_is)
  (case l16=>k_is)
  (case c16=>k_is)
  (case k16=>k_is)
  (case a17=>k_is)
  (case l17=>k_is)
  (case c17=>k_is)
  (case k17=>k_is)
  (case t17=>k_is)
  (case a18=>k_is)
  (case l18=>k_is)
  (case c18=>k_is)
  (case k18=>k_is)
  (case a19=>k_is)
  (case n19=>k_is)
  (case l19=>k_is)
  (case c19=>k_is)
  (case k19=>k_is)
  (case a20=>k_is)
  (case n20=>k_is)
  (case l20=>k_is)
  (case c20=>k_is)
  (case k20=>k_is)
  (case a21=>k_is)
  (case l21=>k_is)
  (case c21=>k_is)
  (case k21=>k_is)
  (case a22=>k_is)
  (case l22=>k_is)
  (case c22=>k_is)
  (case k22=>k_is)
  (case a23=>k_is)
  (case l23=>k_is)
  (case c23=>k_is)
  (case k23=>k_is)
  (case a24=>k_is)
  (case l24=>k_is)
  (case c24=>k_is)
  (case k24=>k_is)
  (case a25=>k_is)
  (case l25=>k_is)
  (case c25=>k_is)
  (case k25=>k_is)
  (case a26=>k_is)
  (case n26=>k_is)
  (case l26=>k_is)
  (case c26=>k_is)
  (case k26=>k_is)
  (case a27=>k_is)
  (case n27=>k_is)
  (case l27=>k_is)
  (case c27=>k_is)
  (case k27=>k_is)
  (case a28=>k_is)
  (case l28=>k_is)
  (case c28=>k_is)
  (case k28=>k_is)
  (case a29=>k_is)
  (case l29=>k_is)
  (case c29=>k_is)
  (case k29=>k_is)
  (case a30=>k_is)
  (case n30=>k_is)
  (case l30=>k_is)
  (case c30=>k_is)
  (case k30=>k_is)
  (case a31=>k_is)
  (case n31=>k_is)
  (case l31=>k_is)
  (case c31=>k_is)
  (case k31=>k_is)
  (case a32=>k_is)
  (case l32=>k_is)
  (case c32=>k_is)
  (case k32=>k_is)
  (case a33=>k_is)
  (case l33=>k_is)
  (case c33=>k_is)
  (case k33=>k_is)
  (case a34=>k_is)
  (case l34=>k_is)
  (case c34=>k_is)
  (case k34=>k_is)
  (case a35=>k_is)
  (case l35=>k_is)
  (case c35=>k_is)
  (case k35=>k_is)
  (case z_all=>k_is)
  (case z_bool=>k_is)
  (case z_int=>k_is)
  (case z_isinstance=>k_is)
  (case z_len=>k_is)
  (case z_list=>k_is)
  (case z_max=>k_is)
  (case z_min=>k_is)
  (case z_range=>k_is)
  (case z_reversed=>k_is)
  (case z_sorted=>k_is)
  (case z_sum=>k_is)
  (case z_tuple=>k_is)
  (case q_NoLine=>k_exc)
  (case op_Mirror=>kernel_rfl)
  (case oh_Mirror=>kernel_rfl)
  (case oo_Mirror=>kernel_rfl)
  (case os_Mirror=>k_is)
  (case om_Mirror=>kernel_rfl)
  (case oq_Mirror=>kernel_rfl)
  (case oi_Mirror=>k_is)
  (case oc_Mirror=>k_is)
  (case ob_Mirror=>k_is)
  (case ok_Mirror_Deed=>kit_is)
  (case op_Spin=>kernel_rfl)
  (case oh_Spin=>kernel_rfl)
  (case oo_Spin=>kernel_rfl)
  (case os_Spin=>k_is)
  (case om_Spin=>kernel_rfl)
  (case oq_Spin=>kernel_rfl)
  (case ov_Spin=>k_is)
  (case oc_Spin=>k_is)
  (case ob_Spin=>k_is)
  (case ok_Spin_Deed=>kit_is)
  (case op_TurnLine=>kernel_rfl)
  (case oh_TurnLine=>kernel_rfl)
  (case oo_TurnLine=>kernel_rfl)
  (case os_TurnLine=>k_is)
  (case om_TurnLine=>kernel_rfl)
  (case oq_TurnLine=>kernel_rfl)
  (case ov_TurnLine=>k_is)
  (case oc_TurnLine=>k_is)
  (case ob_TurnLine=>k_is)
  (case ok_TurnLine_Deed=>kit_is)
  (case xg=>k_is)
  (case xt=>k_is)
  (case fo_NoLine=>k_is)
  (case fb_NoLine=>k_is)
  (case fc_NoLine=>k_is)
  (case fg_NoLine=>k_is)
  (case ft_NoLine=>k_is)
  (case m_NoLine_NoLine=>k_is)
  (case ni_Spin=>k_is)
  (case li_Spin=>k_is)
  (case ci_Spin=>k_is)
  (case ki_Spin=>k_is)
  (case ti_Spin=>k_is)
  (case ni_TurnLine=>k_is)
  (case li_TurnLine=>k_is)
  (case ci_TurnLine=>k_is)
  (case ki_TurnLine=>k_is)
  (case ti_TurnLine=>k_is)
