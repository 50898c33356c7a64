import PyProof.Rows.All
import Wide.All
import OpenK.AllK
import Wide.FinOn
import Lean
import PyProof.EqAt
import PyProof.EqKinds
import PyProof.TupleCall
import KE.KIsAll
import KE.RegKIsAll
import PyProof.ExcArgsOwn
import PyProof.InstStoreFacts
import PyProof.Rows.MinMaxN
import PyProof.Rows.CallKwBuiltin
import KE.KMinKey
import KE.KDictOf
import PyProof.AttrMissSeq
import PyProof.Draws
import KE.KSortAsk
import PyProof.Rows.TupDisplay
import PySem.Challenge.RW_friezeyard_k73_whole_distances
set_option compiler.extract_closed false
noncomputable section
open PySem.W (Frag Looks codeIn hideAll hideAll_get hideAll_none keepIn kia_one kitOne mroIn nsIn of_hideAll)
set_option Elab.async false
set_option linter.all false
set_option maxRecDepth 100000
def ψ:=@if_neg
def ξ:=@if_pos
def ζ:=@Nat.le_refl
def η:=@Bool.false_ne_true
def θ:=@List.length_append
namespace L2
open PySem PySem.Spec PyProof.Rows
def χ:=@wpAny_bind
def δ:=@wpS_bind
def ω:=@wpAny_pure
def π:=@wpS_pure
def Ψ:=@Heap.get?_push_of_some
def Φ:=@Heap.lt_size
def Ξ:=@Heap.get?_push_size
abbrev Key:=Sum Int Str
noncomputable def T8:Key->Value->Bool
 | .inl k,v=>Value.isInt k v
 | .inr x,v=>Value.isStrOf x v
noncomputable def y1u (w:World):Key->Int
 | .inl k=>hashInt k
 | .inr x=>hashStr w x
theorem K2:∀{k:Key} {v:Value},T8 k v=true->(∃i t,k=Sum.inl i/\v=Value.int i t)\/(∃x t,k=Sum.inr x/\v=Value.str x t)
 | .inl i,v,h=>by obtain ⟨t,e⟩:=Value.isInt_shape (k:=i) (v:=v) h;exact .inl ⟨i,t,rfl,e⟩
 | .inr x,v,h=>by obtain ⟨t,e⟩:=Value.isStrOf_shape (x:=x) (v:=v) h;exact .inr ⟨x,t,rfl,e⟩
theorem yS (i:Int) (t:Tok):T8 (.inl i) (.int i t)=true:=by simp [T8,Value.isInt]
theorem yR (x:Str) (t:Tok):T8 (.inr x) (.str x t)=true:=by simp [T8,Value.isStrOf]
theorem vq (a b:Int):decide ((Sum.inl a:Key)=Sum.inl b)=(a==b):=by
 by_cases e:a=b
 . subst e;simp
 . have h:¬(Sum.inl a:Key)=Sum.inl b:=fun q=>e (Sum.inl.inj q)
   rw [decide_eq_false h];exact (beq_eq_false_iff_ne.mpr e).symm
theorem vp (a b:Str):decide ((Sum.inr a:Key)=Sum.inr b)=decide (a=b):=by
 by_cases e:a=b
 . subst e;simp
 . have h:¬(Sum.inr a:Key)=Sum.inr b:=fun q=>e (Sum.inr.inj q)
   rw [decide_eq_false h,decide_eq_false e]
theorem vo (a:Int) (b:Str):decide ((Sum.inl a:Key)=Sum.inr b)=false:=decide_eq_false (fun q=>nomatch q)
theorem vn (a:Str) (b:Int):decide ((Sum.inr a:Key)=Sum.inl b)=false:=decide_eq_false (fun q=>nomatch q)
def x3 (prog:Program) (w:World):PySem.KeyKind prog w Key where
 is:=T8
 hash:=y1u w
 inj:=fun v a b ha hb=>by
  rcases K2 ha with ⟨i,t,rfl,rfl⟩ | ⟨x,t,rfl,rfl⟩
  . rcases K2 hb with ⟨j,u,rfl,e⟩ | ⟨y,u,rfl,e⟩
    . injection e with e1 _;rw [e1]
    . exact nomatch e
  . rcases K2 hb with ⟨j,u,rfl,e⟩ | ⟨y,u,rfl,e⟩
    . exact nomatch e
    . injection e with e1 _;rw [e1]
 byValue:=fun k v h=>by rcases K2 h with ⟨i,t,rfl,rfl⟩ | ⟨x,t,rfl,rfl⟩<;>rfl
 pyHash:=fun hv h=>by
  rcases K2 hv with ⟨i,t,rfl,rfl⟩ | ⟨x,t,rfl,rfl⟩
  . exact wpAny_pyHash_int h
  . exact wpAny_pyHash_str h
 eqBool:=fun hu hv h=>by
  rcases K2 hu with ⟨i,t,rfl,rfl⟩ | ⟨x,t,rfl,rfl⟩
  . rcases K2 hv with ⟨j,u,rfl,rfl⟩ | ⟨y,u,rfl,rfl⟩
    . rw [vq] at h;exact wpAny_eqBool_int h
    . rw [vo] at h;exact SeqAt.EqAt.int_str i t y u _ _ _ _ h
  . rcases K2 hv with ⟨j,u,rfl,rfl⟩ | ⟨y,u,rfl,rfl⟩
    . rw [vn] at h;exact SeqAt.EqAt.str_int x t j u _ _ _ _ h
    . rw [vp] at h;exact wpAny_eqBool_str h
 «strs»:=fun k x t v h=>by
  rcases K2 h with ⟨i,u,rfl,e⟩ | ⟨y,u,rfl,e⟩
  . exact nomatch e
  . injection e with e1 _;subst e1;cases v<;>rfl
theorem zG (prog:Program) (w:World) (i:Int) (t:Tok):(x3 prog w).is (.inl i) (.int i t)=true:=yS i t
theorem zF (prog:Program) (w:World) (x:Str) (t:Tok):(x3 prog w).is (.inr x) (.str x t)=true:=yR x t
inductive V where
 | non | bl (b:Bool) | int (i:Int) | str (x:Str) | byt (b:Array UInt8) | flt (b:UInt64) | ref (a:Addr) | ty (n:String)
 deriving DecidableEq
def RelV:V->Value->Prop
 | .non,u=>u=Value.none
 | .bl b,u=>u=Value.bool b
 | .int i,u=>∃t,u=Value.int i t
 | .str x,u=>∃t,u=Value.str x t
 | .byt b,u=>∃t,u=Value.bytes b t
 | .flt b,u=>∃t,u=Value.float b t
 | .ref a,u=>u=Value.ref a
 | .ty n,u=>u=Value.type n
abbrev Vals:List V->List Value->Prop:=Paired RelV
theorem Vals.length (r:Vals xs us):xs.length=us.length:=Paired.length r
theorem Vals.get:∀{xs:List V} {us:List Value} {i:Nat} {x:V},Vals xs us->xs[i]?=some x->∃u,us[i]?=some u/\RelV x u
 | _,_,_,_,.nil,e=>by simp at e
 | _,_,0,_,.cons r _,e=>by simp at e;subst e;exact ⟨_,rfl,r⟩
 | _,_,i+1,x,.cons _ t,e=>by obtain ⟨u,h1,h2⟩:=Vals.get (i:=i) (x:=x) t (by simpa using e);exact ⟨u,by simpa using h1,h2⟩
theorem Vals.set (r:RelV x u):∀{xs:List V} {us:List Value} (i:Nat),Vals xs us->Vals (xs.set i x) (us.set i u)
 | _,_,_,.nil=>.nil
 | _,_,0,.cons _ t=>.cons r t
 | _,_,i+1,.cons q t=>.cons q (Vals.set r i t)
theorem Vals.append:∀{xs ys:List V} {us ws:List Value},Vals xs us->Vals ys ws->Vals (xs++ys) (us++ws)
 | _,_,_,_,.nil,s=>s
 | _,_,_,_,.cons r t,s=>.cons r (Vals.append t s)
theorem Vals.take:∀{xs:List V} {us:List Value} (n:Nat),Vals xs us->Vals (xs.take n) (us.take n)
 | _,_,0,_=>.nil
 | _,_,_+1,.nil=>.nil
 | _,_,n+1,.cons r t=>.cons r (Vals.take n t)
theorem Vals.drop:∀{xs:List V} {us:List Value} (n:Nat),Vals xs us->Vals (xs.drop n) (us.drop n)
 | _,_,0,r=>r
 | _,_,_+1,.nil=>.nil
 | _,_,n+1,.cons _ t=>Vals.drop n t
def RelO:Option V->Option Value->Prop
 | some v,some u=>RelV v u
 | none,none=>True
 | _,_=>False
def KV {κ:Type}:List (κ×V)->List (κ×Value)->Prop:=Paired fun (p:κ×V) (q:κ×Value)=>p.1=q.1/\RelV p.2 q.2
noncomputable def kV:Key->V
 | .inl i=>.int i
 | .inr x=>.str x
def IsTp (h:Heap) (a:Addr) (its:Array Value):Prop:=∃o,h.get? a=some o/\o.cls=.type "tuple"/\(∃n,o.data=.seq its n)/\o.dict=none
theorem IsTp.tup (p:IsTp h a its):IsTup h a its:=by obtain ⟨o,e,c,d,_⟩:=p;exact ⟨o,e,c,d⟩
theorem IsTp.lt (p:IsTp h a its):a<h.objs.size:=by obtain ⟨o,e,_⟩:=p;exact Φ e
theorem IsTp.mk' (e:h.get? a=some { cls:=.type "tuple",data:=.seq its n,slots:=sl }):IsTp h a its:=⟨_,e,rfl,⟨n,rfl⟩,rfl⟩
inductive HO where
 /-- a list -/
 | lst (xs:List V)
 /-- a tuple (never changes) -/
 | tup (xs:List V)
 /-- a dict whose keys are ints and texts;one whose keys are tuples of ints and texts (the empty one is both) -/
 | dK (kvs:List (Key×V)) | dT (kvs:List (List Key×V))
 /-- a set of ints: its members,its size -/
 | set (S:Int->Bool) (n:Nat)
 /-- an instance of the class at C,its dict at dx,its attributes -/
 | ins (C dx:Addr) (fs:List (Str×V))
 /-- the dict of the instance at x -/
 | own (x:Addr)
 /-- the dict of an exception -/
 | xd (fs:List (Str×V))
 /-- a bound method,f of x -/
 | met (f x:Addr)
 /-- a range object lo,lo+1,.. below hi -/
 | rng (lo hi:Int)
 /-- a thing that is known to the object (the script;a dict while a loop walks it): read,never written while it is so -/
 | frz (o:Obj) (u:HO)
 /-- a code object's table -/
 | tbl (ps:Array Value)
 /-- the table of a def that makes lambdas,all of the qualname q -/
 | ctb (q:Str)
 /-- any other thing,by what is true of its one object (a def of one's own: SetO a S n:=HO.ext fun h=>..) -/
 | ext (φ:Heap->Prop)
abbrev Hp:=Addr->Option HO
noncomputable def upd (H:Hp) (a:Addr) (o:HO):Hp:=fun b=>if b=a then some o else H b
theorem i9:upd H a o a=some o:=by unfold upd;rw [ξ rfl]
theorem d7 (h:b≠a):upd H a o b=H b:=by unfold upd;rw [ψ h]
theorem jS {H:Hp} {a b:Addr} {o u:HO} (h:H a=some o) (h':H b=some u) (d:o≠u):a≠b:=by intro e;subst e;rw [h] at h';exact d (Option.some.inj h')
theorem n8 {H:Hp} {a b:Addr} {o:HO} (h:H a=some o) (h':H b=none):a≠b:=by intro e;subst e;rw [h] at h';cases h'
section
variable (P:Program) (w:World)
def ObjOk (H:Hp) (h:Heap) (a:Addr):HO->Prop
 | .lst xs=>xs.length<=sizeLine/\∃(its:List Value) (n:Nat),Vals xs its/\h.get? a=some { cls:=.type "list",data:=.seq its.toArray n }
 | .tup xs=>xs.length<=sizeLine/\∃its:List Value,Vals xs its/\IsTp h a its.toArray
 | .dK kvs=>kvs.length<=sizeLine/\(a==sysModules)=false/\∃vs,KV kvs vs/\h.DictOf (x3 P w) a vs
 | .dT kvs=>kvs.length<=sizeLine/\(a==sysModules)=false/\∃xs:List (List Key×Addr×Value),
  Paired (fun (p:List Key×V) (q:List Key×Addr×Value)=>p.1=q.1/\H q.2.1=some (.tup (p.1.map kV))/\RelV p.2 q.2.2) kvs xs /\
  ∃o es ep,h.get? a=some o/\o.ExactDict/\o.data=.dict es ep/\es.toList=xs.map (entryOfKey (tupleKind (x3 P w)))/\(xs.map (·.1)).Nodup
 | .set S n=>h.SetOf (intKind P w) a S n
 | .ins C dx fs=>H dx=some (.own a)/\fs.length<=1000/\dx≠a/\h.get? a=some (PySem.W.instObj C dx) /\
  ∃mA,h.Ns1 dx mA/\(∀f,RelO (fs.lookup f) (mA f))/\PySem.Within mA (fs.map (·.1))
 | .own _=>∃o,h.get? a=some o
 | .xd fs=>∃mA,h.Ns1 a mA/\∀f,RelO (fs.lookup f) (mA f)
 | .rng lo hi=>∃t u v,h.get? a=some { cls:=.type "range",data:=.fields #[.int lo t,.int hi u,.int 1 v] }
 | .frz o u=>h.get? a=some o/\ObjOk H h a u
 | .tbl ps=>h.get? a=some { cls:=.none,data:=.fields ps }
 | .ctb q=>∃ps:Array Value,h.get? a=some { cls:=.none,data:=.fields ps }/\TriplesOk ps.toList/\∀(pos:Pos) (v:Value),codeAmong pos ps.toList=some v->∃c,v=.ref c/\H c=some (.own a)/\h.CodeRec (.ref c) q
 | .met f x=>h.get? a=some (PySem.W.methodObj (.ref f) (.ref x))
 | .ext φ=>φ h/\(∃o,h.get? a=some o)/\∀h1 h2:Heap,φ h1->(∀o,h1.get? a=some o->h2.get? a=some o)->φ h2
def HOk (H:Hp) (h:Heap):Prop:=∀a o,H a=some o->ObjOk P w H h a o
end
section
variable {P:Program} {w:World} {H H':Hp} {h h':Heap} {a:Addr} {o:HO}
theorem ObjOk.lt (x:ObjOk P w H h a o):a<h.objs.size:=by
 cases o with
 | lst xs=>obtain ⟨_,_,_,_,e⟩:=x;exact Φ e
 | tup xs=>obtain ⟨_,_,_,p⟩:=x;exact p.lt
 | dK kvs=>obtain ⟨_,_,_,_,o,_,_,e,_⟩:=x;exact Φ e
 | dT kvs=>obtain ⟨_,_,_,_,o,_,_,e,_⟩:=x;exact Φ e
 | set S n=>obtain ⟨o,_,_,_,e,_⟩:=x;exact Φ e
 | ins C dx fs=>obtain ⟨_,_,_,e,_⟩:=x;exact Φ e
 | own y=>obtain ⟨_,e⟩:=x;exact Φ e
 | xd fs=>obtain ⟨_,⟨_,_,_,e,_⟩,_⟩:=x;exact Φ e
 | rng lo hi=>obtain ⟨_,_,_,e⟩:=x;exact Φ e
 | frz ob u=>obtain ⟨e,_⟩:=x;exact Φ e
 | tbl ps=>exact Φ (show h.get? a=some _ from x)
 | ctb q=>obtain ⟨_,e,_⟩:=x;exact Φ e
 | met f y=>exact Φ (show h.get? a=some _ from x)
 | ext φ=>obtain ⟨_,⟨_,e⟩,_⟩:=x;exact Φ e
theorem Paired.mapP:∀{l₁:List α} {l₂:List β},Paired F l₁ l₂->(∀a b,F a b->G a b)->Paired G l₁ l₂
 | _,_,.nil,_=>.nil
 | _,_,.cons r t,f=>.cons (f _ _ r) (Paired.mapP t f)
theorem ObjOk.stay (x:ObjOk P w H h a o) (k:∀b u,(b=a\/H b=some (.own a))->h.get? b=some u->h'.get? b=some u)
  (ho:∀b,H b=some (.own a)->H' b=some (.own a)) (ht:∀b xs,H b=some (.tup xs)->H' b=some (.tup xs)):ObjOk P w H' h' a o:=by
 induction o with
 | lst xs=>obtain ⟨z,its,n,r,e⟩:=x;exact ⟨z,its,n,r,k _ _ (.inl rfl) e⟩
 | tup xs=>obtain ⟨z,its,r,ob,e,c⟩:=x;exact ⟨z,its,r,ob,k _ _ (.inl rfl) e,c⟩
 | dK kvs=>obtain ⟨z,y,vs,r,ob,es,ep,e,c⟩:=x;exact ⟨z,y,vs,r,ob,es,ep,k _ _ (.inl rfl) e,c⟩
 | dT kvs=>
  obtain ⟨z,y,xs,r,ob,es,ep,e,c⟩:=x
  exact ⟨z,y,xs,Paired.mapP r fun p q z=>⟨z.1,ht _ _ z.2.1,z.2.2⟩,ob,es,ep,k _ _ (.inl rfl) e,c⟩
 | set S n=>obtain ⟨ob,es,ep,t,e,c⟩:=x;exact ⟨ob,es,ep,t,k _ _ (.inl rfl) e,c⟩
 | ins C dx fs=>
  obtain ⟨d,z,ne,e,mA,⟨od,es,ep,e2,c⟩,r⟩:=x
  exact ⟨ho _ d,z,ne,k _ _ (.inl rfl) e,mA,⟨od,es,ep,k _ _ (.inr d) e2,c⟩,r⟩
 | own y=>obtain ⟨ob,e⟩:=x;exact ⟨ob,k _ _ (.inl rfl) e⟩
 | xd fs=>obtain ⟨mA,⟨od,es,ep,e,c⟩,r⟩:=x;exact ⟨mA,⟨od,es,ep,k _ _ (.inl rfl) e,c⟩,r⟩
 | rng lo hi=>obtain ⟨t,u,v,e⟩:=x;exact ⟨t,u,v,k _ _ (.inl rfl) e⟩
 | frz ob u ih=>obtain ⟨e,q⟩:=x;exact ⟨k _ _ (.inl rfl) e,ih q⟩
 | tbl ps=>
  have e:h.get? a=some { cls:=.none,data:=.fields ps }:=x
  show h'.get? a=some { cls:=.none,data:=.fields ps }
  exact k a _ (.inl rfl) e
 | ctb q=>
  obtain ⟨ps,e,t,c⟩:=x
  refine ⟨ps,k _ _ (.inl rfl) e,t,fun pos v hb=>?_⟩
  obtain ⟨b,rfl,z,c2,oc,vs,tq,e1,e2,e3⟩:=c pos v hb
  cases e1
  exact ⟨b,rfl,ho _ z,b,oc,vs,tq,rfl,k _ _ (.inr z) e2,e3⟩
 | met f y=>
  have e:h.get? a=some (PySem.W.methodObj (.ref f) (.ref y)):=x
  show h'.get? a=some (PySem.W.methodObj (.ref f) (.ref y))
  exact k a _ (.inl rfl) e
 | ext φ=>obtain ⟨p,⟨o,e⟩,st⟩:=x;exact ⟨st _ _ p fun o q=>k _ _ (.inl rfl) q,⟨o,k _ _ (.inl rfl) e⟩,st⟩
theorem HOk.lt (x:HOk P w H h) (e:H a=some o):a<h.objs.size:=(x a o e).lt
theorem HOk.fresh (x:HOk P w H h) (e:h.objs.size<=a):H a=none:=by
 cases q:H a with
 | none=>rfl
 | some u=>exact absurd (Nat.lt_of_lt_of_le (x.lt q) e) (Nat.lt_irrefl _)
theorem HOk.kept (x:HOk P w H h) (k:∀b u,h.get? b=some u->h'.get? b=some u):HOk P w H h':=fun a o e=>
 (x a o e).stay (fun b u _ q=>k b u q) (fun _ q=>q) fun _ _ q=>q
theorem HOk.laid (x:HOk P w H h) (k:∀b u,h.get? b=some u->h'.get? b=some u) (hp:h.objs.size<=a) (new:ObjOk P w (upd H a o) h' a o):HOk P w (upd H a o) h':=fun b u e=>by
 have hn:=x.fresh hp;by_cases hb:b=a
 . subst hb;rw [i9] at e;cases e;exact new
 . rw [d7 hb] at e;exact (x b u e).stay (fun c v _ q=>k c v q) (fun c q=>by rw [d7 (n8 q hn)];exact q) fun c xs q=>by rw [d7 (n8 q hn)];exact q
end
def Rd (H:Hp) (a:Addr) (u:HO):Prop:=H a=some u\/∃o,H a=some (.frz o u)
theorem Rd.ok (r:Rd H a u) (x:HOk P w H h):ObjOk P w H h a u:=by
 rcases r with r | ⟨o,r⟩
 . exact x a u r
 . obtain ⟨_,q⟩:=x a _ r;exact q
def Mut:Option HO->Prop
 | some (.lst _)=>True
 | some (.dK _)=>True
 | some (.dT _)=>True
 | some (.set _ _)=>True
 | some (.ins _ _ _)=>True
 | some (.ext _)=>True
 | _=>False
section
variable {P:Program} {w:World} {H:Hp} {h h':Heap} {x e:Addr} {o':HO}
theorem HOk.write (ok:HOk P w H h) (mu:Mut (H x)) (he:e=x\/H e=some (.own x)) (k:∀b u,b≠e->h.get? b=some u->h'.get? b=some u) (heo:∃u,h'.get? e=some u)
  (new:ObjOk P w (upd H x o') h' x o'):HOk P w (upd H x o') h':=fun b u q=>by
 have nown:∀c y,H c=some (.own y)->c≠x:=fun c y r z=>by subst z;rw [r] at mu;exact mu
 have ntup:∀c xs,H c=some (.tup xs)->c≠x:=fun c xs r z=>by subst z;rw [r] at mu;exact mu
 by_cases hb:b=x
 . subst hb;rw [i9] at q;cases q;exact new
 . rw [d7 hb] at q;by_cases hbe:b=e
   . have q':H b=some (.own x):=by
      rcases he with z | z
      . exact absurd (hbe.trans z) hb
      . rw [hbe];exact z
     rw [q] at q';cases q'
     obtain ⟨v,hv⟩:=heo
     exact ⟨v,by rw [hbe];exact hv⟩
   . refine (ok b u q).stay (fun c v hc r=>k c v ?_ r) (fun c r=>by rw [d7 (nown c b r)];exact r) fun c xs r=>by rw [d7 (ntup c xs r)];exact r
     rcases hc with rfl | hc
     . exact hbe
     . rintro rfl;rcases he with z | z
       . exact nown c b hc z
       . rw [hc] at z;cases z;exact hb rfl
end
structure Un (fs ex:List Addr) (H H':Hp) (h h':Heap):Prop where
 keep:∀b o,h.get? b=some o->H b=none->b∉fs->b∉ex->h'.get? b=some o
 slot:∀b o,h.get? b=some o->H b=none->b∈fs->b∉ex->∃sl,h'.get? b=some { o with slots:=sl }
 free:∀b o,h.get? b=some o->H b=none->b∉ex->H' b=none
 there:∀b o,h.get? b=some o->b∉ex->∃o',h'.get? b=some o'
 tups:∀b xs,H b=some (.tup xs)->H' b=some (.tup xs)
 frzs:∀b o u,H b=some (.frz o u)->H' b=some (.frz o u)
 tbls:∀b ps,H b=some (.tbl ps)->∃more,H' b=some (.tbl (ps++more))
section
variable {fs ex:List Addr} {H H1:Hp} {h h1 h':Heap} {a x e:Addr} {o:HO}
theorem Un.any (u:Un fs ex H H1 h h1) (q:h.get? b=some ob) (n:H b=none) (hx:b∉ex):∃sl,h1.get? b=some { ob with slots:=sl }:=by
 by_cases hb:b∈fs
 . exact u.slot b ob q n hb hx
 . exact ⟨ob.slots,u.keep b ob q n hb hx⟩
theorem Un.kept (k:∀b u,h.get? b=some u->h'.get? b=some u):Un fs ex H H h h':=
 ⟨fun b ob q _ _ _=>k b ob q,fun b ob q _ _ _=>⟨ob.slots,k b ob q⟩,fun _ _ _ n _=>n,fun b ob q _=>⟨ob,k b ob q⟩,fun _ _ q=>q,fun _ _ _ q=>q,fun _ ps q=>⟨#[],by rw [q];simp⟩⟩
theorem Un.refl:Un fs ex H H h h:=Un.kept fun _ _ q=>q
theorem Un.laid (k:∀b u,h.get? b=some u->h'.get? b=some u) (hp:h.objs.size<=a) (hn:H a=none):Un fs ex H (upd H a o) h h' where
 keep:=fun b u q _ _ _=>k b u q
 slot:=fun b u q _ _ _=>⟨u.slots,k b u q⟩
 free:=fun b u q n _=>by rw [d7 (Nat.ne_of_lt (Nat.lt_of_lt_of_le (Φ q) hp))];exact n
 there:=fun b u q _=>⟨u,k b u q⟩
 tups:=fun b xs q=>by rw [d7 (n8 q hn)];exact q
 frzs:=fun b u xs q=>by rw [d7 (n8 q hn)];exact q
 tbls:=fun b ps q=>⟨#[],by rw [d7 (n8 q hn),q];simp⟩
theorem Un.write (mu:Mut (H x)) (he:e=x\/H e=some (.own x)) (k:∀b u,b≠e->h.get? b=some u->h'.get? b=some u) (heo:∃u,h'.get? e=some u):Un fs ex H (upd H x o) h h':=by
 have hx:∀b,H b=none->b≠x:=fun b n z=>by subst z;rw [n] at mu;exact mu
 have hb:∀b,H b=none->b≠e:=fun b n z=>by
  subst z;rcases he with r | r
  . exact hx b n r
  . rw [n] at r;cases r
 have hm:∀b u,H b=some u->¬Mut (some u)->b≠x:=fun b u q nm z=>by subst z;rw [q] at mu;exact nm mu
 refine ⟨fun b u q n _ _=>k b u (hb b n) q,fun b u q n _ _=>⟨u.slots,k b u (hb b n) q⟩,fun b u q n _=>by rw [d7 (hx b n)];exact n,fun b u q _=>?_,
  fun b xs q=>by rw [d7 (hm b _ q fun z=>z)];exact q,fun b u xs q=>by rw [d7 (hm b _ q fun z=>z)];exact q,fun b ps q=>⟨#[],by rw [d7 (hm b _ q fun z=>z),q];simp⟩⟩
 by_cases hbe:b=e
 . subst hbe;exact heo
 . exact ⟨u,k b u hbe q⟩
end
noncomputable def trk (h:Heap) (H:Hp):List Addr:=(List.range h.objs.size).filter fun a=>(H a).isSome
def G1 (h:Heap) (H:Hp):Heap:=hideAll h (trk h H)
theorem yQ (h:Heap) (H:Hp):(G1 h H).objs.size=h.objs.size:=PySem.W.hideAll_size _ _
theorem yf (e:h.get? b=some o) (n:H b=none):(G1 h H).get? b=some o:=
 hideAll_get _ e fun hm=>by have q:(H b).isSome=true:=(List.mem_filter.mp hm).2;rw [n] at q;simp at q
theorem wT (e:(G1 h H).get? b=some o):h.get? b=some o/\H b=none:=by
 have e':h.get? b=some o:=of_hideAll (trk h H) e;refine ⟨e',?_⟩;cases q:H b with
 | none=>rfl
 | some x=>
  have hm:b∈trk h H:=List.mem_filter.mpr ⟨List.mem_range.mpr (Φ e'),by simp [q]⟩
  have z:(G1 h H).get? b=none:=hideAll_none (trk h H) hm
  rw [z] at e;cases e
noncomputable def Dq (g h:Heap) (L:Addr):List (Addr×Obj):=(List.range h.objs.size).filterMap fun a=>if a=L\/(g.get? a).isSome=true then none else (h.get? a).map fun o=>(a,o)
theorem zE (h1:a≠L) (h2:g.get? a=none) (h3:h.get? a=some o):(a,o)∈Dq g h L:=
 List.mem_filterMap.mpr ⟨a,List.mem_range.mpr (Φ h3),by simp [h1,h2,h3]⟩
theorem z8g (hp:p∈Dq g h L):p.1≠L/\g.get? p.1=none/\h.get? p.1=some p.2:=by
 obtain ⟨b,_,e⟩:=List.mem_filterMap.mp hp;split at e
 . cases e
 . rename_i hn;cases q:h.get? b with
   | none=>rw [q] at e;simp at e
   | some u=>
    rw [q] at e
    simp only [Option.map_some,Option.some.injEq] at e
    subst e
    refine ⟨fun z=>hn (.inl z),?_,q⟩
    show g.get? b=none
    cases r:g.get? b with
    | none=>rfl
    | some v=>exact (hn (.inr (by simp [r]))).elim
theorem Lg:News g L h (Dq g h L):=fun p hp=>let ⟨a,b,c⟩:=z8g hp;⟨c,a,b⟩
structure Mod (K:Frag) (mg:Str->Option Value) (base:Heap):Prop where
 kin:K.In base
 glob:base.Ns mainGlobals mg
 blt:∃mb,base.Ns builtinsNs mb/\∀x:Str,x≠"__name__"->mb x=bootBuiltins x
 nolimit:base.NoLimit
structure Cx where
 prog:Program
 w:World
 K:Frag
 mg:Str->Option Value
 base:Heap
 A:Around
 N:List Str
 s₀:Shared
 H₀:Hp
 env:Env
 outer:List Env
 stack:List Env
 ex:List Addr
 fn:Str->Bool
 calm:Bool
 pn:List (Addr×Obj)
 xe:Value->Shared->Prop
noncomputable def frs (l:List Env):List Addr:=l.filterMap (·.frame)
abbrev Cx.fs (X:Cx):List Addr:=frs X.outer
def Vis (sc:Scope) (x:Str):Prop:=sc.names.lookup x=some .local\/sc.names.lookup x=some .cell\/sc.names.lookup x=some .free
def Loc (sc:Scope) (x:Str):Prop:=sc.names.lookup x=some .local\/sc.names.lookup x=some .cell
def y1v (env:Env) (h:Heap) (m:Str->Option Value) (x:Str) (u:Value):Prop:=
 (env.kindOf x=some .local/\m x=some u)\/((env.kindOf x=some .cell\/env.kindOf x=some .free)/\∃c,env.cells.lookup x=some c/\h.IsCell c (some u))
structure Cx.Ok (X:Cx):Prop where
 mod:Mod X.K X.mg X.base
 kind:X.env.scope.kind=.function
 glob:X.env.globals=mainGlobals
 blt:X.env.builtins=builtinsNs
 above:X.s₀.heap.objs.size<=X.env.locals
 inj:∀x y c,X.env.cells.lookup x=some c->X.env.cells.lookup y=some c->x=y
 has:∀x,(X.env.kindOf x=some .cell\/X.env.kindOf x=some .free)->∃c,X.env.cells.lookup x=some c
 cab:∀x c,X.fn x=true->X.env.cells.lookup x=some c->X.s₀.heap.objs.size<=c
 hd:X.calm=true->X.A.handled=none
 frames:X.A.frames=some X.stack
 stk:X.stack=X.outer\/(X.stack=X.env::X.outer/\X.env.frame=some X.env.locals)
 exf:∀b∈X.ex,b≠X.env.locals/\∀x c,X.env.cells.lookup x=some c->c≠b
 bs:∀b o,X.base.get? b=some o->X.s₀.heap.get? b=some o/\X.H₀ b=none
 bsz:X.base.objs.size<=X.s₀.heap.objs.size
 noex:∀b o,X.base.get? b=some o->b∉X.ex
 exfs:∀b∈X.ex,b∉X.fs
 funs:X.s₀.heap.FunFrames X.base X.outer
 frf:∀b∈X.fs,X.H₀ b=none
structure Inv (X:Cx) (pins:List (Addr×Obj)) (σ:List (Option V)) (H:Hp) (s:Shared):Prop where
 ok:X.Ok
 os:s.os=X.s₀.os
 bare:AllBare s.gens
 base:Un X.fs X.ex X.H₀ H X.s₀.heap s.heap
 loc:∃m,s.heap.Ns X.env.locals m/\∀(i:Nat) (x:Str) (v:V),X.N[i]?=some x->σ[i]?=some (some v)->Vis X.env.scope x->∃u,RelV v u/\y1v X.env s.heap m x u
 cell:∀x c,X.env.cells.lookup x=some c->∃v,s.heap.IsCell c v
 free:H X.env.locals=none
 freeC:∀x c,X.env.cells.lookup x=some c->H c=none
 pin:∀p∈X.pn++pins,s.heap.get? p.1=some p.2/\H p.1=none/\p.1≠X.env.locals/\p.1∉X.fs/\∀v,p.2.data≠.cell v
 hok:HOk X.prog X.w H s.heap
 len:σ.length=X.N.length
section
variable {X:Cx} {pins:List (Addr×Obj)} {σ:List (Option V)} {H H':Hp} {s:Shared} {h':Heap}
theorem Cx.Ok.nofr (ok:X.Ok) (e:X.base.get? b=some o):b∉X.fs:=fun hb=>by have:=(ok.funs.mem hb).1;rw [e] at this;cases this
theorem Inv.bs (I:Inv X pins σ H s):∀b o,X.base.get? b=some o->s.heap.get? b=some o/\H b=none:=fun b o e=>
 ⟨I.base.keep b o (I.ok.bs b o e).1 (I.ok.bs b o e).2 (I.ok.nofr e) (I.ok.noex b o e),I.base.free b o (I.ok.bs b o e).1 (I.ok.bs b o e).2 (I.ok.noex b o e)⟩
theorem Inv.bk (I:Inv X pins σ H s):∀b o,X.base.get? b=some o->s.heap.get? b=some o:=fun b o e=>(I.bs b o e).1
theorem Inv.mod (I:Inv X pins σ H s):Mod X.K X.mg X.base:=I.ok.mod
theorem Inv.kIn (I:Inv X pins σ H s):X.K.In s.heap:=I.ok.mod.kin.keeps I.bk
theorem Inv.lt (I:Inv X pins σ H s):X.env.locals<s.heap.objs.size:=let ⟨_,hn,_⟩:=I.loc;hn.lt
theorem Inv.sz (I:Inv X pins σ H s):X.s₀.heap.objs.size<=s.heap.objs.size:=Nat.le_trans I.ok.above (Nat.le_of_lt I.lt)
theorem Inv.nofs (I:Inv X pins σ H s) (h:s.heap.objs.size<=a):a∉X.fs:=fun hb=>by obtain ⟨_,o,ho,_⟩:=I.ok.funs.mem hb;exact absurd (Nat.lt_of_lt_of_le (Φ ho) (Nat.le_trans I.sz h)) (Nat.lt_irrefl _)
theorem Inv.cne (I:Inv X pins σ H s):∀x c,X.env.cells.lookup x=some c->c≠X.env.locals:=fun x c e z=>by obtain ⟨v,o,ho,hd⟩:=I.cell x c e;obtain ⟨m,⟨o',es,ep,ho',hd',_⟩,_⟩:=I.loc;rw [z,ho'] at ho;cases ho;rw [hd'] at hd;cases hd
theorem Inv.funs (I:Inv X pins σ H s):s.heap.FunFrames X.base X.outer:=by
 have all:∀(l:List Env),(∀b∈frs l,b∈X.fs)->X.s₀.heap.FunFrames X.base l->s.heap.FunFrames X.base l:=by
  intro l;induction l with
  | nil=>intro _ _;trivial
  | cons env r ih=>
   intro hs hl
   obtain ⟨hk,⟨L,o,hf,hn,ho,hd⟩,hr⟩:=hl
   have hL:L∈X.fs:=hs L (by unfold frs;rw [List.filterMap_cons,hf];exact List.mem_cons_self)
   obtain ⟨sl,e⟩:=I.base.slot L o ho (I.ok.frf L hL) hL fun z=>I.ok.exfs L z hL
   exact ⟨hk,⟨L,_,hf,hn,e,hd⟩,ih (fun b hb=>hs b (by unfold frs;rw [List.filterMap_cons,hf];exact List.mem_cons_of_mem _ hb)) hr⟩
 exact all X.outer (fun _ hb=>hb) I.ok.funs
theorem Inv.stack (I:Inv X pins σ H s):s.heap.FunFrames X.base X.stack:=by
 rcases I.ok.stk with e | ⟨e,hf⟩
 . rw [e];exact I.funs
 . rw [e];obtain ⟨m,hn,_⟩:=I.loc;refine .cons (by rw [I.ok.kind];decide) hf hn ?_ I.funs;exact Heap.get?_none_of_le (Nat.le_trans I.ok.bsz I.ok.above)
theorem Inv.stkSub (I:Inv X pins σ H s):∀b∈frs X.stack,b∈X.env.locals::X.fs:=fun b hb=>by
 rcases I.ok.stk with e | ⟨e,hf⟩
 . rw [e] at hb;exact List.mem_cons_of_mem _ hb
 . rw [e] at hb;unfold frs at hb;rw [List.filterMap_cons,hf] at hb;exact hb
theorem Inv.stkFree (I:Inv X pins σ H s):∀b∈frs X.stack,H b=none:=fun b hb=>by
 rcases List.mem_cons.mp (I.stkSub b hb) with e | hb
 . rw [e];exact I.free
 . obtain ⟨_,o,ho,_⟩:=I.ok.funs.mem hb;exact I.base.free b o ho (I.ok.frf b hb) fun z=>I.ok.exfs b z hb
theorem Inv.step {g':Array GenState} {t':Nat} {d':Drawn} {ch:List Addr} (I:Inv X pins σ H s)
  (hch:∀b∈ch,(b∈X.ex\/X.s₀.heap.objs.size<=b)/\b≠X.env.locals/\(∀x c,X.env.cells.lookup x=some c->c≠b)/\∀p∈X.pn++pins,p.1≠b)
  (keep:∀b o,b≠X.env.locals->b∉X.fs->b∉ch->s.heap.get? b=some o->H b=none->h'.get? b=some o)
  (slot:∀b o,b≠X.env.locals->b∈X.fs->b∉ch->s.heap.get? b=some o->H b=none->∃sl,h'.get? b=some { o with slots:=sl }) (free:∀b o,b∉ch->s.heap.get? b=some o->H b=none->H' b=none)
  (there:∀b o,b∉ch->s.heap.get? b=some o->∃o',h'.get? b=some o')
  (tups:∀b xs,H b=some (.tup xs)->H' b=some (.tup xs)) (frzs:∀b o u,H b=some (.frz o u)->H' b=some (.frz o u)) (tbls:∀b ps,H b=some (.tbl ps)->∃more,H' b=some (.tbl (ps++more)))
  (ns:∀m,s.heap.Ns X.env.locals m->h'.Ns X.env.locals m) (hok:HOk X.prog X.w H' h') (hg:AllBare g') :
  Inv X pins σ H' { s with heap:=h',gens:=g',drawn:=d',toks:=t' }:=by
 have neL:∀b o,X.s₀.heap.get? b=some o->b≠X.env.locals:=fun b o e=>Nat.ne_of_lt (Nat.lt_of_lt_of_le (Φ e) I.ok.above)
 have neC:∀b o,X.s₀.heap.get? b=some o->b∉X.ex->b∉ch:=fun b o e hx hb=>by
  rcases (hch b hb).1 with z | z
  . exact hx z
  . exact absurd (Nat.lt_of_lt_of_le (Φ e) z) (Nat.lt_irrefl _)
 have cellK:∀x c,X.env.cells.lookup x=some c->∀v,s.heap.IsCell c v->h'.IsCell c v:=fun x c e v ⟨o,ho,hd⟩=>by
  have nch:c∉ch:=fun z=>(hch c z).2.2.1 x c e rfl
  by_cases hc:c∈X.fs
  . obtain ⟨sl,q⟩:=slot c o (I.cne x c e) hc nch ho (I.freeC x c e);exact ⟨_,q,hd⟩
  . exact ⟨o,keep c o (I.cne x c e) hc nch ho (I.freeC x c e),hd⟩
 refine ⟨I.ok,I.os,hg,⟨fun b o e n hb hx=>?_,fun b o e n hb hx=>?_,fun b o e n hx=>?_,fun b o e hx=>?_,fun b xs e=>tups b xs (I.base.tups b xs e),fun b o xs e=>frzs b o xs (I.base.frzs b o xs e),fun b ps e=>?_⟩,?_,fun x c e=>?_,?_,fun x c e=>?_,fun p hp=>?_,hok,I.len⟩
 . exact keep b o (neL b o e) hb (neC b o e hx) (I.base.keep b o e n hb hx) (I.base.free b o e n hx)
 . obtain ⟨sl,e1⟩:=I.base.slot b o e n hb hx;obtain ⟨sl',e2⟩:=slot b _ (neL b o e) hb (neC b o e hx) e1 (I.base.free b o e n hx);exact ⟨sl',e2⟩
 . obtain ⟨o',e1⟩:=I.base.there b o e hx;exact free b o' (neC b o e hx) e1 (I.base.free b o e n hx)
 . obtain ⟨o',e1⟩:=I.base.there b o e hx;exact there b o' (neC b o e hx) e1
 . obtain ⟨m1,e1⟩:=I.base.tbls b ps e;obtain ⟨m2,e2⟩:=tbls b _ e1;exact ⟨m1++m2,by rw [e2,Array.append_assoc]⟩
 . obtain ⟨m,hn,hl⟩:=I.loc;refine ⟨m,ns m hn,fun i x v e1 e2 e3=>?_⟩;obtain ⟨u,r,l⟩:=hl i x v e1 e2 e3;refine ⟨u,r,?_⟩;rcases l with l | ⟨k,c,e,z⟩
   . exact .inl l
   . exact .inr ⟨k,c,e,cellK x c e _ z⟩
 . obtain ⟨v,z⟩:=I.cell x c e;exact ⟨v,cellK x c e v z⟩
 . obtain ⟨m,⟨o,_,_,ho,_⟩,_⟩:=I.loc;exact free _ o (fun z=>(hch _ z).2.1 rfl) ho I.free
 . obtain ⟨v,o,ho,hd⟩:=I.cell x c e;exact free c o (fun z=>(hch c z).2.2.1 x c e rfl) ho (I.freeC x c e)
 . obtain ⟨e,n,ne,nf,d⟩:=I.pin p hp;have nch:p.1∉ch:=fun z=>(hch p.1 z).2.2.2 p hp rfl
   exact ⟨keep p.1 p.2 ne nf nch e n,free p.1 p.2 nch e n,ne,nf,d⟩
theorem Inv.un (I:Inv X pins σ H s) (u:Un X.fs [] H H' s.heap h') (hok:HOk X.prog X.w H' h'):Inv X pins σ H' { s with heap:=h',toks:=t' }:=by obtain ⟨m,⟨o,es,ep,ho,r⟩,_⟩:=id I.loc;obtain ⟨sl,hL⟩:=u.any ho I.free (by simp);exact I.step (g':=s.gens) (d':=s.drawn) (ch:=[]) (fun _ z=>nomatch z) (fun b o _ hb _ e n=>u.keep b o e n hb (by simp)) (fun b o _ hb _ e n=>u.slot b o e n hb (by simp)) (fun b o _ e n=>u.free b o e n (by simp)) (fun b o _ e=>u.there b o e (by simp)) u.tups u.frzs u.tbls (fun m' hm=>by obtain ⟨o',es',ep',ho',r'⟩:=hm;rw [ho] at ho';cases ho';exact ⟨_,es',ep',hL,r'⟩) hok I.bare
theorem Inv.call (I:Inv X pins σ H s) (u:Un (frs X.stack) ch H H' s.heap h') (hok:HOk X.prog X.w H' h') (hg:AllBare g')
  (hch:∀b∈ch,(b∈X.ex\/X.s₀.heap.objs.size<=b)/\b≠X.env.locals/\(∀x c,X.env.cells.lookup x=some c->c≠b)/\∀p∈X.pn++pins,p.1≠b) :
  Inv X pins σ H' { s with heap:=h',gens:=g',drawn:=d',toks:=t' }:=by
 obtain ⟨m,⟨o,es,ep,ho,r⟩,_⟩:=id I.loc
 obtain ⟨sl,hL⟩:=u.any ho I.free fun z=>(hch _ z).2.1 rfl
 exact I.step (ch:=ch) hch (fun b o hL hb hc e n=>u.keep b o e n (fun z=>(List.mem_cons.mp (I.stkSub b z)).elim hL hb) hc) (fun b o _ _ hc e n=>u.any e n hc) (fun b o hc e n=>u.free b o e n hc) (fun b o hc e=>u.there b o e hc) u.tups u.frzs u.tbls (fun m' hm=>by obtain ⟨o',es',ep',ho',r'⟩:=hm;rw [ho] at ho';cases ho';exact ⟨_,es',ep',hL,r'⟩) hok hg
theorem Inv.turned (I:Inv X pins σ H s) (k:∀b o,b≠it->s.heap.get? b=some o->h'.get? b=some o) (hn:H it=none) (hL:it≠X.env.locals)
  (h1:it∈X.ex\/X.s₀.heap.objs.size<=it) (h2:∀x c,X.env.cells.lookup x=some c->c≠it) (h3:∀p∈X.pn++pins,p.1≠it):Inv X pins σ H { s with heap:=h',toks:=t' }:=by
 have nit:∀b u,H b=some u->b≠it:=fun b u e z=>by rw [z,hn] at e;cases e
 refine I.step (g':=s.gens) (d':=s.drawn) (ch:=[it]) (fun b hb=>?_) (fun b o _ _ hc e _=>k b o (fun z=>hc (by simp [z])) e) (fun b o _ _ hc e _=>⟨o.slots,k b o (fun z=>hc (by simp [z])) e⟩) (fun _ _ _ _ n=>n)
  (fun b o hc e=>⟨o,k b o (fun z=>hc (by simp [z])) e⟩) (fun _ _ e=>e) (fun _ _ _ e=>e) (fun b ps e=>⟨#[],by rw [e];simp⟩) (fun m hm=>?_) (fun b u e=>?_) I.bare
 . have e:b=it:=by simpa using hb
   subst e;exact ⟨h1,hL,h2,h3⟩
 . obtain ⟨o,es,ep,ho,r⟩:=hm;exact ⟨o,es,ep,k _ o (Ne.symm hL) ho,r⟩
 . refine (I.hok b u e).stay (fun c v hc q=>k c v ?_ q) (fun _ q=>q) fun _ _ q=>q
   rcases hc with z | z
   . rw [z];exact nit b u e
   . exact nit c _ z
theorem Inv.tok (I:Inv X pins σ H s) (t:Nat):Inv X pins σ H { s with toks:=t }:=I.un (h':=s.heap) (t':=t) Un.refl I.hok
theorem Inv.kept (I:Inv X pins σ H s) (k:∀b u,s.heap.get? b=some u->h'.get? b=some u):Inv X pins σ H { s with heap:=h',toks:=t' }:=I.un (Un.kept k) (I.hok.kept k)
theorem Inv.laid (I:Inv X pins σ H s) (k:∀b u,s.heap.get? b=some u->h'.get? b=some u) (hp:s.heap.objs.size<=a) (new:ObjOk X.prog X.w (upd H a o) h' a o) :
 Inv X pins σ (upd H a o) { s with heap:=h',toks:=t' }:=I.un (Un.laid k hp (I.hok.fresh hp)) (I.hok.laid k hp new)
theorem Inv.write (I:Inv X pins σ H s) (mu:Mut (H x)) (he:e=x\/H e=some (.own x)) (k:∀b u,b≠e->s.heap.get? b=some u->h'.get? b=some u) (heo:∃u,h'.get? e=some u)
 (new:ObjOk X.prog X.w (upd H x o) h' x o):Inv X pins σ (upd H x o) { s with heap:=h',toks:=t' }:=I.un (Un.write mu he k heo) (I.hok.write mu he k heo new)
theorem Inv.pins_of (I:Inv X pins σ H s) (h:∀p∈pins',s.heap.get? p.1=some p.2/\H p.1=none/\p.1≠X.env.locals/\p.1∉X.fs/\∀v,p.2.data≠.cell v):Inv X pins' σ H s:=
 ⟨I.ok,I.os,I.bare,I.base,I.loc,I.cell,I.free,I.freeC,fun p hp=>(List.mem_append.mp hp).elim (fun z=>I.pin p (List.mem_append_left _ z)) (h p),I.hok,I.len⟩
theorem Lf {N:List Str} (hN:N.Nodup) {i j:Nat} {x:Str} (a:N[i]?=some x) (b:N[j]?=some x):i=j:=by obtain ⟨h1,e1⟩:=List.getElem?_eq_some_iff.mp a;obtain ⟨h2,e2⟩:=List.getElem?_eq_some_iff.mp b;exact (List.getElem_inj hN).mp (e1.trans e2.symm)
theorem Vh (I:Inv X pins σ H s) (hN:X.N.Nodup) (hi:X.N[i]?=some x) (hx:Loc X.env.scope x) (r:RelV v u)
  (h:∀s',Inv X pins (σ.set i (some v)) H s'->(∃a,Heap.SameBut a s.heap s'.heap/\(a=X.env.locals\/X.env.cells.lookup x=some a))->Q () s') (hf:X.fn x=true\/X.env.scope.names.lookup x=some .local:=by first | exact .inl rfl | exact .inr rfl | assumption):wpAny M A (storeName X.env x u) Q E s:=by
 obtain ⟨m,hn,hl⟩:=id I.loc
 have hcls:(X.env.scope.kind==.class||(X.env.scope.kind==.module&&X.env.locals != X.env.globals))=false:=by rw [I.ok.kind];rfl
 have hiσ:i<σ.length:=by rw [I.len];exact (List.getElem?_eq_some_iff.mp hi).1
 have cne:=I.cne
 have tracked:∀{a:Addr} {h':Heap},(∃o,s.heap.get? a=some o/\H a=none)->Heap.SameBut a s.heap h'->HOk X.prog X.w H h':=fun {a h'} ha hs b ob e=>by
  obtain ⟨_,_,hfree⟩:=ha;refine (I.hok b ob e).stay (fun c w' hc q=>(hs.2 c ?_).trans q) (fun _ q=>q) fun _ _ q=>q
  rintro rfl;rcases hc with rfl | hc
  . rw [hfree] at e;cases e
  . rw [hfree] at hc;cases hc
 rcases hx with hk | hk
 . refine wpAny_storeName_local hk hn (fun h' hn' hs=>?_) hcls;obtain ⟨oL,_,_,hoL,_⟩:=id hn;refine h _ ⟨I.ok,I.os,I.bare,⟨fun b o e n hb hx=>?_,fun b o e n hb hx=>?_,I.base.free,fun b o e hx=>?_,I.base.tups,I.base.frzs,I.base.tbls⟩,⟨_,hn',fun j y v' e1 e2 e3=>?_⟩,fun y c e=>?_,I.free,I.freeC,fun p hp=>?_,tracked ⟨oL,hoL,I.free⟩ hs,by simpa using I.len⟩ ⟨_,hs,.inl rfl⟩
   . exact (hs.2 b (Nat.ne_of_lt (Nat.lt_of_lt_of_le (Φ e) I.ok.above))).trans (I.base.keep b o e n hb hx)
   . obtain ⟨sl,e1⟩:=I.base.slot b o e n hb hx;exact ⟨sl,(hs.2 b (Nat.ne_of_lt (Nat.lt_of_lt_of_le (Φ e) I.ok.above))).trans e1⟩
   . obtain ⟨o',e1⟩:=I.base.there b o e hx;exact ⟨o',(hs.2 b (Nat.ne_of_lt (Nat.lt_of_lt_of_le (Φ e) I.ok.above))).trans e1⟩
   . by_cases hj:j=i
     . subst hj;rw [hi] at e1;cases e1;rw [List.getElem?_set_self hiσ] at e2;cases e2;exact ⟨u,r,.inl ⟨hk,by simp⟩⟩
     . rw [List.getElem?_set_ne (Ne.symm hj)] at e2;obtain ⟨u',r',q⟩:=hl j y v' e1 e2 e3;refine ⟨u',r',?_⟩;rcases q with ⟨k,e⟩ | ⟨k,c,e,z⟩
       . refine .inl ⟨k,?_⟩;have:y≠x:=fun e=>hj (Lf hN e1 (e ▸ hi))
         simp [this,e]
       . exact .inr ⟨k,c,e,z.sameBut hs (cne y c e)⟩
   . obtain ⟨w',z⟩:=I.cell y c e;exact ⟨w',z.sameBut hs (cne y c e)⟩
   . obtain ⟨e,n,ne,nf,d⟩:=I.pin p hp;exact ⟨(hs.2 p.1 ne).trans e,n,ne,nf,d⟩
 . have hfn:X.fn x=true:=by
    rcases hf with z | z
    . exact z
    . rw [z] at hk;cases hk
   obtain ⟨c,hc⟩:=I.ok.has x (.inl hk)
   obtain ⟨w',z⟩:=I.cell x c hc
   refine wpAny_storeName_cell I.ok.kind hk hc z (fun h' hc' hs=>?_)
   obtain ⟨oc,hoc,hocd⟩:=id z
   refine h { s with heap:=h' } ⟨I.ok,I.os,I.bare,⟨fun b o e n hb hx=>?_,fun b o e n hb hx=>?_,I.base.free,fun b o e hx=>?_,I.base.tups,I.base.frzs,I.base.tbls⟩,⟨m,hn.sameBut hs (Ne.symm (cne x c hc)),fun j y v' e1 e2 e3=>?_⟩,fun y c' e=>?_,I.free,I.freeC,fun p hp=>?_,tracked ⟨oc,hoc,I.freeC x c hc⟩ hs,by simpa using I.len⟩ ⟨c,hs,.inr hc⟩
   . exact (hs.2 b (Nat.ne_of_lt (Nat.lt_of_lt_of_le (Φ e) (I.ok.cab x c hfn hc)))).trans (I.base.keep b o e n hb hx)
   . obtain ⟨sl,e1⟩:=I.base.slot b o e n hb hx;exact ⟨sl,(hs.2 b (Nat.ne_of_lt (Nat.lt_of_lt_of_le (Φ e) (I.ok.cab x c hfn hc)))).trans e1⟩
   . obtain ⟨o',e1⟩:=I.base.there b o e hx;exact ⟨o',(hs.2 b (Nat.ne_of_lt (Nat.lt_of_lt_of_le (Φ e) (I.ok.cab x c hfn hc)))).trans e1⟩
   . by_cases hj:j=i
     . subst hj;rw [hi] at e1;cases e1;rw [List.getElem?_set_self hiσ] at e2;cases e2;exact ⟨u,r,.inr ⟨.inl hk,c,hc,hc'⟩⟩
     . rw [List.getElem?_set_ne (Ne.symm hj)] at e2;obtain ⟨u',r',q⟩:=hl j y v' e1 e2 e3;refine ⟨u',r',?_⟩;rcases q with q | ⟨k,c',e,z'⟩
       . exact .inl q
       . refine .inr ⟨k,c',e,z'.sameBut hs ?_⟩;rintro rfl;exact hj (Lf hN e1 (I.ok.inj _ _ _ e hc ▸ hi))
   . by_cases hcc:c'=c
     . subst hcc;exact ⟨_,hc'⟩
     . obtain ⟨w2,z2⟩:=I.cell y c' e;exact ⟨w2,z2.sameBut hs hcc⟩
   . obtain ⟨e,n,ne,nf,d⟩:=I.pin p hp;refine ⟨(hs.2 p.1 ?_).trans e,n,ne,nf,d⟩;intro q;rw [q,hoc] at e;have q':oc=p.2:=Option.some.inj e;exact d w' (by rw [<-q'];exact hocd)
theorem Le (I:Inv X pins σ H s) (hN:X.N.Nodup) (hi:X.N[i]?=some x) (hx:Loc X.env.scope x) (r:RelV v u)
  (h:∀s',Inv X pins (σ.set i (some v)) H s'->Q () s') (hf:X.fn x=true\/X.env.scope.names.lookup x=some .local:=by first | exact .inl rfl | exact .inr rfl | assumption):wpAny M A (storeName X.env x u) Q E s:=
 Vh I hN hi hx r (fun s' I' _=>h s' I') hf
theorem Inv.call' (I:Inv X pins σ H s) (ho:s'.os=s.os) (u:Un (frs X.stack) ch H H' s.heap s'.heap) (hok:HOk X.prog X.w H' s'.heap) (hg:AllBare s'.gens)
  (hch:∀b∈ch,(b∈X.ex\/X.s₀.heap.objs.size<=b)/\b≠X.env.locals/\(∀x c,X.env.cells.lookup x=some c->c≠b)/\∀p∈X.pn++pins,p.1≠b):Inv X pins σ H' s':=by
 obtain ⟨h',g',d',t',o'⟩:=s'
 have e:o'=s.os:=ho
 subst e
 exact I.call (g':=g') (t':=t') (d':=d') u hok hg hch
end
abbrev XK:=Value->Option Addr->Hp->Prop
abbrev St:=List (Option V)
abbrev VK:=V->Hp->Prop
abbrev TE:=St->Hp->VK->Prop
abbrev TT:=St->Hp->(Bool->Hp->Prop)->Prop
abbrev TA:=St->Hp->(List V->Hp->Prop)->Prop
structure Ends where
 nx:St->Hp->Prop
 rt:VK
 bk:St->Hp->Prop:=fun _ _=>False
 ct:St->Hp->Prop:=fun _ _=>False
abbrev TS:=Ends->St->Hp->Prop
def EP (X:Cx) (pins:List (Addr×Obj)) (σ:St) (Q:VK) (u:Value) (s':Shared):Prop:=∃v H',Inv X pins σ H' s'/\RelV v u/\Q v H'
def TP (X:Cx) (pins:List (Addr×Obj)) (σ:St) (Q:Bool->Hp->Prop) (b:Bool) (s':Shared):Prop:=∃H',Inv X pins σ H' s'/\Q b H'
def AP (X:Cx) (pins:List (Addr×Obj)) (σ:St) (Q:List V->Hp->Prop) (us:List Value) (s':Shared):Prop:=∃vs H',Inv X pins σ H' s'/\Vals vs us/\Q vs H'
def SP (X:Cx) (pins:List (Addr×Obj)) (D:Ends) (f:Flow) (s':Shared):Prop:=
 match f with
 | .next=>∃σ' H',Inv X pins σ' H' s'/\D.nx σ' H'
 | .brk=>∃σ' H',Inv X pins σ' H' s'/\D.bk σ' H'
 | .cont=>∃σ' H',Inv X pins σ' H' s'/\D.ct σ' H'
 | .ret u=>∃v σ' H',Inv X pins σ' H' s'/\RelV v u/\D.rt v H'
def PE (X:Cx) (e:Expr) (t:TE):Prop:=
 ∀(pins:List (Addr×Obj)) (s:Shared) (σ:St) (H:Hp) (Q:VK),Inv X pins σ H s->t σ H Q->wpAny (model X.prog X.w) X.A (eval e X.env) (EP X pins σ Q) X.xe s
def PT (X:Cx) (e:Expr) (t:TT):Prop:=
 ∀(pins:List (Addr×Obj)) (s:Shared) (σ:St) (H:Hp) (Q:Bool->Hp->Prop),Inv X pins σ H s->t σ H Q->wpAny (model X.prog X.w) X.A (isTrue e X.env (eval e X.env)) (TP X pins σ Q) X.xe s
def PW (X:Cx) (e:Expr) (t:TT):Prop:=
 ∀(whole:Sem Value) (pins:List (Addr×Obj)) (s:Shared) (σ:St) (H:Hp) (Q:Bool->Hp->Prop),Inv X pins σ H s->t σ H Q->wpAny (model X.prog X.w) X.A (isTrue e X.env whole) (TP X pins σ Q) X.xe s
theorem PW.pt (h:PW X e t):PT X e t:=h _
def PA (X:Cx) (es:List Expr) (t:TA):Prop:=
 ∀(pos:Pos) (pins:List (Addr×Obj)) (s:Shared) (σ:St) (H:Hp) (Q:List V->Hp->Prop),Inv X pins σ H s->t σ H Q->wpAny (model X.prog X.w) X.A (spliced (backTo pos (starEach es X.env))) (AP X pins σ Q) X.xe s
def PS (X:Cx) (st:Stmt) (t:TS):Prop:=
 ∀(pins:List (Addr×Obj)) (s:Shared) (σ:St) (H:Hp) (D:Ends),Inv X pins σ H s->t D σ H->wpAny (model X.prog X.w) X.A (exec st X.env) (SP X pins D) X.xe s
def PSs (X:Cx) (st:List Stmt) (t:TS):Prop:=
 ∀(pins:List (Addr×Obj)) (s:Shared) (σ:St) (H:Hp) (D:Ends),Inv X pins σ H s->t D σ H->wpAny (model X.prog X.w) X.A (execs st X.env) (SP X pins D) X.xe s
theorem thn (h:wpAny M A t Q E s) (hQ:∀a s,Q a s->Q' a s):wpAny M A t Q' E s:=wpAny_mono h hQ fun _ _ x=>x
section
variable {X:Cx}
theorem bin {a b:Expr} {ta tb:TE} (ha:PE X a ta) (hb:PE X b tb) {pins:List (Addr×Obj)} {s:Shared} {σ:St} {H:Hp} {R:V->V->Hp->Prop} (I:Inv X pins σ H s) (h:ta σ H fun x H1=>tb σ H1 fun y H2=>R x y H2)
  {α:Type} {Q:α->Shared->Prop} {f:Value->Value->Sem α}
  (hf:∀v u s2 x y H2,Inv X pins σ H2 s2->RelV x v->RelV y u->R x y H2->wpAny (model X.prog X.w) X.A (f v u) Q X.xe s2) :
  wpAny (model X.prog X.w) X.A (eval a X.env) (fun v s₁=>wpAny (model X.prog X.w) X.A (eval b X.env) (fun u s₂=>wpAny (model X.prog X.w) X.A (f v u) Q X.xe s₂) X.xe s₁) X.xe s:=by
 refine thn (ha pins s σ H _ I h) fun v s1 ⟨x,H1,I1,r1,q1⟩=>?_
 refine thn (hb pins s1 σ H1 _ I1 q1) fun u s2 ⟨y,H2,I2,r2,q2⟩=>?_
 exact hf v u s2 x y H2 I2 r1 r2 q2
noncomputable def Zs (i:Nat):TE:=fun σ H Q=>∃v,σ[i]?=some (some v)/\Q v H
noncomputable def tC (v:V):TE:=fun _ H Q=>Q v H
theorem Qx (hN:X.N[i]?=some x) (hv:Vis X.env.scope x) (hd:(x==("__debug__":Str))=false:=by decide) (hcd:(x==("__classdict__":Str))=false:=by decide):PE X (.Name x pos) (Zs i):=by
 intro pins s σ H Q I h;obtain ⟨v,e,h⟩:=h;obtain ⟨m,hn,hl⟩:=I.loc;obtain ⟨u,r,l⟩:=hl i x v hN e hv;have fin:EP X pins σ Q u s:=⟨v,H,I,r,h⟩;rcases l with ⟨hk,hm⟩ | ⟨hk,c,hc,hcell⟩
 . exact wpAny_Name (wpAny_loadName_local I.ok.kind hk hn hm fin) hd
 . rcases hk with hk | hk
   . exact wpAny_Name (wpAny_loadName_cell I.ok.kind hk hc hcell fin) hd
   . exact wpAny_Name (wpAny_loadName_free I.ok.kind hk hc hcell fin hcd) hd
theorem pe_int:PE X (.Constant (.int i) j pos) (tC (.int i)):=fun _ _ _ H _ I h=>wpAny_Constant_int ⟨.int i,H,I.tok _,⟨_,rfl⟩,h⟩
theorem pe_bl:PE X (.Constant (.bool b) j pos) (tC (.bl b)):=fun _ _ _ H _ I h=>Constant_bool ⟨.bl b,H,I,rfl,h⟩
theorem pe_non:PE X (.Constant .none j pos) (tC .non):=fun _ _ _ H _ I h=>Constant_none ⟨.non,H,I,rfl,h⟩
theorem pe_str:PE X (.Constant (.str x) j pos) (tC (.str x)):=fun _ _ _ H _ I h=>Calls.Constant_str ⟨.str x,H,I.tok _,⟨_,rfl⟩,h⟩
def Gl (X:Cx) (x:Str):Prop:=X.env.kindOf x=some .globalImplicit
theorem V0 (I:Inv X pins σ H s) (hg:Gl X x) (hm:X.mg x=some u) (h:Q u s)
  (hd:(x==("__debug__":Str))=false:=by decide):wpAny (model X.prog X.w) X.A (eval (.Name x pos) X.env) Q E s:=
 Calls.Name_function_global I.ok.kind hg (Calls.loadGlobal_global (by rw [I.ok.glob];exact I.mod.glob.keeps I.bk) hm h) hd
theorem N7 (I:Inv X pins σ H s) (hg:Gl X x) (hm:X.mg x=none) (hv:bootBuiltins x=some u) (h:Q u s)
  (hn:x≠"__name__":=by decide) (hd:(x==("__debug__":Str))=false:=by decide):wpAny (model X.prog X.w) X.A (eval (.Name x pos) X.env) Q E s:=by
 obtain ⟨mb,h1,h2⟩:=I.mod.blt
 exact Calls.Name_function_global I.ok.kind hg (Calls.loadGlobal_builtin (by rw [I.ok.glob];exact I.mod.glob.keeps I.bk) hm (by rw [I.ok.blt];exact h1.keeps I.bk) ((h2 x hn).trans hv) h) hd
theorem U9 (hg:Gl X x) (hm:X.mg x=some u) (r:RelV v u) (hd:(x==("__debug__":Str))=false:=by decide):PE X (.Name x pos) (tC v):=
 fun _ _ _ H _ I h=>V0 I hg hm ⟨v,H,I,r,h⟩ hd
theorem E8 (hg:Gl X x) (hm:X.mg x=none) (hv:bootBuiltins x=some u) (r:RelV v u) (hn:x≠"__name__":=by decide) (hd:(x==("__debug__":Str))=false:=by decide):PE X (.Name x pos) (tC v):=
 fun _ _ _ H _ I h=>N7 I hg hm hv ⟨v,H,I,r,h⟩ hn hd
variable {a b:Expr} {pos:Pos}
variable {tA tB':TT} {rest:List Expr}
noncomputable def Zr (t u:TT):TT:=fun σ H Q=>t σ H fun c H1=>if c=true then u σ H1 Q else Q false H1
noncomputable def tOr (t u:TT):TT:=fun σ H Q=>t σ H fun c H1=>if c=true then Q true H1 else u σ H1 Q
noncomputable def Zq (t:TT):TT:=fun σ H Q=>t σ H fun c H1=>Q (!c) H1
theorem wS (ha:PT X a tA):PW X (.BoolOp .And [a] pos) tA:=by
 intro wh pins s σ H Q I h;refine isTrue_and (thn (ha pins s σ H Q I h) fun c s1 e=>?_);cases c with
 | true=>exact isTrue_and_nil e
 | false=>exact e
theorem vm (ha:PT X a tA):PW X (.BoolOp .Or [a] pos) tA:=by
 intro wh pins s σ H Q I h;refine isTrue_or (thn (ha pins s σ H Q I h) fun c s1 e=>?_);cases c with
 | false=>exact isTrue_or_nil e
 | true=>exact e
theorem vk (ha:PT X a tA) (hb:PW X (.BoolOp .And (b::rest) pos) tB'):PW X (.BoolOp .And (a::b::rest) pos) (Zr tA tB'):=by
 intro wh pins s σ H Q I h;refine isTrue_and (thn (ha pins s σ H _ I h) fun c s1 ⟨H1,I1,q1⟩=>?_);cases c with
 | true=>exact hb wh pins s1 σ H1 Q I1 q1
 | false=>exact ⟨H1,I1,q1⟩
theorem jR (ha:PT X a tA) (hb:PW X (.BoolOp .Or (b::rest) pos) tB'):PW X (.BoolOp .Or (a::b::rest) pos) (tOr tA tB'):=by
 intro wh pins s σ H Q I h;refine isTrue_or (thn (ha pins s σ H _ I h) fun c s1 ⟨H1,I1,q1⟩=>?_);cases c with
 | true=>exact ⟨H1,I1,q1⟩
 | false=>exact hb wh pins s1 σ H1 Q I1 q1
theorem vj (ha:PT X a tA):PT X (.UnaryOp .Not a pos) (Zq tA):=by intro pins s σ H Q I h;exact isTrue_not (ha pins s σ H (fun c H1=>Q (!c) H1) I h)
theorem vi (h:PE X a t):PE X (.BoolOp op [a] pos) t:=fun pins s σ H Q I hw=>BoolOp_one (h pins s σ H Q I hw)
end
def SqL (K:Frag) (H:Hp) (a:Addr) (xs:List V):Prop:=
 Rd H a (.lst xs) \/
  ∃(o:Obj) (its:Array Value) (n:Nat),K.lookup a=some o/\o.cls=.type "list"/\o.dict=none/\o.data=.seq its n/\its.size<=sizeLine/\Vals xs its.toList
def SqT (K:Frag) (H:Hp) (a:Addr) (xs:List V):Prop:=
 Rd H a (.tup xs) \/
  ∃(o:Obj) (its:Array Value) (n:Nat),K.lookup a=some o/\o.cls=.type "tuple"/\o.data=.seq its n/\its.size<=sizeLine/\Vals xs its.toList
noncomputable def Zp:Value->Option V
 | .none=>some .non
 | .bool b=>some (.bl b)
 | .int i _=>some (.int i)
 | .str x _=>some (.str x)
 | .bytes b _=>some (.byt b)
 | .float b _=>some (.flt b)
 | .ref a=>some (.ref a)
 | .type n=>some (.ty n)
 | _=>none
theorem RelV.abs (r:RelV x u):Zp u=some x:=by
 cases x with
 | non=>cases r;rfl
 | bl _=>cases r;rfl
 | int _=>obtain ⟨t,rfl⟩:=r;rfl
 | str _=>obtain ⟨t,rfl⟩:=r;rfl
 | byt _=>obtain ⟨t,rfl⟩:=r;rfl
 | flt _=>obtain ⟨t,rfl⟩:=r;rfl
 | ref _=>cases r;rfl
 | ty _=>cases r;rfl
theorem RelV.inj (r:RelV x u) (q:RelV y u):x=y:=Option.some.inj (r.abs.symm.trans q.abs)
theorem Vals.inj:∀{xs ys:List V} {us:List Value},Vals xs us->Vals ys us->xs=ys
 | _,_,_,.nil,.nil=>rfl
 | _,_,_,.cons r t,.cons r' t'=>by rw [r.inj r',Vals.inj t t']
section
variable {X:Cx} {pins:List (Addr×Obj)} {σ:St} {H:Hp} {s:Shared} {a:Addr} {xs ys:List V}
theorem SqL.of {K:Frag} (h:H a=some (.lst xs)):SqL K H a xs:=.inl (.inl h)
theorem SqT.of {K:Frag} (h:H a=some (.tup xs)):SqT K H a xs:=.inl (.inl h)
theorem Inv.list (I:Inv X pins σ H s) (h:SqL X.K H a xs):∃its:List Value,Vals xs its/\PlainL s.heap a its.toArray/\xs.length<=sizeLine:=by
 rcases h with h | ⟨o,its,n,hk,hc,hd,hs,hz,r⟩
 . obtain ⟨z,its,n,r,e⟩:=h.ok I.hok;exact ⟨its,r,⟨_,n,e,rfl,rfl,rfl⟩,z⟩
 . refine ⟨its.toList,r,⟨o,n,I.kIn a o hk,hc,hd,by simpa using hs⟩,?_⟩;have e:=r.length;simp only [Array.length_toList] at e
   lia
theorem Inv.tuple (I:Inv X pins σ H s) (h:SqT X.K H a xs):∃its:List Value,Vals xs its/\IsTup s.heap a its.toArray/\xs.length<=sizeLine:=by
 rcases h with h | ⟨o,its,n,hk,hc,hs,hz,r⟩
 . obtain ⟨z,its,r,p⟩:=h.ok I.hok;exact ⟨its,r,p.tup,z⟩
 . refine ⟨its.toList,r,⟨o,I.kIn a o hk,hc,n,by simpa using hs⟩,?_⟩;have e:=r.length;simp only [Array.length_toList] at e
   lia
theorem Inv.list_inj (I:Inv X pins σ H s) (h:SqL X.K H a xs) (h':SqL X.K H a ys):xs=ys:=by
 obtain ⟨its,r,⟨o,n,e,_,_,d⟩,_⟩:=I.list h;obtain ⟨its',r',⟨o',n',e',_,_,d'⟩,_⟩:=I.list h';rw [e] at e';cases e';rw [d] at d';injection d' with d1 _;have:its=its':=by simpa using congrArg Array.toList d1
 subst this;exact r.inj r'
theorem Inv.tuple_inj (I:Inv X pins σ H s) (h:SqT X.K H a xs) (h':SqT X.K H a ys):xs=ys:=by
 obtain ⟨its,r,⟨o,e,_,n,d⟩,_⟩:=I.tuple h;obtain ⟨its',r',⟨o',e',_,n',d'⟩,_⟩:=I.tuple h';rw [e] at e';cases e';rw [d] at d';injection d' with d1 _;have:its=its':=by simpa using congrArg Array.toList d1
 subst this;exact r.inj r'
end
abbrev Cx.wish (X:Cx) (E:Value->Shared->Prop):Cx:={ X with xe:=E }
abbrev Cx.nox (X:Cx):Cx:=X.wish fun _ _=>False
section
variable {X:Cx} {st:Stmt} {rest:List Stmt} {t u:TS} {e:Expr} {te:TE} {pos:Pos}
noncomputable def Ow:TS:=fun D σ H=>D.nx σ H
noncomputable def Cf (t u:TS):TS:=fun D σ H=>t { D with nx:=u D } σ H
theorem pss_nil:PSs X [] Ow:=fun _ _ σ H _ I h=>wpAny_execs_nil ⟨σ,H,I,h⟩
theorem Ld (h1:PS X st t) (h2:PSs X rest u):PSs X (st::rest) (Cf t u):=by
 intro pins s σ H D I h;refine wpAny_execs_cons (thn (h1 pins s σ H { D with nx:=u D } I h) fun f s1 q=>?_);cases f with
 | next=>
  obtain ⟨σ',H',I',q⟩:=q
  exact h2 pins s1 σ' H' D I' q
 | ret v=>exact q
 | brk=>exact q
 | cont=>exact q
theorem Kh (h1:PS X st t):PSs X [st] t:=by
 intro pins s σ H D I h;refine wpAny_execs_cons (thn (h1 pins s σ H D I h) fun f s1 q=>?_);cases f with
 | next=>exact wpAny_execs_nil q
 | ret v=>exact q
 | brk=>exact q
 | cont=>exact q
theorem Inv.quiet (I:Inv X pins σ H s):interactive X.env=false:=by simp [interactive,I.ok.kind]
noncomputable def T7 (te:TE):TS:=fun D σ H=>te σ H fun _ H1=>D.nx σ H1
theorem Kg (he:PE X e te) (hs:swapsWith e none pos.line X.env=pure false:=by rfl):PS X (.Expr e pos) (T7 te):=by intro pins s σ H D I h;exact wpAny_Expr_any (thn (he pins s σ H _ I h) fun v s1 ⟨x,H1,I1,r1,q1⟩=>⟨σ,H1,I1,q1⟩) I.quiet hs
noncomputable def Gb (te:TE):TS:=fun D σ H=>te σ H D.rt
theorem Jc (he:PE X e te):PS X (.Return (some e) pos) (Gb te):=by intro pins s σ H D I h;exact wpAny_Return_some (thn (he pins s σ H _ I h) fun v s1 ⟨x,H1,I1,r1,q1⟩=>⟨x,σ,H1,I1,r1,q1⟩)
noncomputable def Zo (c:TT) (t u:TS):TS:=fun D σ H=>c σ H fun b H1=>if b=true then t D σ H1 else u D σ H1
theorem Ov (hc:PT X c tc) (ha:PSs X a t) (hb:PSs X b u):PS X (.If c a b pos) (Zo tc t u):=by
 intro pins s σ H D I h;refine wpAny_If (thn (hc pins s σ H _ I h) fun d s1 ⟨H1,I1,q1⟩=>?_);cases d with
 | true=>exact ha pins s1 σ H1 D I1 q1
 | false=>exact hb pins s1 σ H1 D I1 q1
end
abbrev TG:=V->St->Hp->(St->Hp->Prop)->Prop
abbrev TGs:=List V->St->Hp->(St->Hp->Prop)->Prop
def PG (X:Cx) (target:Expr) (t:TG):Prop:=
 ∀(pins:List (Addr×Obj)) (s:Shared) (σ:St) (H:Hp) (v:V) (u:Value) (Q:St->Hp->Prop),Inv X pins σ H s->RelV v u->t v σ H Q ->
  wpAny (model X.prog X.w) X.A (assign target X.env u) (fun _ s'=>∃σ' H',Inv X pins σ' H' s'/\Q σ' H') X.xe s
def PGs (X:Cx) (ts:List Expr) (t:TGs):Prop:=
 ∀(pins:List (Addr×Obj)) (s:Shared) (σ:St) (H:Hp) (vs:List V) (us:List Value) (Q:St->Hp->Prop),Inv X pins σ H s->Vals vs us->t vs σ H Q ->
  wpAny (model X.prog X.w) X.A (assignInOrder ((assignEach ts X.env).map (·.2)) us) (fun _ s'=>∃σ' H',Inv X pins σ' H' s'/\Q σ' H') X.xe s
abbrev S3:=V->V->V->Hp->(Hp->Prop)->Prop
def Ce (X:Cx) (t:S3):Prop:=
 ∀(pins:List (Addr×Obj)) (s:Shared) (σ:St) (H:Hp) (o i v:V) (ov iv u:Value) (Q:Hp->Prop),Inv X pins σ H s->RelV o ov->RelV i iv->RelV v u->t o i v H Q ->
  wpAny (model X.prog X.w) X.A (setItem ov iv u) (fun _ s'=>∃H',Inv X pins σ H' s'/\Q H') X.xe s
section
variable {X:Cx} {pos:Pos}
noncomputable def t9 (i:Nat):TG:=fun v σ H Q=>Q (σ.set i (some v)) H
theorem Dp (hN:X.N.Nodup) (hi:X.N[i]?=some x) (hx:Loc X.env.scope x) (hf:X.fn x=true\/X.env.scope.names.lookup x=some .local:=by first | exact .inl rfl | exact .inr rfl | assumption):PG X (.Name x pos) (t9 i):=by intro pins s σ H v u Q I r h;exact wpAny_assign_Name (Le I hN hi hx r (fun s' I'=>⟨_,H,I',h⟩) hf)
noncomputable def Ga:TGs:=fun vs σ H Q=>vs=[]/\Q σ H
noncomputable def Y5 (t:TG) (u:TGs):TGs:=fun vs σ H Q=>∃v r,vs=v::r/\t v σ H fun σ' H'=>u r σ' H' Q
theorem pgs_nil:PGs X [] Ga:=by intro pins s σ H vs us Q I r h;obtain ⟨e,h⟩:=h;subst e;cases r;exact assignInOrder_nil ⟨σ,H,I,h⟩
theorem Lc (h1:PG X e t) (h2:PGs X es u)
  (hs:(assignEach (e::es) X.env).map (·.2)=assign e X.env::(assignEach es X.env).map (·.2):=by rfl):PGs X (e::es) (Y5 t u):=by
 intro pins s σ H vs us Q I r h
 obtain ⟨v,vr,e1,h⟩:=h
 subst e1
 cases r with
 | cons r rr=>
  rw [hs]
  refine assignInOrder_cons (thn (h1 pins s σ H _ _ _ I r h) fun _ s1 ⟨σ1,H1,I1,q1⟩=>?_)
  exact h2 pins s1 σ1 H1 _ _ Q I1 rr q1
noncomputable def Fz (K:Frag) (n:Nat) (t:TGs):TG:=fun v σ H Q=>∃a xs,v=.ref a/\SqT K H a xs/\xs.length=n/\t xs σ H Q
theorem Qw (hc:X.calm=true) (h:PGs X es t)
  (hn:(assignEach es X.env).length=n:=by rfl) (hst:(assignEach es X.env).findIdx? (·.1)=none:=by rfl):PG X (.Tuple es k pos) (Fz X.K n t):=by
 intro pins s σ H v u Q I r hw
 obtain ⟨a,xs,e1,hq,hl,hw⟩:=hw
 subst e1
 cases r
 obtain ⟨its,rv,ht,hz⟩:=I.tuple hq
 refine assign_Tuple_tuple (I.ok.hd hc) ht (by simp [hn,<-hl,rv.length]) hst fun h' hx=>?_
 have I1:Inv X pins σ H { s with heap:=h' }:=I.kept (t':=s.toks) fun b o e=>hx b o (Nat.ne_of_lt (Φ e)) e
 exact h pins _ σ H xs _ Q I1 (by simpa using rv) hw
noncomputable def Cd (to ti:TE) (t:S3):TG:=fun v σ H Q=>to σ H fun o H1=>ti σ H1 fun i H2=>t o i v H2 fun H3=>Q σ H3
theorem Jb (ho:PE X o to) (hi:PE X i ti) (hs:Ce X t)
  (ha:∀v,assign (.Subscript o i pos) X.env v=(do
   let ov <-holding [v] (eval o X.env)
   let iv <-holding [v,ov] (eval i X.env)
   standAt pos
   holding [v,ov,iv] (setItem ov iv v)
   release [v,ov,iv] []):=by intro _;rfl):PG X (.Subscript o i pos) (Cd to ti t):=by
 intro pins s σ H v u Q I r h
 rw [ha]
 refine χ (wpAny_holding (thn (ho pins s σ H _ I h) fun ov s1 ⟨x,H1,I1,r1,q1⟩=>?_))
 refine χ (wpAny_holding (thn (hi pins s1 σ H1 _ I1 q1) fun iv s2 ⟨y,H2,I2,r2,q2⟩=>?_))
 refine χ (wpAny_standAt (χ (wpAny_holding (thn (hs pins s2 σ H2 x y v ov iv u _ I2 r1 r2 r q2) fun _ s3 ⟨H3,I3,q3⟩=>?_))))
 exact wpAny_release ⟨σ,H3,I3,q3⟩
noncomputable def C3 (te:TE) (g:TG):TS:=fun D σ H=>te σ H fun x H1=>g x σ H1 D.nx
theorem Ja (he:PE X e te) (hg:PG X tg g) (hs:swapsWithSole [tg] e pos.line X.env=pure false:=by rfl) (hw:swappedStores [tg] e X.env=pure none:=by rfl)
  (h1:(assignEach [tg] X.env).map (·.2)=[assign tg X.env]:=by rfl):PS X (.Assign [tg] e pos) (C3 te g):=by
 intro pins s σ H D I h
 refine wpAny_Assign_stores (thn (he pins s σ H _ I h) fun v s1 ⟨x,H1,I1,r1,q1⟩=>?_) hs hw
 rw [h1]
 exact thn (hg pins s1 σ H1 x v _ I1 r1 q1) fun _ s2 q=>q
theorem Hz (hN:X.N.Nodup) (hi:X.N[i]?=some x) (hx:Loc X.env.scope x) (he:PE X e te) (hs:swapsWith e (some (.Name x pos')) pos.line X.env=pure false:=by rfl) (hf:X.fn x=true\/X.env.scope.names.lookup x=some .local:=by first | exact .inl rfl | exact .inr rfl | assumption) :
  PS X (.Assign [.Name x pos'] e pos) (C3 te (t9 i)):=by
 intro pins s σ H D I h
 refine wpAny_Assign_Name (thn (he pins s σ H _ I h) fun v s1 ⟨y,H1,I1,r1,q1⟩=>?_) hs
 exact Le I1 hN hi hx r1 (fun s2 I2=>⟨_,H1,I2,q1⟩) hf
end
section
variable {X:Cx} {pos:Pos}
noncomputable def Qv (c:TT) (tb:TS):TS:=fun D σ H=>∃W:Nat->St->Hp->Prop,(∃m,W m σ H)/\∀m σ H,W m σ H ->
 c σ H fun b H1=>if b=true then ∃N:St->Hp->Prop,(∀σ' H',N σ' H'->∃m',m'<m/\W m' σ' H')/\tb { D with nx:=N,ct:=N,bk:=D.nx } σ H1 else D.nx σ H1
theorem ye (hp:PassesOwn (model X.prog X.w) X.A X.env X.xe) (hc:PT X c tc) (hb:PSs X body tb):PS X (.While c body [] pos) (Qv tc tb):=by
 intro pins s σ H D I h;obtain ⟨W,⟨m0,w0⟩,turn⟩:=h;refine wpAny_While (codeAny_whileLoop (fun n s'=>∃σ' H',Inv X pins σ' H' s'/\W n σ' H') ?_ m0 ⟨σ,H,I,w0⟩);rintro n s1 ⟨σ1,H1,I1,w1⟩;refine wpAny_passesOwn hp (thn (hc pins s1 σ1 H1 _ I1 (turn n σ1 H1 w1)) fun b s2 ⟨H2,I2,q2⟩=>?_);cases b with
 | true=>
  obtain ⟨N,hN,q2⟩:=q2
  rw [ξ rfl]
  refine wpAny_passesOwn hp (thn (hb pins s2 σ1 H2 _ I2 q2) fun f s3 q3=>?_)
  cases f with
  | next=>
   obtain ⟨σ3,H3,I3,n3⟩:=q3
   obtain ⟨m',hm,w3⟩:=hN σ3 H3 n3
   exact ⟨m',hm,σ3,H3,I3,w3⟩
  | cont=>
   obtain ⟨σ3,H3,I3,n3⟩:=q3
   obtain ⟨m',hm,w3⟩:=hN σ3 H3 n3
   exact ⟨m',hm,σ3,H3,I3,w3⟩
  | brk=>exact q3
  | ret v=>exact q3
 | false=>
  rw [ψ η]
  exact wpAny_execs_nil ⟨σ1,H2,I2,q2⟩
end
structure It where
 go:Nat->Hp->Prop
 yld:Nat->Hp->V->Hp->Prop
 stop:Nat->Hp->Prop
def o6 (X:Cx) (pins:List (Addr×Obj)) (H:Hp) (b:Addr):Prop:=
 H b=none/\b≠X.env.locals/\b∉X.fs/\(b∈X.ex\/X.s₀.heap.objs.size<=b)/\(∀x c,X.env.cells.lookup x=some c->c≠b)/\∀p∈X.pn++pins,p.1≠b
theorem Inv.fpOk (I:Inv X pins σ H s) (hb:s.heap.objs.size<=b) (hn:H' b=none):o6 X pins H' b:=by
 refine ⟨hn,Nat.ne_of_gt (Nat.lt_of_lt_of_le I.lt hb),I.nofs hb,.inr (Nat.le_trans I.sz hb),fun x c e z=>?_,fun p hp z=>?_⟩
 . obtain ⟨v,q⟩:=I.cell x c e;exact absurd (Nat.lt_of_lt_of_le q.lt (by rw [z];exact hb)) (Nat.lt_irrefl _)
 . exact absurd (Nat.lt_of_lt_of_le (Φ (I.pin p hp).1) (by rw [z];exact hb)) (Nat.lt_irrefl _)
structure Turn (P:Program) (w:World) (K:Frag) (tg:Expr) (J:It) (fp:List Addr) (it:Addr) (tn:Nat->Heap->Prop):Prop where
 mem:it∈fp
 obj:∀i h,tn i h->∀b∈fp,∃o,h.get? b=some o/\∀v,o.data≠.cell v
 keep:∀i h h',tn i h->(∀b∈fp,∀o,h.get? b=some o->h'.get? b=some o)->tn i h'
 item:∀(X:Cx),X.prog=P->X.w=w->X.K=K->X.calm=true->∀(i:Nat) (pins:List (Addr×Obj)) (s:Shared) (σ:St) (H:Hp) (E:Value->Shared->Prop),Inv X pins σ H s->(∀b∈fp,o6 X pins H b)->tn i s.heap->J.go i H ->
  wpAny (model P w) X.A (pyNext (.ref it)) (fun r s1=>∃u,r=some u /\
   wpAny (model P w) X.A (letOwnedTupleGo tg (.ref it) u) (fun _ s2=>∃x H',Inv X pins σ H' s2/\RelV x u/\J.yld i H x H'/\tn (i+1) s2.heap/\∀b∈fp,H' b=none) E s1) E s
 done:∀(X:Cx),X.prog=P->X.w=w->X.K=K->X.calm=true->∀(i:Nat) (pins:List (Addr×Obj)) (s:Shared) (σ:St) (H:Hp) (E:Value->Shared->Prop),Inv X pins σ H s->(∀b∈fp,o6 X pins H b)->tn i s.heap->J.stop i H ->
  wpAny (model P w) X.A (pyNext (.ref it)) (fun r s1=>r=none/\Inv X pins σ H s1) E s
 self:∀(A:Around) (i:Nat) (s:Shared) (Q:Value->Shared->Prop) (E:Value->Shared->Prop),tn i s.heap->Q (.ref it) s->wpAny (model P w) A (pyIter (.ref it)) Q E s
abbrev TI:=St->Hp->(It->Hp->Prop)->Prop
def PIE (X:Cx) (pins:List (Addr×Obj)) (σ:St) (tg:Expr) (R:It->Hp->Prop) (itv:Value) (s2:Shared):Prop:=
 ∃(it:Addr) (fp:List Addr) (tn:Nat->Heap->Prop) (J:It) (H':Hp),itv=.ref it/\Inv X pins σ H' s2/\Turn X.prog X.w X.K tg J fp it tn/\tn 0 s2.heap/\(∀b∈fp,o6 X pins H' b)/\R J H'
def PI (X:Cx) (tg iter:Expr) (wi:TI):Prop:=
 ∀(pins:List (Addr×Obj)) (s:Shared) (σ:St) (H:Hp) (R:It->Hp->Prop),Inv X pins σ H s->wi σ H R ->
  wpAny (model X.prog X.w) X.A (eval iter X.env) (fun v s1=>wpAny (model X.prog X.w) X.A (pyIter v) (PIE X pins σ tg R) X.xe s1) X.xe s
theorem Ou (ho:s.heap.get? it=some o) (hc:o.cls=.type n) (hd:o.data=.fields vs)
  (hn:["enumerate","zip","dict_itemiterator","dict_reverseitemiterator","odict_iterator","itertools.zip_longest","itertools.pairwise"].contains n=false) (hQ:Q () s):wpAny M A (letOwnedTupleGo tg (.ref it) u) Q E s:=by
 unfold letOwnedTupleGo
 cases tg<;>first
  | exact ω hQ
  | (cases u<;>first
   | exact ω hQ
   | (refine χ (wpAny_load ho ?_)
      rw [hc,hd]
      show wpAny M A (if (["enumerate","zip","dict_itemiterator","dict_reverseitemiterator","odict_iterator","itertools.zip_longest","itertools.pairwise"].contains n&&vs[0]?==some (rawInt _))=true then _ else _) Q E s
      rw [ψ (by intro h;rw [hn,Bool.false_and] at h;cases h)]
      exact ω hQ))
noncomputable def Itl (K:Frag) (a:Addr):It:=
 ⟨fun i H=>∃xs x,SqL K H a xs/\xs[i]?=some x,fun i H x H'=>H'=H/\∀xs,SqL K H a xs->xs[i]?=some x,fun i H=>∃xs,SqL K H a xs/\xs.length<=i⟩
noncomputable def Itt (K:Frag) (a:Addr):It:=
 ⟨fun i H=>∃xs x,SqT K H a xs/\xs[i]?=some x,fun i H x H'=>H'=H/\∀xs,SqT K H a xs->xs[i]?=some x,fun i H=>∃xs,SqT K H a xs/\xs.length<=i⟩
theorem yP {P:Program} {w:World} {K:Frag} {tg:Expr} (a it:Addr):Turn P w K tg (Itl K a) [it] it (fun i h=>h.IsListIter it a i) where
 mem:=by simp
 obj:=fun i h st b hb=>by
  have e:b=it:=by simpa using hb
  subst e;obtain ⟨o,e,c,d⟩:=st;exact ⟨o,e,fun v z=>by rw [d] at z;cases z⟩
 keep:=fun i h h' st k=>st.at fun o e=>k it (by simp) o e
 item:=by
  intro X hP hw hK hc i pins s σ H E I hf st hg;subst hP hw hK;obtain ⟨xs,x,hq,hx⟩:=hg;obtain ⟨its,rv,p,hz⟩:=I.list hq;obtain ⟨u,hu,ru⟩:=rv.get hx;obtain ⟨f0,f1,f2,f3,f4,f5⟩:=hf it (by simp);refine wpAny_pyNext_list_item st p.isList (x:=u) (by simpa using hu) fun h' st' sb=>?_
  have I1:Inv X pins σ H { s with heap:=h' }:=I.turned (t':=s.toks) (fun b o hb e=>(sb.2 b hb).trans e) f0 f1 f3 f4 f5;obtain ⟨o,e,c,d⟩:=id st';exact ⟨u,rfl,Ou (s:={ s with heap:=h' }) e c d (by decide) ⟨x,H,I1,ru,⟨rfl,fun ys hy=>by rw [I.list_inj hy hq];exact hx⟩,st',fun b hb=>(hf b hb).1⟩⟩
 done:=by intro X hP hw hK hc i pins s σ H E I hf st hg;subst hP hw hK;obtain ⟨xs,hq,hx⟩:=hg;obtain ⟨its,rv,p,hz⟩:=I.list hq;obtain ⟨f0,f1,f2,f3,f4,f5⟩:=hf it (by simp);have hl:=rv.length;exact wpAny_pyNext_list_end (I.ok.hd hc) st p.isList (by simp;lia) fun h' eb=>⟨rfl,I.turned (t':=s.toks) (fun b o hb e=>eb b o hb e) f0 f1 f3 f4 f5⟩
 self:=fun _ _ _ _ _ st h=>wpAny_pyIter_listiter st h
theorem zn {P:Program} {w:World} {K:Frag} {tg:Expr} (a it:Addr):Turn P w K tg (Itt K a) [it] it (fun i h=>h.IsTupleIter it a i) where
 mem:=by simp
 obj:=fun i h st b hb=>by
  have e:b=it:=by simpa using hb
  subst e;obtain ⟨o,e,c,d⟩:=st;exact ⟨o,e,fun v z=>by rw [d] at z;cases z⟩
 keep:=fun i h h' st k=>st.at fun o e=>k it (by simp) o e
 item:=by
  intro X hP hw hK hc i pins s σ H E I hf st hg;subst hP hw hK;obtain ⟨xs,x,hq,hx⟩:=hg;obtain ⟨its,rv,p,hz⟩:=I.tuple hq;obtain ⟨u,hu,ru⟩:=rv.get hx;obtain ⟨f0,f1,f2,f3,f4,f5⟩:=hf it (by simp);refine wpAny_pyNext_tuple_item st (show s.heap.IsTuple a its.toArray from p) (x:=u) (by simpa using hu) fun h' st' sb=>?_
  have I1:Inv X pins σ H { s with heap:=h' }:=I.turned (t':=s.toks) (fun b o hb e=>(sb.2 b hb).trans e) f0 f1 f3 f4 f5;obtain ⟨o,e,c,d⟩:=id st';exact ⟨u,rfl,Ou (s:={ s with heap:=h' }) e c d (by decide) ⟨x,H,I1,ru,⟨rfl,fun ys hy=>by rw [I.tuple_inj hy hq];exact hx⟩,st',fun b hb=>(hf b hb).1⟩⟩
 done:=by intro X hP hw hK hc i pins s σ H E I hf st hg;subst hP hw hK;obtain ⟨xs,hq,hx⟩:=hg;obtain ⟨its,rv,p,hz⟩:=I.tuple hq;obtain ⟨f0,f1,f2,f3,f4,f5⟩:=hf it (by simp);have hl:=rv.length;exact wpAny_pyNext_tuple_end (I.ok.hd hc) st (show s.heap.IsTuple a its.toArray from p) (by simp;lia) fun h' eb=>⟨rfl,I.turned (t':=s.toks) (fun b o hb e=>eb b o hb e) f0 f1 f3 f4 f5⟩
 self:=fun _ _ _ _ _ st h=>wpAny_pyIter_tupleiter st h
section
variable {X:Cx} {tg:Expr}
noncomputable def y1w (wi:TI) (g:TG) (tb:TS):TS:=fun D σ H=>wi σ H fun J H1=>∃W:Nat->Nat->St->Hp->Prop,(∃m,W 0 m σ H1)/\∀i m σ H,W i m σ H ->
 (J.stop i H/\D.nx σ H)\/(J.go i H/\∃N:St->Hp->Prop,(∀σ' H',N σ' H'->∃m',m'<m/\W (i+1) m' σ' H')/\∀x H',J.yld i H x H'->g x σ H' fun σ2 H2=>tb { D with nx:=N,ct:=N,bk:=D.nx } σ2 H2)
noncomputable def Z4 (fp:List Addr) (h:Heap):List (Addr×Obj):=fp.filterMap fun b=>(h.get? b).map fun o=>(b,o)
theorem Eh (hb:b∈fp) (e:h.get? b=some o):(b,o)∈Z4 fp h:=List.mem_filterMap.mpr ⟨b,hb,by rw [e];rfl⟩
theorem yO (hp:p∈Z4 fp h):p.1∈fp/\h.get? p.1=some p.2:=by
 obtain ⟨b,hb,e⟩:=List.mem_filterMap.mp hp;cases q:h.get? b with
 | none=>rw [q] at e;cases e
 | some o=>
  rw [q] at e
  have e':(b,o)=p:=Option.some.inj e
  subst e'
  exact ⟨hb,q⟩
theorem Inv.pinned (I:Inv X pins σ H s) (hf:∀b∈fp,o6 X pins H b) (ho:∀b∈fp,∃o,s.heap.get? b=some o/\∀v,o.data≠.cell v):Inv X (pins++Z4 fp s.heap) σ H s:=
 I.pins_of fun p hp=>(List.mem_append.mp hp).elim (fun z=>I.pin p (List.mem_append_right _ z)) fun z=>by obtain ⟨hb,e⟩:=yO z;obtain ⟨f0,f1,f2,_⟩:=hf p.1 hb;obtain ⟨o,e',d⟩:=ho p.1 hb;rw [e] at e';cases e';exact ⟨e,f0,f1,f2,d⟩
theorem Inv.unpinned (I:Inv X (pins++pl) σ H s):Inv X pins σ H s:=I.pins_of fun p hp=>I.pin p (List.mem_append_right _ (List.mem_append_left _ hp))
theorem vh (hp:PassesOwn (model X.prog X.w) X.A X.env X.xe) (hc:X.calm=true) (hi:PI X tg iter wi) (hg:PG X tg g) (hb:PSs X body tb)
  (hs:∀x,foldedSetIterable iter X.env x=pure x:=by intro _;rfl):PS X (.For tg iter body [] pos) (y1w wi g tb):=by
 intro pins s σ H D I h
 refine wpAny_For (thn (hi pins s σ H _ I h) fun v s1 h1=>thn h1 fun itv s2 h2=>?_) hs
 obtain ⟨it,fp,tn,J,H2,e,I2,T,st2,f2,W,⟨m0,w0⟩,turn⟩:=h2
 subst e
 have stat:∀{H':Hp},(∀b∈fp,H' b=none)->∀b∈fp,o6 X pins H' b:=fun hn b hb=>⟨hn b hb,(f2 b hb).2⟩
 refine codeAny_forLoop_any (fun n s'=>∃i σ' H',Inv X pins σ' H' s'/\tn i s'.heap/\(∀b∈fp,H' b=none)/\W i n σ' H') ?_ m0 ⟨0,σ,H2,I2,st2,fun b hb=>(f2 b hb).1,w0⟩
 rintro n s3 ⟨i,σ3,H3,I3,st3,fr3,w3⟩
 rcases turn i n σ3 H3 w3 with ⟨stop,qn⟩ | ⟨go,N,hN,step⟩
 . refine wpAny_passesOwn hp (thn (T.done X rfl rfl rfl hc i pins s3 σ3 H3 X.xe I3 (stat fr3) st3 stop) fun r s4 ⟨hr,I4⟩=>?_);subst hr;exact wpAny_execs_nil ⟨σ3,H3,I4,qn⟩
 . refine wpAny_passesOwn hp (thn (T.item X rfl rfl rfl hc i pins s3 σ3 H3 X.xe I3 (stat fr3) st3 go) fun r s4 ⟨u,hr,h4⟩=>?_);subst hr;refine wpAny_passesOwn hp (thn h4 fun _ s5 ⟨x,H5,I5,r5,y5,st5,fr5⟩=>?_);have I5':=I5.pinned (stat fr5) (T.obj _ _ st5);refine wpAny_passesOwn hp (thn (hg _ s5 σ3 H5 x u _ I5' r5 (step x H5 y5)) fun _ s6 ⟨σ6,H6,I6,q6⟩=>?_);refine wpAny_passesOwn hp (thn (hb _ s6 σ6 H6 _ I6 q6) fun f s7 q7=>?_);have again:∀{σ7:St} {H7:Hp},Inv X (pins++Z4 fp s5.heap) σ7 H7 s7->N σ7 H7->∃m,m<n/\∃i σ' H',Inv X pins σ' H' s7/\tn i s7.heap/\(∀b∈fp,H' b=none)/\W i m σ' H':=fun {σ7 H7} I7 n7=>by obtain ⟨m',hm,w7⟩:=hN σ7 H7 n7;refine ⟨m',hm,i+1,σ7,H7,I7.unpinned,T.keep _ _ _ st5 fun b hb o e=>(I7.pin (b,o) (List.mem_append_right _ (List.mem_append_right _ (Eh hb e)))).1,fun b hb=>?_,w7⟩;obtain ⟨o,e,d⟩:=T.obj _ _ st5 b hb;exact (I7.pin (b,o) (List.mem_append_right _ (List.mem_append_right _ (Eh hb e)))).2.1
   cases f with
   | next=>obtain ⟨σ7,H7,I7,n7⟩:=q7;exact again I7 n7
   | cont=>obtain ⟨σ7,H7,I7,n7⟩:=q7;exact again I7 n7
   | brk=>obtain ⟨σ7,H7,I7,q7⟩:=q7;exact ⟨σ7,H7,I7.unpinned,q7⟩
   | ret v=>obtain ⟨x7,σ7,H7,I7,r7,q7⟩:=q7;exact ⟨x7,σ7,H7,I7.unpinned,r7,q7⟩
end
abbrev R2:=V->V->Hp->VK->Prop
def OpR (X:Cx) (f:Value->Value->Sem Value) (r:R2):Prop:=
 ∀(pins:List (Addr×Obj)) (s:Shared) (σ:St) (H:Hp) (x y:V) (v u:Value) (Q:VK),Inv X pins σ H s->RelV x v->RelV y u->r x y H Q ->
  wpAny (model X.prog X.w) X.A (f v u) (EP X pins σ Q) X.xe s
def UnR (X:Cx) (f:Value->Sem Value) (r:V->Hp->VK->Prop):Prop:=
 ∀(pins:List (Addr×Obj)) (s:Shared) (σ:St) (H:Hp) (x:V) (v:Value) (Q:VK),Inv X pins σ H s->RelV x v->r x H Q ->
  wpAny (model X.prog X.w) X.A (f v) (EP X pins σ Q) X.xe s
def CallR (X:Cx) (f:Value) (r:List V->Hp->VK->Prop):Prop:=
 ∀(pins:List (Addr×Obj)) (s:Shared) (σ:St) (H:Hp) (xs:List V) (us:List Value) (Q:VK),Inv X pins σ H s->Vals xs us->r xs H Q ->
  wpAny (model X.prog X.w) X.A (call f us) (EP X pins σ Q) X.xe s
def y1x (X:Cx) (r:V->Hp->(Bool->Hp->Prop)->Prop):Prop:=
 ∀(pins:List (Addr×Obj)) (s:Shared) (σ:St) (H:Hp) (x:V) (v:Value) (Q:Bool->Hp->Prop),Inv X pins σ H s->RelV x v->r x H Q ->
  wpAny (model X.prog X.w) X.A (truthy v) (TP X pins σ Q) X.xe s
noncomputable def tOp (r:R2) (ta tb:TE):TE:=fun σ H Q=>ta σ H fun x H1=>tb σ H1 fun y H2=>r x y H2 Q
noncomputable def tUn (r:V->Hp->VK->Prop) (ta:TE):TE:=fun σ H Q=>ta σ H fun x H1=>r x H1 Q
noncomputable def rI (C:Int->Int->Prop) (g:Int->Int->V):R2:=fun x y H Q=>∃i j,x=.int i/\y=.int j/\C i j/\Q (g i j) H
noncomputable def rI0 (g:Int->Int->V):R2:=fun x y H Q=>∃i j,x=.int i/\y=.int j/\Q (g i j) H
def rU (g:Int->V):V->Hp->VK->Prop:=fun x H Q=>∃i,x=.int i/\Q (g i) H
section
variable {X:Cx} {a b:Expr} {ta tb:TE} {pos:Pos}
theorem Fy (ha:PE X a ta) (hb:PE X b tb) {pins:List (Addr×Obj)} {s:Shared} {σ:St} {H:Hp} {R:V->V->Hp->Prop} (I:Inv X pins σ H s)
  (h:ta σ H fun x H1=>tb σ H1 fun y H2=>R x y H2) {Q:Value->Shared->Prop} {f:Value->Value->Sem Value}
  (hf:∀v u s2 x y H2,Inv X pins σ H2 s2->RelV x v->RelV y u->R x y H2->wpAny (model X.prog X.w) X.A (f v u) Q X.xe s2) :
  wpAny (model X.prog X.w) X.A (eval a X.env) (fun v s₁=>wpAny (model X.prog X.w) X.A (eval b X.env) (fun u s₂=>wpAny (model X.prog X.w) X.A (f v u) Q X.xe s₂) X.xe s₁) X.xe s:=by
 refine thn (ha pins s σ H _ I h) fun v s1 ⟨x,H1,I1,r1,q1⟩=>?_
 refine thn (hb pins s1 σ H1 _ I1 q1) fun u s2 ⟨y,H2,I2,r2,q2⟩=>?_
 exact hf v u s2 x y H2 I2 r1 r2 q2
theorem jQ (ho:OpR X (binaryOp op) r) (ha:PE X a ta) (hb:PE X b tb):PE X (.BinOp a op b pos) (tOp r ta tb):=by intro pins s σ H Q I h;exact wpAny_BinOp (Fy ha hb I h fun v u s2 x y H2 I2 rx ry q=>ho pins s2 σ H2 x y v u Q I2 rx ry q)
theorem jP (ho:UnR X (unaryOp op) r) (ha:PE X a ta):PE X (.UnaryOp op a pos) (tUn r ta):=by intro pins s σ H Q I h;exact UnaryOp_ (thn (ha pins s σ H _ I h) fun v s1 ⟨x,H1,I1,r1,q1⟩=>ho pins s1 σ H1 x v Q I1 r1 q1)
theorem opI {f:Value->Value->Sem Value} {C:Int->Int->Prop} {g:Int->Int->Int}
  (rule:∀(i j:Int) (t u:Tok) (s:Shared) (Q:Value->Shared->Prop) (E:Value->Shared->Prop),C i j->Q (.int (g i j) s.toks) { s with toks:=s.toks+1 }->wpAny (model X.prog X.w) X.A (f (.int i t) (.int j u)) Q E s) :
  OpR X f (rI C fun i j=>.int (g i j)):=by
 intro pins s σ H x y v u Q I rx ry h
 obtain ⟨i,j,rfl,rfl,hc,q⟩:=h
 obtain ⟨t,rfl⟩:=rx
 obtain ⟨t',rfl⟩:=ry
 exact rule i j t t' s _ _ hc ⟨.int (g i j),H,I.tok _,⟨_,rfl⟩,q⟩
theorem Zn {f:Value->Value->Sem Value} {g:Int->Int->Int}
  (rule:∀(i j:Int) (t u:Tok) (s:Shared) (Q:Value->Shared->Prop) (E:Value->Shared->Prop),Q (.int (g i j) s.toks) { s with toks:=s.toks+1 }->wpAny (model X.prog X.w) X.A (f (.int i t) (.int j u)) Q E s) :
  OpR X f (rI0 fun i j=>.int (g i j)):=by
 intro pins s σ H x y v u Q I rx ry h
 obtain ⟨i,j,rfl,rfl,q⟩:=h
 obtain ⟨t,rfl⟩:=rx
 obtain ⟨t',rfl⟩:=ry
 exact rule i j t t' s _ _ ⟨.int (g i j),H,I.tok _,⟨_,rfl⟩,q⟩
theorem Cb {f:Value->Value->Sem Value} {g:Int->Int->Bool}
  (rule:∀(i j:Int) (t u:Tok) (s:Shared) (Q:Value->Shared->Prop) (E:Value->Shared->Prop),Q (.bool (g i j)) s->wpAny (model X.prog X.w) X.A (f (.int i t) (.int j u)) Q E s) :
  OpR X f (rI0 fun i j=>.bl (g i j)):=by
 intro pins s σ H x y v u Q I rx ry h
 obtain ⟨i,j,rfl,rfl,q⟩:=h
 obtain ⟨t,rfl⟩:=rx
 obtain ⟨t',rfl⟩:=ry
 exact rule i j t t' s _ _ ⟨.bl (g i j),H,I,rfl,q⟩
def O6 (i j:Int):Prop:=0<j/\j<1073741824
def CMul (i j:Int):Prop:=(-(2 ^ 64)<i/\i<2 ^ 64)\/(-(2 ^ 64)<j/\j<2 ^ 64)
theorem CMul.ok (h:CMul i j):IntMulOk i j:=by
 rcases h with ⟨h1,h2⟩ | ⟨h1,h2⟩
 . exact .of_left (intBits_le_64 h1 h2)
 . exact .of_right (intBits_le_64 h1 h2)
theorem op_add:OpR X (binaryOp .Add) (rI0 fun i j=>.int (i+j)):=Zn fun _ _ _ _ _ _ _ q=>add_int q
theorem op_sub:OpR X (binaryOp .Sub) (rI0 fun i j=>.int (i - j)):=Zn fun _ _ _ _ _ _ _ q=>sub_int q
theorem op_mul:OpR X (binaryOp .Mult) (rI CMul fun i j=>.int (i * j)):=opI fun _ _ _ _ _ _ _ hc q=>mul_int q hc.ok
theorem op_fdiv:OpR X (binaryOp .FloorDiv) (rI O6 fun i j=>.int (i / j)):=opI fun i j _ _ _ _ _ hc q=>by have h1:(0:Int)<j:=hc.1;have h2:j<1073741824:=hc.2;exact floordiv_int (by omega) (by rw [Int.fdiv_eq_ediv_of_nonneg i (by omega)];exact q) (.inl (PyProof.noPylong_small (by omega)))
theorem op_mod:OpR X (binaryOp .Mod) (rI (fun _ j=>0<j) fun i j=>.int (i % j)):=opI fun i j _ _ _ _ _ hc q=>by have h1:(0:Int)<j:=hc;exact mod_int' (by lia) (by rw [Int.fmod_eq_emod_of_nonneg i (by lia)];exact q)
theorem unI {f:Value->Sem Value} {g:Int->Int}
  (rule:∀(i:Int) (t:Tok) (s:Shared) (Q:Value->Shared->Prop) (E:Value->Shared->Prop),Q (.int (g i) s.toks) { s with toks:=s.toks+1 }->wpAny (model X.prog X.w) X.A (f (.int i t)) Q E s) :
  UnR X f (rU fun i=>.int (g i)):=by
 intro pins s σ H x v Q I rx h
 obtain ⟨i,rfl,q⟩:=h
 obtain ⟨t,rfl⟩:=rx
 exact rule i t s _ _ ⟨.int (g i),H,I.tok _,⟨_,rfl⟩,q⟩
theorem un_neg:UnR X (unaryOp .USub) (rU fun i=>.int (-i)):=unI fun _ _ _ _ _ q=>neg_int q
end
section
variable {X:Cx} {a b:Expr} {ta tb:TE} {pos:Pos}
theorem Qu (I:Inv X pins σ H s) (q:Q (.bl k) H) (e:k=k'):EP X pins σ Q (.bool k') s:=by subst e;exact ⟨.bl k,H,I,rfl,q⟩
theorem op_lt:OpR X (compareOp .Lt) (rI0 fun i j=>.bl (decide (i<j))):=Cb fun _ _ _ _ _ _ _ q=>lt_int q
theorem op_le:OpR X (compareOp .LtE) (rI0 fun i j=>.bl (decide (i<=j))):=Cb fun _ _ _ _ _ _ _ q=>le_int q
theorem op_gt:OpR X (compareOp .Gt) (rI0 fun i j=>.bl (decide (j<i))):=Cb fun _ _ _ _ _ _ _ q=>gt_int q
theorem op_ge:OpR X (compareOp .GtE) (rI0 fun i j=>.bl (decide (j<=i))):=Cb fun _ _ _ _ _ _ _ q=>ge_int q
theorem OpR.or (h:OpR X f r) (h':OpR X f r'):OpR X f (fun x y H Q=>r x y H Q\/r' x y H Q):=by
 intro pins s σ H x y v u Q I rx ry q;rcases q with q | q
 . exact h pins s σ H x y v u Q I rx ry q
 . exact h' pins s σ H x y v u Q I rx ry q
theorem g8 (b:Expr) (h:op≠.In:=by decide) (h2:op≠.NotIn:=by decide):behindInMarks op b=false:=by
 have e1:(op==CmpOp.In)=false:=by cases op<;>first | rfl | exact absurd rfl h
 have e2:(op==CmpOp.NotIn)=false:=by cases op<;>first | rfl | exact absurd rfl h2
 cases b<;>simp [behindInMarks,e1,e2]
theorem wR (ho:OpR X (compareOp op) r) (ha:PE X a ta) (hb:PE X b tb) (hm:behindInMarks op b=false):PE X (.Compare a [op] [b] pos) (tOp r ta tb):=by intro pins s σ H Q I h;exact wpAny_Compare1 (Fy ha hb I h fun v u s2 x y H2 I2 rx ry q=>ho pins s2 σ H2 x y v u Q I2 rx ry q) hm
def Zm (K:Frag) (x:V) (H:Hp) (k:Bool):Prop:=
 match x with
 | .non=>k=false
 | .bl b=>k=b
 | .int i=>k=(i != 0)
 | .str y=>y.length<=sizeLine/\k=((y.length:Int) != 0)
 | .byt y=>y.size<=sizeLine/\k=((y.size:Int) != 0)
 | .ref p=>(∃xs,SqL K H p xs/\k=!xs.isEmpty)\/(∃xs,SqT K H p xs/\k=!xs.isEmpty)\/∃kvs,H p=some (.dK kvs)/\k=!kvs.isEmpty
 | _=>False
theorem zm (r:KV kvs vs):(!vs.isEmpty)=!kvs.isEmpty:=by cases r<;>rfl
theorem Wk (r:Vals xs its):(!its.toArray.isEmpty)=!xs.isEmpty:=by cases r<;>simp
theorem P8:(sizeLine:Nat)<2 ^ 63:=by rw [sizeLine_eq];decide
theorem Qt:y1x X (fun x H Q=>∃k,Zm X.K x H k/\Q k H):=by
 intro pins s σ H x v Q I rx h;obtain ⟨k,e,q⟩:=h;have hl:=P8;have hs:sizeLine=16777216:=sizeLine_eq;cases x with
 | non=>
  cases rx
  have e':k=false:=e
  subst e'
  exact truthy_none ⟨H,I,q⟩
 | bl b=>
  cases rx
  have e':k=b:=e
  subst e'
  exact wpAny_truthy_bool ⟨H,I,q⟩
 | int i=>
  obtain ⟨t,rfl⟩:=rx
  have e':k=(i != 0):=e
  subst e'
  exact PySem.P.truthy_int ⟨H,I,q⟩
 | str y=>
  obtain ⟨t,rfl⟩:=rx
  obtain ⟨hy,e'⟩:y.length<=sizeLine/\k=((y.length:Int) != 0):=e
  subst e'
  exact PySem.P.truthy_str (by lia) ⟨H,I.tok _,q⟩
 | byt y=>
  obtain ⟨t,rfl⟩:=rx
  obtain ⟨hy,e'⟩:y.size<=sizeLine/\k=((y.size:Int) != 0):=e
  subst e'
  exact PySem.W.truthy_bytes (by lia) ⟨H,I.tok _,q⟩
 | ref p=>
  cases rx
  have e':(∃xs,SqL X.K H p xs/\k=!xs.isEmpty)\/(∃xs,SqT X.K H p xs/\k=!xs.isEmpty)\/∃kvs,H p=some (.dK kvs)/\k=!kvs.isEmpty:=e
  rcases e' with ⟨xs,hx,e'⟩ | ⟨xs,hx,e'⟩ | ⟨kvs,hx,e'⟩
  . subst e';obtain ⟨its,r,pl,hz⟩:=I.list hx;have hlen:=r.length;exact wpAny_truthy_list pl.isList (by simp only [List.size_toArray];lia) ⟨H,I.tok _,by rw [Wk r];exact q⟩
  . subst e';obtain ⟨its,r,pl,hz⟩:=I.tuple hx;have hlen:=r.length;exact truthy_tuple pl (by simp only [List.size_toArray];lia) ⟨H,I.tok _,by rw [Wk r];exact q⟩
  . subst e';obtain ⟨hz,hS,vs,r,m⟩:kvs.length<=sizeLine/\(p==sysModules)=false/\∃vs,KV kvs vs/\s.heap.DictOf (x3 X.prog X.w) p vs:=I.hok p _ hx;have hlen:kvs.length=vs.length:=Paired.length r;exact wpAny_truthy_dict hS m (by lia) ⟨H,I.tok _,by rw [zm r];exact q⟩
 | _=>exact (show False from e).elim
theorem D4 (r:Vals [x] us):∃u,us=[u]/\RelV x u:=by
 cases r with
 | cons r1 r2=>cases r2;exact ⟨_,rfl,r1⟩
theorem jO (r:Vals [x,y] us):∃u w',us=[u,w']/\RelV x u/\RelV y w':=by
 cases r with
 | cons r1 r2=>
  cases r2 with
  | cons r3 r4=>cases r4;exact ⟨_,_,rfl,r1,r3⟩
end
structure ObjM (h:Heap) (x dx C:Addr) (mA:Str->Option Value):Prop where
 obj:h.get? x=some (PySem.W.instObj C dx)
 ns:h.Ns1 dx mA
 ne:dx≠x
theorem yN {h:Heap} {dx:Addr} {mA:Str->Option Value} (n:h.Ns1 dx mA):∃od,h.get? dx=some od/\∀name,PySem.W.lookIn name od=some (mA name):=by
 obtain ⟨o,es,ep,ho,hd,hk,_,hm⟩:=n;refine ⟨o,ho,fun name=>?_⟩;have e:=hm name;unfold nsFind findBy at e;rw [<-Array.find?_toList] at e;unfold PySem.W.lookIn;rw [hd];dsimp only;split
 . rename_i y q;rw [q] at e;exact congrArg some e
 . rename_i q;rw [q] at e;have a:es.toList.any (·.refKey)=false:=by rw [List.any_eq_false];intro y hy;obtain ⟨z,t,hkey⟩:=hk y (Array.mem_toList_iff.mp hy);simp [DictEntry.refKey,hkey]
   have a':¬es.toList.any (·.refKey)=true:=by rw [a];exact η
   rw [ψ a'];exact congrArg some e
theorem ObjM.look (I:ObjM h x dx C mA):∃od,PySem.W.InstAt h x (PySem.W.instObj C dx) C (some od)/\∀name,PySem.W.lookIn name od=some (mA name):=
 let ⟨od,ho,hl⟩:=yN I.ns
 ⟨od,⟨I.obj,rfl,rfl,ho⟩,hl⟩
theorem RelO.some_of (r:RelO (some v) o):∃u,o=some u/\RelV v u:=by
 cases o with
 | none=>exact (show False from r).elim
 | some u=>exact ⟨u,rfl,r⟩
section
variable {P:Program} {w:World} {H:Hp} {h:Heap} {a C dx:Addr} {fs:List (Str×V)}
theorem wQ (hok:HOk P w H h) (e:H a=some (.ins C dx fs)):∃mA,ObjM h a dx C mA/\(∀f,RelO (fs.lookup f) (mA f))/\PySem.Within mA (fs.map (·.1))/\fs.length<=1000/\H dx=some (.own a):=by obtain ⟨d,z,ne,ob,mA,n,r,q⟩:=(show ObjOk P w H h a (.ins C dx fs) from hok a _ e);exact ⟨mA,⟨ob,n,ne⟩,r,q,z,d⟩
end
structure Cls (K:Frag) (C:Addr):Prop where
 pg:PySem.W.plainGet K C Str.empty=true
 hd:PySem.W.hasDictIn K C=true
 po:PySem.W.plainOver K C=true
 sa:PySem.W.findIn K (.ref C) "__setattr__"=some (some (.builtin "object.__setattr__"))
theorem Cls.get {K:Frag} {C:Addr} (c:Cls K C) (f:Str):PySem.W.plainGet K C f=true:=c.pg
section
variable {X:Cx} {pins:List (Addr×Obj)} {σ:St} {H:Hp} {s:Shared} {A:Around} {E:Value->Shared->Prop} {Q:Value->Shared->Prop} {c:Value} {b:Bool}
inductive TyOf (K:Frag) (H:Hp):V->Value->Prop where
 | non:TyOf K H .non (.type "NoneType")
 | bl (x:Bool):TyOf K H (.bl x) (.type "bool")
 | int (i:Int):TyOf K H (.int i) (.type "int")
 | str (x:Str):TyOf K H (.str x) (.type "str")
 | flt (x:UInt64):TyOf K H (.flt x) (.type "float")
 | lst {a:Addr} {xs:List V} (e:H a=some (.lst xs)):TyOf K H (.ref a) (.type "list")
 | frz {a:Addr} {o:Obj} {xs:List V} (e:H a=some (.frz o (.lst xs))):TyOf K H (.ref a) (.type "list")
 | tup {a:Addr} {xs:List V} (e:H a=some (.tup xs)):TyOf K H (.ref a) (.type "tuple")
 | dK {a:Addr} {kvs:List (Key×V)} (e:H a=some (.dK kvs)):TyOf K H (.ref a) (.type "dict")
 | dT {a:Addr} {kvs:List (List Key×V)} (e:H a=some (.dT kvs)):TyOf K H (.ref a) (.type "dict")
 | ins {a C dx:Addr} {fs:List (Str×V)} (e:H a=some (.ins C dx fs)) (cl:Cls K C) (ha:PySem.W.findIn K (.ref C) "__class__"=some (some (.builtin "object.__class__")))
  (hn:PySem.W.specialIn K (.builtin "object.__class__") "__get__"=some (some (.builtin "getset_descriptor.__get__"))) (htk:PySem.W.takesIn K (.builtin "object.__class__")=some true)
  (hm:mroIn K C (.type "object")=some true):TyOf K H (.ref a) (.ref C)
theorem K0 (I:Inv X pins σ H s) (rx:RelV x u) (ty:TyOf X.K H x t) (e:kitOne X.K t c=some b) (h:∀tk,Q (.bool b) { s with toks:=tk }) :
  wpAny (model X.prog X.w) A (call (.builtin "isinstance") [u,c]) Q E s:=by
 cases ty with
 | non=>cases (show u=Value.none from rx);exact kia_one PySem.W.kitx_none I.kIn True.intro e (fun z=>nomatch z) h
 | bl y=>cases (show u=Value.bool y from rx);exact kia_one PySem.W.kitx_bool I.kIn True.intro e (fun z=>nomatch z) h
 | int i=>obtain ⟨t,q⟩:=(show ∃t,u=Value.int i t from rx);cases q;exact kia_one PySem.W.kitx_int I.kIn True.intro e (fun z=>nomatch z) h
 | str y=>obtain ⟨t,q⟩:=(show ∃t,u=Value.str y t from rx);cases q;exact kia_one PySem.W.kitx_str I.kIn True.intro e (fun z=>nomatch z) h
 | flt y=>obtain ⟨t,q⟩:=(show ∃t,u=Value.float y t from rx);cases q;exact kia_one PySem.W.kitx_float I.kIn True.intro e (fun z=>nomatch z) h
 | @lst a xs ea=>
  cases (show u=Value.ref a from rx)
  obtain ⟨_,_,n,_,h1⟩:=(show ObjOk X.prog X.w H s.heap a (.lst xs) from I.hok a _ ea)
  exact kia_one PySem.W.kitx_list I.kIn ⟨_,h1,rfl⟩ e (fun z=>nomatch z) h
 | @frz a ob xs ea=>
  cases (show u=Value.ref a from rx)
  obtain ⟨_,_,_,n,_,h1⟩:=(show ObjOk X.prog X.w H s.heap a (.frz ob (.lst xs)) from I.hok a _ ea)
  exact kia_one PySem.W.kitx_list I.kIn ⟨_,h1,rfl⟩ e (fun z=>nomatch z) h
 | @tup a xs ea=>
  cases (show u=Value.ref a from rx)
  obtain ⟨_,_,_,p⟩:=(show ObjOk X.prog X.w H s.heap a (.tup xs) from I.hok a _ ea)
  obtain ⟨o,h1,h2,_⟩:=p
  exact kia_one PySem.W.kitx_tuple I.kIn ⟨o,h1,h2⟩ e (fun z=>nomatch z) h
 | @dK a kvs ea=>
  cases (show u=Value.ref a from rx)
  obtain ⟨_,_,vs,_,p⟩:=(show ObjOk X.prog X.w H s.heap a (.dK kvs) from I.hok a _ ea)
  obtain ⟨o,es,ep,h1,h2,_⟩:=p
  exact kia_one PySem.W.kitx_dict I.kIn ⟨o,h1,h2.1⟩ e (fun z=>nomatch z) h
 | @dT a kvs ea=>
  cases (show u=Value.ref a from rx)
  obtain ⟨_,_,xs,_,o,es,ep,h1,h2,_⟩:=(show ObjOk X.prog X.w H s.heap a (.dT kvs) from I.hok a _ ea)
  exact kia_one PySem.W.kitx_dict I.kIn ⟨o,h1,h2.1⟩ e (fun z=>nomatch z) h
 | @ins a C dx fs ea cl ha hn htk hm=>
  cases (show u=Value.ref a from rx)
  obtain ⟨mA,O,_⟩:=wQ I.hok ea
  obtain ⟨od,J,_⟩:=O.look
  exact kia_one (PySem.W.kitx_own (cl.get _) cl.hd ha hn htk hm) I.kIn J e (fun z=>nomatch z) h
end
structure Room (k:Nat) (A:Around):Prop where
 hd:A.handled=none
 dp:A.depth+3 * k+5<recursionLimit
 un:A.units+16 * k+200<cLine
theorem Room.mono (r:Room k A) (h:j<=k):Room j A:=⟨r.hd,by have:=r.dp;lia,by have:=r.un;lia⟩
theorem Room.deeper (r:Room (k+1) A) (env:Env):Room k (A.deeper env):=
 ⟨r.hd,by have:=r.dp;show A.depth+1+3 * k+5<_;lia,by have:=r.un;show A.units+3+16 * k+200<_;lia⟩
theorem Room.depth (r:Room k A):A.depth<recursionLimit:=by have:=r.dp;omega
theorem Room.units (r:Room k A):A.units+64<cLine:=by have:=r.un;lia
noncomputable def R9:TA:=fun _ H Q=>Q [] H
noncomputable def D3 (ta:TE) (tr:TA):TA:=fun σ H Q=>ta σ H fun x H1=>tr σ H1 fun xs H2=>Q (x::xs) H2
section
variable {X:Cx} {e:Expr} {es:List Expr} {te:TE} {t:TA} {pos:Pos}
theorem pa_nil:PA X [] R9:=fun _ _ _ _ H Q I h=>Calls.spliced_nil ⟨[],H,I,.nil,h⟩
theorem O0 (ha:PE X e te) (hr:PA X es t) (hs:starEach (e::es) X.env=(false,eval e X.env)::starEach es X.env:=by rfl):PA X (e::es) (D3 te t):=by intro pos pins s σ H Q I h;rw [hs];show wpAny _ _ (spliced ((false,eval e X.env)::backTo pos (starEach es X.env))) _ _ s;refine Calls.spliced_cons (thn (ha pins s σ H _ I h) fun u s1 ⟨x,H1,I1,r1,q1⟩=>?_);exact thn (hr pos pins s1 σ H1 _ I1 q1) fun us s2 ⟨xs,H2,I2,r2,q2⟩=>⟨x::xs,H2,I2,.cons r1 r2,q2⟩
def Zl (t:TA):TE:=fun σ H Q=>t σ H fun xs H1=>xs.length<=sizeLine/\∀p,H1 p=none->Q (.ref p) (upd H1 p (.tup xs))
def Zk (t:TA):TE:=fun σ H Q=>t σ H fun xs H1=>xs.length<=sizeLine/\∀p,H1 p=none->Q (.ref p) (upd H1 p (.lst xs))
theorem vg (h:PA X es t):PE X (.Tuple es x1 pos) (Zl t):=by intro pins s σ H Q I hq;refine wpAny_Tuple_spliced (thn (h pos pins s σ H _ I hq) fun us s1 ⟨xs,H1,I1,r,z,q⟩=>⟨by rw [<-r.length];exact z,?_⟩);have hf:H1 s1.heap.objs.size=none:=I1.hok.fresh (ζ _);refine ⟨.ref s1.heap.objs.size,upd H1 s1.heap.objs.size (.tup xs),I1.laid (t':=s1.toks) (fun b u e=>Ψ _ e) (ζ _) ?_,rfl,q _ hf⟩;exact ⟨z,us,r,.mk' (Ξ _ rfl)⟩
theorem vf (h:PA X es t):PE X (.List es pos) (Zk t):=by intro pins s σ H Q I hq;refine wpAny_List_spliced (thn (h pos pins s σ H _ I hq) fun us s1 ⟨xs,H1,I1,r,z,q⟩=>⟨by rw [<-r.length];exact z,?_⟩);have hf:H1 s1.heap.objs.size=none:=I1.hok.fresh (ζ _);refine ⟨.ref s1.heap.objs.size,upd H1 s1.heap.objs.size (.lst xs),I1.laid (t':=s1.toks) (fun b u e=>Ψ _ e) (ζ _) ?_,rfl,q _ hf⟩;exact ⟨z,us,0,r,Ξ _ rfl⟩
end
abbrev Sp:=List V->Hp->VK->XK->Prop
abbrev CXT:=List Env->Hp->Shared->XK->Value->Shared->Prop
structure Env0 (P:Program) (w:World) (K:Frag) (mg:Str->Option Value) (base:Heap) (A:Around) (outer:List Env) (s:Shared) (H:Hp):Prop where
 frames:A.frames=some outer
 mod:Mod K mg base
 bs:∀b o,base.get? b=some o->s.heap.get? b=some o/\H b=none
 bsz:base.objs.size<=s.heap.objs.size
 funs:s.heap.FunFrames base outer
 frf:∀b∈frs outer,H b=none
 hok:HOk P w H s.heap
 bare:AllBare s.gens
def CE (outer:List Env) (P:Program) (w:World) (H:Hp) (s:Shared) (Q:VK) (u:Value) (s':Shared):Prop:=
 ∃v H',s'.os=s.os/\AllBare s'.gens/\Un (frs outer) [] H H' s.heap s'.heap/\HOk P w H' s'.heap/\RelV v u/\Q v H'
def CR (CX:CXT) (outer:List Env) (P:Program) (w:World) (H:Hp) (s:Shared) (Q:VK) (E:XK) (r:Result) (s':Shared):Prop:=
 match r with
 | .ok (.ret u)=>CE outer P w H s Q u s'
 | .ok _=>False
 | .error e=>CX outer H s E e s'
structure FnOk (P:Program) (w:World) (K:Frag) (mg:Str->Option Value) (base:Heap) (CX:CXT) (k:Nat) (f:Addr) (fd:FuncData) (ps:List Str) (sp:Sp):Prop where
 len:∀vs H Q E,sp vs H Q E->vs.length=ps.length
 run:∀(A:Around) (outer:List Env) (s:Shared) (H:Hp) (args:Args) (us:List Value) (vs:List V) (Q:VK) (E:XK),Room k A->Env0 P w K mg base A outer s H->BindsTo s fd args (ps.zip us)->Vals vs us->sp vs H Q E ->
  codeAny (model P w) A (.call (.ref f) args) (CR CX outer P w H s Q E) s
theorem FnOk.imp {P:Program} {w:World} {K:Frag} {mg:Str->Option Value} {base:Heap} {CX:CXT} {k:Nat} {f:Addr} {fd:FuncData} {ps:List Str} {sp sp':Sp} (F:FnOk P w K mg base CX k f fd ps sp)
  (h:∀vs H Q E,sp' vs H Q E->sp vs H Q E):FnOk P w K mg base CX k f fd ps sp':=
 ⟨fun vs H Q E q=>F.len vs H Q E (h _ _ _ _ q),fun A outer s H args us vs Q E hr he hb hv hs=>F.run A outer s H args us vs Q E hr he hb hv (h _ _ _ _ hs)⟩
section
variable {X:Cx} {pins:List (Addr×Obj)} {σ:St} {H:Hp} {s s':Shared}
theorem Inv.env0 (I:Inv X pins σ H s):Env0 X.prog X.w X.K X.mg X.base X.A X.stack s H:=
 ⟨I.ok.frames,I.ok.mod,I.bs,Nat.le_trans I.ok.bsz I.sz,I.stack,I.stkFree,I.hok,I.bare⟩
theorem Inv.after (I:Inv X pins σ H s) (h:CE X.stack X.prog X.w H s Q u s'):EP X pins σ Q u s':=by obtain ⟨v,H',os,bare,un,hok,r,q⟩:=h;obtain ⟨hh,g,d,t,os'⟩:=s';obtain rfl:os'=s.os:=os;exact ⟨v,H',I.call (h':=hh) (g':=g) (d':=d) (t':=t) (ch:=[]) un hok bare (fun b z=>absurd z (by simp)),r,q⟩
end
noncomputable def Ot (sp:Sp) (dvs:List V) (E:XK) (t:TA):TE:=fun σ H Q=>t σ H fun vs H1=>sp (vs++dvs) H1 Q E
def Binds (K:Frag) (fd:FuncData) (ps:List Str) (ds:List Value):Prop:=
 ∀(s:Shared) (us:List Value),K.In s.heap->(us++ds).length=ps.length->BindsTo s fd ⟨us,[]⟩ (ps.zip (us++ds))
theorem Binds.all {K:Frag} {fd:FuncData} {ps:List Str} (h:∀us:List Value,us.length=ps.length->bindArgs fd ⟨us,[]⟩=pure (ps.zip us)):Binds K fd ps []:=fun s us _ hl=>by rw [List.append_nil] at hl ⊢;exact .of_eq (h us hl)
def Z3 (CX:CXT) (X:Cx) (E:XK):Prop:=∀(pins:List (Addr×Obj)) (σ:St) (H:Hp) (s:Shared) (e:Value) (s':Shared),Inv X pins σ H s->CX X.stack H s E e s'->X.xe e s'
section
variable {X:Cx} {CX:CXT} {k:Nat} {f:Addr} {fd:FuncData} {ps:List Str} {sp:Sp} {dvs:List V} {ds:List Value} {E:XK} {x:Str} {p pos:Pos} {e:Expr} {es:List Expr} {t:TA}
theorem ve (F:FnOk X.prog X.w X.K X.mg X.base CX k f fd ps sp) (hr:Room k X.A) (hb:Binds X.K fd ps ds) (hd:Vals dvs ds) (hx:Z3 CX X E)
  (I:Inv X pins σ H s) (r:Vals vs us) (h:sp (vs++dvs) H Q E):wpAny (model X.prog X.w) X.A (call (.ref f) us) (EP X pins σ Q) X.xe s:=by
 have r2:Vals (vs++dvs) (us++ds):=r.append hd
 have hl:(us++ds).length=ps.length:=by rw [<-r2.length];exact F.len _ _ _ _ h
 refine wpAny_call (codeAny_mono (F.run X.A X.stack s H ⟨us,[]⟩ (us++ds) (vs++dvs) Q E hr I.env0 (hb s us I.kIn hl) r2 h) fun r s' hq=>?_)
 cases r with
 | error e=>exact hx pins σ H s e s' I hq
 | ok fl=>
  cases fl with
  | ret u=>exact I.after hq
  | next=>exact False.elim hq
  | brk=>exact False.elim hq
  | cont=>exact False.elim hq
theorem wP (F:FnOk X.prog X.w X.K X.mg X.base CX k f fd ps sp) (hr:Room k X.A) (hg:Gl X x) (hm:X.mg x=some (.ref f)) (hk:keepIn X.K (.ref f)=true) (hb:Binds X.K fd ps ds) (hd:Vals dvs ds) (hx:Z3 CX X E)
  (ha:PA X (e::es) t) (hdb:(x==("__debug__":Str))=false:=by decide) (he:starEach (e::es) X.env=(false,eval e X.env)::starEach es X.env:=by rfl) (hpl:(backTo pos (starEach es X.env)).any (·.1)=false:=by rfl) :
  PE X (.Call (.Name x p) (e::es) [] pos) (Ot sp dvs E t):=by
 intro pins s σ H Q I h
 refine wpAny_Call_Name_kw (V0 I hg hm ?_ hdb)
 refine PySem.W.callWith_K (h₀:=X.base) I.ok.mod.kin hk (thn (ha pos pins s σ H _ I h) fun us s1 ⟨vs,H1,I1,r,q⟩=>⟨I1.kIn,?_⟩) he hpl
 exact ve F hr hb hd hx I1 r q
end
structure FnScope (N P:List Str) (sc:Scope):Prop where
 kind:sc.kind=.function
 co:sc.isCoroutine=false
 gen:sc.isGenerator=false
 nd:N.Nodup
 pre:N.take P.length=P
 par:∀x∈P,sc.names.lookup x=some .local\/sc.names.lookup x=some .cell
 nofree:∀y∈sc.names,y.2≠.free
theorem Vg {kindOf:Str->Option NameKind} {x:Str}:∀{binds:List (Str×Value)} {m:Str->Option Value},(∀v,(x,v)∉binds)->bindL kindOf binds m x=m x
 | [],_,_=>rfl
 | (n,v)::r,m,h=>by
  unfold bindL;rw [Vg fun w hw=>h w (List.mem_cons_of_mem _ hw)];split
  . have:x≠n:=by rintro rfl;exact h v List.mem_cons_self
    simp [this]
  . rfl
theorem Vf {kindOf:Str->Option NameKind} {x:Str}:∀{binds:List (Str×Value)} {m:Str->Option Value},(∀v,(x,v)∉binds)->bindC kindOf binds m x=m x
 | [],_,_=>rfl
 | (n,v)::r,m,h=>by
  unfold bindC;rw [Vf fun w hw=>h w (List.mem_cons_of_mem _ hw)];split
  . rfl
  . have:x≠n:=by rintro rfl;exact h v List.mem_cons_self
    simp [this]
theorem Ve {kindOf:Str->Option NameKind} {x:Str} {v:Value}:∀{P:List Str} {vs:List Value} {i:Nat} {m:Str->Option Value},P.Nodup->P[i]?=some x->vs[i]?=some v->kindOf x=some .local ->
  bindL kindOf (P.zip vs) m x=some v
 | [],_,_,_,_,h,_,_=>by simp at h
 | _::_,[],_,_,_,_,h,_=>by simp at h
 | p::P,w::vs,0,m,nd,h1,h2,hk=>by simp at h1 h2;subst h1;subst h2;show bindL kindOf ((p,w)::P.zip vs) m p=_;unfold bindL;rw [Vg fun v hv=>(List.nodup_cons.mp nd).1 (List.of_mem_zip hv).1,ξ hk];simp
 | p::P,w::vs,i+1,m,nd,h1,h2,hk=>by show bindL kindOf ((p,w)::P.zip vs) m x=_;unfold bindL;exact Ve (i:=i) (List.nodup_cons.mp nd).2 (by simpa using h1) (by simpa using h2) hk
theorem Vd {kindOf:Str->Option NameKind} {x:Str} {v:Value}:∀{P:List Str} {vs:List Value} {i:Nat} {m:Str->Option Value},P.Nodup->P[i]?=some x->vs[i]?=some v->kindOf x≠some .local ->
  bindC kindOf (P.zip vs) m x=some v
 | [],_,_,_,_,h,_,_=>by simp at h
 | _::_,[],_,_,_,_,h,_=>by simp at h
 | p::P,w::vs,0,m,nd,h1,h2,hk=>by simp at h1 h2;subst h1;subst h2;show bindC kindOf ((p,w)::P.zip vs) m p=_;unfold bindC;rw [Vf fun v hv=>(List.nodup_cons.mp nd).1 (List.of_mem_zip hv).1,ψ hk];simp
 | p::P,w::vs,i+1,m,nd,h1,h2,hk=>by show bindC kindOf ((p,w)::P.zip vs) m x=_;unfold bindC;exact Vd (i:=i) (List.nodup_cons.mp nd).2 (by simpa using h1) (by simpa using h2) hk
noncomputable def start (N:List Str) (vs:List V):St:=vs.map some++List.replicate (N.length - vs.length) none
noncomputable def x5 (CX:CXT) (P:Program) (w:World) (K:Frag) (mg:Str->Option Value) (base:Heap) (N:List Str) (qual:Str) (scope:Scope) (f:Addr) (cd:Value) (A:Around) (outer:List Env) (s:Shared) (H:Hp) (E:XK):Cx where
 prog:=P
 w:=w
 K:=K
 mg:=mg
 base:=base
 A:=A.deeper (envOfC qual scope s.heap.objs.size f cd)
 N:=N
 s₀:=s
 H₀:=H
 env:=envOfC qual scope s.heap.objs.size f cd
 outer:=outer
 stack:=envOfC qual scope s.heap.objs.size f cd::outer
 ex:=[]
 calm:=true
 fn:=fun _=>true
 pn:=[]
 xe:=fun e s'=>wpAny (model P w) (A.deeper (envOfC qual scope s.heap.objs.size f cd)) (leaving (envOfC qual scope s.heap.objs.size f cd) e) (fun _ s''=>CX outer H s E e s'') (fun e' s''=>CX outer H s E e' s'') s'
theorem Ul {sc:Scope} {n:Nat} {x:Str} (h:sc.names.lookup x=some .cell):∃c,(cellsFrom n sc.names []).lookup x=some c:=by have q:=PySem.W.cellsFrom_some sc.names n [] (.inl h);exact Option.isSome_iff_exists.mp q
theorem Vc {CX:CXT} {P:Program} {w:World} {K:Frag} {mg:Str->Option Value} {base:Heap} {N ps:List Str} {qual:Str} {scope:Scope} {f:Addr} {cd:Value} {A:Around} {outer:List Env} {s s1:Shared} {H:Hp} {E:XK} {us:List Value} {vs:List V}
  (S:FnScope N ps scope) (hd:A.handled=none) (e0:Env0 P w K mg base A outer s H) (hl:vs.length=ps.length) (r:Vals vs us)
  (x:InCallC s s.heap.objs.size (bindL (envOfC qual scope s.heap.objs.size f cd).kindOf (ps.zip us) fun _=>none) (cellsFrom (s.heap.objs.size+1) scope.names []) (bindC (envOfC qual scope s.heap.objs.size f cd).kindOf (ps.zip us) fun _=>none) s1) :
  Inv (x5 CX P w K mg base N qual scope f cd A outer s H E) [] (start N vs) H s1:=by
 have hpl:ps.length<=N.length:=by have:=congrArg List.length S.pre;rw [List.length_take] at this;lia
 obtain ⟨h1,tk,rfl,hk⟩:=x.done
 have noA:∀b:Addr,b∉(x5 CX P w K mg base N qual scope f cd A outer s H E).ex:=fun b z=>absurd (show b∈([]:List Addr) from z) (by simp)
 refine ⟨⟨e0.mod,S.kind,rfl,rfl,ζ _,fun y z c h1 h2=>?_,fun y hy=>?_,fun y c _ h=>?_,fun _=>hd,Around.frames_deeper e0.frames,.inr ⟨rfl,rfl⟩,fun b z=>absurd z (noA b),e0.bs,e0.bsz,fun b _ _=>noA b,fun b z=>absurd z (noA b),e0.funs,e0.frf⟩,
  rfl,e0.bare,Un.kept hk,⟨_,x.toInCall.ns,fun i y v h1 h2 h3=>?_⟩,fun y c h=>⟨_,x.cell y c h⟩,e0.hok.fresh (ζ _),fun y c h=>?_,fun p hp=>absurd (show p∈([]:List (Addr×Obj)) from hp) (by simp),e0.hok.kept hk,?_⟩
 . exact name_of_addr x.apart (PySem.mem_of_lookup h1) (PySem.mem_of_lookup h2)
 . have hy:scope.names.lookup y=some .cell\/scope.names.lookup y=some .free:=hy;rcases hy with hy | hy
   . exact Ul hy
   . exact absurd rfl (S.nofree _ (PySem.mem_of_lookup hy))
 . exact Nat.le_of_lt (x.above y c (PySem.mem_of_lookup h))
 . have hi:i<vs.length:=by
    unfold start at h2
    by_cases hi:i<vs.length
    . exact hi
    . rw [List.getElem?_append_right (by simpa using hi)] at h2;rw [List.getElem?_replicate] at h2;split at h2<;>cases h2
   have ha:vs[i]?=some v:=by
    unfold start at h2;rw [List.getElem?_append_left (by simpa using hi),List.getElem?_map] at h2;cases e:vs[i]? with
    | none=>rw [e] at h2;cases h2
    | some a=>rw [e] at h2;cases h2;rfl
   obtain ⟨u,hu,rv⟩:=r.get ha
   have hp:ps[i]?=some y:=by rw [<-S.pre,List.getElem?_take_of_lt (by lia)];exact h1
   have ndP:ps.Nodup:=by rw [<-S.pre];exact S.nd.sublist (List.take_sublist _ _)
   refine ⟨u,rv,?_⟩
   rcases S.par y (List.mem_of_getElem? hp) with k | k
   . exact .inl ⟨k,Ve ndP hp hu k⟩
   . obtain ⟨c,e⟩:=Ul (n:=s.heap.objs.size+1) k;refine .inr ⟨.inl k,c,e,?_⟩;have q:=x.cell y c e;rw [Vd ndP hp hu (by show scope.names.lookup y≠_;rw [k];decide)] at q;exact q
 . exact e0.hok.fresh (Nat.le_of_lt (x.above y c (PySem.mem_of_lookup h)))
 . unfold start;show _=N.length;rw [θ,List.length_map,List.length_replicate]
   lia
theorem jN {CX:CXT} {P:Program} {w:World} {K:Frag} {mg:Str->Option Value} {base:Heap} {k:Nat} {f:Addr} {name qual:Str} {params:Arguments} {body:List Stmt} {scope:Scope} {dV kV doc pm cdv ct oc:Value} {an od:Option Addr}
  {osl:Array (Option Value)} {N ps:List Str} {sp:Sp} (lk:K.lookup f=some ⟨oc,od,.func (PySem.W.fnOf name qual params body scope dV kV doc pm an cdv ct),osl⟩) (hcd:codeIn K cdv qual=true) (S:FnScope N ps scope)
  (len:∀vs H Q E,sp vs H Q E->vs.length=ps.length)
  (hbody:∀(A:Around) (outer:List Env) (s:Shared) (H:Hp) (vs:List V) (Q:VK) (E:XK),Room k (A.deeper (envOfC qual scope s.heap.objs.size f cdv))->sp vs H Q E ->
   ∃t,PSs (x5 CX P w K mg base N qual scope f cdv A outer s H E) body t/\t { nx:=fun _ H'=>Q .non H',rt:=Q } (start N vs) H) :
  FnOk P w K mg base CX (k+1) f (PySem.W.fnOf name qual params body scope dV kV doc pm an cdv ct) ps sp:=by
 refine ⟨len,fun A outer s H args us vs Q E hr e0 hb r hsp=>?_⟩
 have hl:=len _ _ _ _ hsp
 have KX:K.In s.heap:=e0.mod.kin.keeps fun b o e=>(e0.bs b o e).1
 have lim:s.heap.NoLimit:=e0.mod.nolimit.keeps fun b o e=>(e0.bs b o e).1
 have hkind:∀y∈ps.zip us,scope.names.lookup y.1=some .local\/(scope.names.lookup y.1=some .cell/\((cellsFrom (s.heap.objs.size+1) scope.names []).lookup y.1).isSome=true):=fun ⟨n,v⟩ hy=>by
  rcases S.par n (List.of_mem_zip hy).1 with q | q
  . exact .inl q
  . exact .inr ⟨q,PySem.W.cellsFrom_some _ _ _ (.inl q)⟩
 refine codeAny_call_function hr.depth (KX _ _ lk) rfl S.co S.gen rfl (PySem.W.codeRec_of KX hcd) (hb _ _ _ _ ?_)
 refine wpAny_newFunctionEnv_cells S.kind hkind fun env he s1 x=>?_
 subst he
 refine ⟨lim.keeps x.toInCall.keep,codeAny_func ?_⟩
 obtain ⟨t,ht,hq⟩:=hbody A outer s H vs Q E (hr.deeper _) hsp
 have I:Inv (x5 CX P w K mg base N qual scope f cdv A outer s H E) [] (start N vs) H s1:=Vc S hr.hd e0 hl r x
 refine wpAny_mono (ht [] s1 (start N vs) H _ I hq) (fun fl s' hs=>?_) fun e s' hs=>hs
 have fin:∀{σ':St} {H':Hp} {v:V} {u:Value},Inv (x5 CX P w K mg base N qual scope f cdv A outer s H E) [] σ' H' s'->RelV v u->Q v H'->CE outer P w H s Q u s':=
  fun {σ' H' v u} J rv q=>⟨v,H',J.os,J.bare,J.base,J.hok,rv,q⟩
 cases fl with
 | ret u=>
  obtain ⟨v,σ',H',J,rv,q⟩:=hs
  exact fin J rv q
 | next=>
  obtain ⟨σ',H',J,q⟩:=hs
  exact fin (v:=V.non) (u:=Value.none) J rfl q
 | brk=>
  obtain ⟨_,_,_,q⟩:=hs
  exact False.elim q
 | cont=>
  obtain ⟨_,_,_,q⟩:=hs
  exact False.elim q
section
variable {X:Cx} {x:Str} {p pos:Pos} {e:Expr} {es:List Expr} {t:TA} {id T:String} {r:List V->Hp->VK->Prop}
noncomputable def tCB (r:List V->Hp->VK->Prop) (t:TA):TE:=fun σ H Q=>t σ H fun vs H1=>r vs H1 Q
theorem Lb (hc:CallR X (.builtin id) r) (hg:Gl X x) (hm:X.mg x=none) (hv:bootBuiltins x=some (.builtin id)) (ha:PA X (e::es) t) (hn:x≠"__name__":=by decide) (hdb:(x==("__debug__":Str))=false:=by decide)
  (he:starEach (e::es) X.env=(false,eval e X.env)::starEach es X.env:=by rfl) (hpl:(backTo pos (starEach es X.env)).any (·.1)=false:=by rfl):PE X (.Call (.Name x p) (e::es) [] pos) (tCB r t):=by
 intro pins s σ H Q I h
 refine wpAny_Call_Name_kw (N7 I hg hm hv ?_ hn hdb)
 exact PyProof.Rows.callWith_builtin1 (thn (ha pos pins s σ H _ I h) fun us s1 ⟨vs,H1,I1,r1,q1⟩=>hc pins s1 σ H1 vs us Q I1 r1 q1) he hpl
theorem yM (hc:CallR X (.type T) r) (hg:Gl X x) (hm:X.mg x=none) (hv:bootBuiltins x=some (.type T)) (ha:PA X (e::es) t) (hn:x≠"__name__":=by decide) (hdb:(x==("__debug__":Str))=false:=by decide)
  (he:starEach (e::es) X.env=(false,eval e X.env)::starEach es X.env:=by rfl) (hpl:(backTo pos (starEach es X.env)).any (·.1)=false:=by rfl):PE X (.Call (.Name x p) (e::es) [] pos) (tCB r t):=by
 intro pins s σ H Q I h
 refine wpAny_Call_Name_kw (N7 I hg hm hv ?_ hn hdb)
 exact PyProof.Rows.callWith_type1 (thn (ha pos pins s σ H _ I h) fun us s1 ⟨vs,H1,I1,r1,q1⟩=>hc pins s1 σ H1 vs us Q I1 r1 q1) he hpl
end
end L2
namespace HT
open PySem PyProof.Rows
theorem rcLt_int (A:Around) (s:Shared) (a:Int) (t:Tok) (c:Int) (u:Tok) (prog:Program) (w:World) (E:Value->Shared->Prop) (Q:Value->Shared->Prop) (h:Q (.bool (decide (a<c))) s) :
  wpAny (model prog w) A (richCompare .Lt (.int a t) (.int c u)) Q E s:=
 (PyProof.Rows.lt_int h:wpAny (model prog w) A (compareOp .Lt (.int a t) (.int c u)) Q E s)
section
open PySem.SeqAt
open PySem.AutoSeq1 (wpAny_loadPart')
open PySem.MeetsSeq PySem.MeetsSeq2 PySem.MeetsSeq3
end
section
variable {prog:Program} {w:World} {A:Around} {E:Value->Shared->Prop} {s:Shared}
def sIx (n d:Nat):Option Int->Nat
 | none=>d
 | some v=>if v<0 then (v+(n:Int)).toNat else min v.toNat n
theorem vd (n d:Nat) (hd:d<=n) (o:Option Int):sIx n d o<=n:=by
 cases o with
 | none=>exact hd
 | some v=>
  show (if v<0 then (v+(n:Int)).toNat else min v.toNat n)<=n
  by_cases hv:v<0
  . rw [ξ hv];lia
  . rw [ψ hv];exact Nat.min_le_right _ _
theorem Tk (v:Int) (n d:Nat):(if v<0 then max (v+(n:Int)) 0 else min v (n:Int))=((sIx n d (some v):Nat):Int):=by
 show (if v<0 then max (v+(n:Int)) 0 else min v (n:Int))=(((if v<0 then (v+(n:Int)).toNat else min v.toNat n):Nat):Int);by_cases hv:v<0
 . simp only [ξ hv];lia
 . simp only [ψ hv];lia
theorem zl (lo hi:Option Int) (n:Nat):Builtin.Slice.sliceAdjust lo hi 1 (n:Int)=(((sIx n 0 lo:Nat):Int),((sIx n n hi:Nat):Int)):=by
 have h1:¬((1:Int)<0):=by omega
 unfold Builtin.Slice.sliceAdjust;simp only [h1,if_false];refine Prod.ext ?_ ?_
 . cases lo with
   | none=>rfl
   | some v=>exact Tk v n 0
 . cases hi with
   | none=>rfl
   | some v=>exact Tk v n n
theorem zk (i j:Nat):Builtin.Slice.slicePlaces (i:Int) (j:Int) 1=j - i:=by
 unfold Builtin.Slice.slicePlaces;have h1:(1:Int) > 0:=by lia
 simp only [h1,if_true,Int.ediv_one];split<;>lia
theorem Wj (p:IsPart v o) (h:Q o s):wpAny (model prog w) A (Builtin.Slice.slicePartIndex v) Q E s:=by
 cases p with
 | none=>exact slicePart_none h
 | int i t=>exact slicePart_int h
theorem z6o {sl:Addr} {vl vu:Value} {lo hi:Option Int} {n:Nat} {Q:Int×Int×Nat->Shared->Prop} (hs:s.heap.IsSliceOf sl vl vu .none) (pl:IsPart vl lo) (pu:IsPart vu hi)
  (h:Q (((sIx n 0 lo:Nat):Int),1,sIx n n hi - sIx n 0 lo) s):wpAny (model prog w) A (Builtin.Slice.sliceApplied (.ref sl) (pure (n:Int))) Q E s:=by
 obtain ⟨os,hos,hcs,hds⟩:=id hs
 unfold Builtin.Slice.sliceApplied Builtin.Slice.sliceFields
 refine wpAny_bind (wpAny_bind (wpAny_field hos hds (x:=vl) rfl (wpAny_bind (wpAny_field hos hds (x:=vu) rfl (wpAny_bind (wpAny_field hos hds (x:=.none) rfl (wpAny_pure ?_)))))))
 refine wpAny_bind (slicePart_none ?_)
 show wpAny _ _ (if ((1:Int)==0)=true then _ else _) _ _ s
 rw [ψ (by decide)]
 refine wpAny_bind (Wj pl (wpAny_bind (Wj pu (wpAny_bind (wpAny_pure ?_)))))
 show wpAny _ _ (match Builtin.Slice.sliceAdjust lo hi 1 (n:Int) with | (lo,hi)=>pure (lo,(1:Int),Builtin.Slice.slicePlaces lo hi 1)) _ _ s
 rw [zl lo hi n]
 show wpAny _ _ (pure (((sIx n 0 lo:Nat):Int),(1:Int),Builtin.Slice.slicePlaces ((sIx n 0 lo:Nat):Int) ((sIx n n hi:Nat):Int) 1)) _ _ s
 rw [zk]
 exact wpAny_pure h
theorem yd (xs:Array Value) (i k:Nat):((List.range k).filterMap fun (m:Nat)=>xs[((i:Int)+(m:Int) * 1).toNat]?).toArray=((xs.toList.drop i).take k).toArray:=by
 have e:(fun (m:Nat)=>xs[((i:Int)+(m:Int) * 1).toNat]?)=fun m=>xs[i+m]?:=by
  funext m;have:((i:Int)+(m:Int) * 1).toNat=i+m:=by lia
  rw [this]
 rw [e];have:=pick_run xs i k;rw [List.filterMap_map] at this;have e2:((fun x=>xs[x]?)∘fun x=>i+x)=fun m=>xs[i+m]?:=rfl
 rw [e2] at this;rw [this]
theorem getItem_tuple_cut {t sl:Addr} {items:Array Value} {vl vu:Value} {lo hi:Option Int} {Q:Value->Shared->Prop} (ht:IsTup s.heap t items) (hs:s.heap.IsSliceOf sl vl vu .none) (pl:IsPart vl lo) (pu:IsPart vu hi)
  (hw:¬(sIx items.size 0 lo=0/\sIx items.size items.size hi=items.size))
  (h:Q (.ref s.heap.objs.size) { s with heap:=s.heap.push { cls:=.type "tuple",data:=.seq ((items.toList.drop (sIx items.size 0 lo)).take (sIx items.size items.size hi - sIx items.size 0 lo)).toArray } })
  (hsz:items.size<=sizeLine):wpAny (model prog w) A (getItem (.ref t) (.ref sl)) Q E s:=by
 have htake:sizeOk (.seq ((items.toList.drop (sIx items.size 0 lo)).take (sIx items.size items.size hi - sIx items.size 0 lo)).toArray):=by show ((items.toList.drop (sIx items.size 0 lo)).take (sIx items.size items.size hi - sIx items.size 0 lo)).toArray.size<=sizeLine;rw [List.size_toArray,List.length_take,List.length_drop,Array.length_toList];omega
 have hj:sIx items.size items.size hi<=items.size:=vd _ _ (ζ _) hi
 obtain ⟨os,hos,hcs,hds⟩:=id hs
 have hTs:s.TypeIs (.ref sl) "slice":=⟨os,hos,hcs⟩
 unfold getItem
 try with_reducible refine wpAny_holding ?_
 first | refine wpAny_bind (wpAny_pure ?_) | skip
 refine wpAny_bind (wpAny_sequenceKey ht.typeIs (by decide) ?_)
 refine wpAny_bind (wpAny_callSpecial?_slot (name:=Str.ofString "__getitem__") ht.typeIs PyProof.Rows.slot_tuple_getitem
  (wpAny_call_entry PyProof.Rows.slot_tuple_getitem ht.typeIs entry_tuple_getitem ?_ (args_tuple_getitem _ _)))
 show wpAny _ _ (Builtin.Tuple.tupleItemsOf (.ref t) >>= _) _ _ s
 refine wpAny_bind (tupleItemsOf_ ht ?_)
 refine wpAny_bind (wpAny_typeOf hTs ?_)
 rw [ξ (by decide)]
 refine wpAny_bind (z6o hs pl pu ?_)
 have hno:¬((((sIx items.size 0 lo:Nat):Int)==0&&(1:Int)==1&&(sIx items.size items.size hi - sIx items.size 0 lo)==items.size)=true):=by intro q;rw [Bool.and_eq_true,Bool.and_eq_true] at q;have q1:((sIx items.size 0 lo:Nat):Int)=0:=eq_of_beq q.1.1;have q2:sIx items.size items.size hi - sIx items.size 0 lo=items.size:=eq_of_beq q.2;exact hw ⟨by omega,by omega⟩
 show wpAny _ _ (if (((sIx items.size 0 lo:Nat):Int)==0&&(1:Int)==1&&(sIx items.size items.size hi - sIx items.size 0 lo)==items.size)=true then _ else _) _ _ s
 rw [ψ hno,yd]
 first
  | exact wpAny_bind (m:=Builtin.Tuple.tupleExact _) (wpAny_newObj_type (wpAny_pure ⟨_,rfl,wpAny_pure h⟩) htake)
  | exact wpAny_bind (m:=Builtin.Tuple.tupleExact _) (wpAny_newObj_type (wpAny_bind (wpAny_pure (wpAny_pure ⟨_,rfl,wpAny_pure h⟩))) htake)
  | exact wpAny_bind (wpAny_bind (m:=Builtin.Tuple.tupleExact _) (wpAny_newObj_type (wpAny_pure (wpAny_pure ⟨_,rfl,wpAny_pure h⟩)) htake))
  | exact wpAny_bind (wpAny_bind (m:=Builtin.Tuple.tupleExact _) (wpAny_newObj_type (wpAny_pure ⟨_,rfl,wpAny_pure h⟩) htake))
end
end HT
namespace L2
open PySem PySem.Spec PyProof.Rows
abbrev TO:=St->Hp->(Option Int->Hp->Prop)->Prop
def PO (X:Cx) (e:Option Expr) (t:TO):Prop:=
 ∀(pins:List (Addr×Obj)) (s:Shared) (σ:St) (H:Hp) (Q:Option Int->Hp->Prop),Inv X pins σ H s->t σ H Q ->
  wpAny (model X.prog X.w) X.A (evalPart e X.env) (fun u s'=>∃o H',Inv X pins σ H' s'/\IsPart u o/\Q o H') X.xe s
noncomputable def wO:TO:=fun _ H Q=>Q none H
noncomputable def jM (t:TE):TO:=fun σ H Q=>t σ H fun x H1=>∃i,x=.int i/\Q (some i) H1
theorem Wi:∀{us:List Value},Vals (ns.map V.int) us->IntsAre us ns:=by
 induction ns with
 | nil=>intro us r;rw [List.map_nil] at r;cases r;exact .nil
 | cons n ns ih=>
  intro us r
  rw [List.map_cons] at r
  cases r with
  | cons r1 r2=>
   obtain ⟨t,e⟩:=r1
   subst e
   exact .cons n t (ih r2)
section
variable {X:Cx} {e:Expr} {te:TE} {lo hi:Option Expr} {tl th:TO} {pos p2:Pos}
theorem po_none:PO X none wO:=by intro pins s σ H Q I h;rw [evalPart_none];exact ω ⟨none,H,I,.none,h⟩
theorem wN (h:PE X e te):PO X (some e) (jM te):=by
 intro pins s σ H Q I hw;rw [evalPart_some];refine thn (h pins s σ H _ I hw) fun u s1 ⟨x,H1,I1,r1,q1⟩=>?_
 obtain ⟨i,rfl,q⟩:=q1;obtain ⟨t,rfl⟩:=r1;exact ⟨some i,H1,I1,.int i t,q⟩
def SlR (X:Cx) (r:V->Option Int->Option Int->Hp->VK->Prop):Prop:=
 ∀(pins:List (Addr×Obj)) (s:Shared) (σ:St) (H:Hp) (x:V) (v vl vu:Value) (lo hi:Option Int) (sl:Addr) (Q:VK),Inv X pins σ H s->RelV x v->s.heap.IsSliceOf sl vl vu .none->IsPart vl lo->IsPart vu hi->r x lo hi H Q ->
  ∃T id,typeLookup (.type T) "__getitem__"=pure (some (.builtin id))/\s.TypeIs v T/\wpAny (model X.prog X.w) X.A (getItem v (.ref sl)) (EP X pins σ Q) X.xe s
noncomputable def tSl (r:V->Option Int->Option Int->Hp->VK->Prop) (te:TE) (tl th:TO):TE:=fun σ H Q=>te σ H fun x H1=>tl σ H1 fun l H2=>th σ H2 fun u H3=>r x l u H3 Q
theorem yc (hr:SlR X r) (he:PE X e te) (hl:PO X lo tl) (hu:PO X hi th):PE X (.Subscript e (.Slice lo hi none p2) pos) (tSl r te tl th):=by
 intro pins s σ H Q I h;refine Subscript_ (thn (he pins s σ H _ I h) fun v s1 ⟨x,H1,I1,r1,q1⟩=>?_);refine wpAny_Slice (thn (hl pins s1 σ H1 _ I1 q1) fun vl s2 ⟨l,H2,I2,pl,q2⟩=>thn (hu pins s2 σ H2 _ I2 q2) fun vu s3 ⟨u,H3,I3,pu,q3⟩=>?_);rw [evalPart_none];refine ω ?_;have I4:Inv X pins σ H3 { s3 with heap:=s3.heap.push { cls:=.type "slice",data:=.fields #[vl,vu,.none] } }:=I3.kept (t':=s3.toks) fun b ob q=>Ψ _ q
 obtain ⟨T,id,hT,ht,hg⟩:=hr pins { s3 with heap:=s3.heap.push { cls:=.type "slice",data:=.fields #[vl,vu,.none] } } σ H3 x v vl vu l u s3.heap.objs.size Q I4 r1 (Heap.IsSliceOf.new ..) pl pu q3;show wpAny (model X.prog X.w) X.A (subscriptTail e (.Slice lo hi none p2) v (.ref s3.heap.objs.size)) (EP X pins σ Q) X.xe { s3 with heap:=s3.heap.push { cls:=.type "slice",data:=.fields #[vl,vu,.none] } };exact tail_any (ops:=[.ref s3.heap.objs.size,v]) ht hT hg (by with_unfolding_all rfl)
noncomputable def G0 (xs:List V) (lo hi:Option Int):List V:=(xs.drop (HT.sIx xs.length 0 lo)).take (HT.sIx xs.length xs.length hi - HT.sIx xs.length 0 lo)
theorem Wx (xs:List V) (lo hi:Option Int):(G0 xs lo hi).length<=xs.length:=by unfold G0;rw [List.length_take,List.length_drop];omega
def Zj (K:Frag):V->Option Int->Option Int->Hp->VK->Prop:=fun x lo hi H Q=>∃a xs,x=.ref a/\SqT K H a xs /\
 ¬(HT.sIx xs.length 0 lo=0/\HT.sIx xs.length xs.length hi=xs.length)/\∀p,H p=none->Q (.ref p) (upd H p (.tup (G0 xs lo hi)))
theorem qZ:SlR X (Zj X.K):=by
 intro pins s σ H x v vl vu lo hi sl Q I rx hs pl pu h;obtain ⟨a,xs,rfl,hx,hw,q⟩:=h;cases rx;obtain ⟨its,r,ht,hz⟩:=I.tuple hx;have hlen:its.toArray.size=xs.length:=by rw [List.size_toArray];exact r.length.symm
 refine ⟨"tuple",_,PyProof.Rows.slot_tuple_getitem.lookup,ht.typeIs,?_⟩;refine HT.getItem_tuple_cut ht hs pl pu (by rw [hlen];exact hw) ?_ (by rw [hlen];exact hz);rw [hlen];refine ⟨.ref s.heap.objs.size,_,I.laid (t':=s.toks) (o:=.tup (G0 xs lo hi)) (fun b ob q=>Ψ _ q) (ζ _) ?_,rfl,q _ (I.hok.fresh (ζ _))⟩;exact ⟨Nat.le_trans (Wx xs lo hi) hz,_,(r.drop (HT.sIx xs.length 0 lo)).take (HT.sIx xs.length xs.length hi - HT.sIx xs.length 0 lo),.mk' (Ξ _ rfl)⟩
end
noncomputable def ixN (n:Nat) (i:Int):Option Nat:=if 0<=i then (if i<n then some i.toNat else none) else if -(n:Int)<=i then some (i+n).toNat else none
def atI {α:Type} (xs:List α) (i:Int):Option α:=(ixN xs.length i).bind fun j=>xs[j]?
theorem Tj (h:ixN n i=some j):seqIndex? i n=some j/\j<n/\-(n:Int)<=i/\i<n:=by
 unfold ixN at h;by_cases h0:0<=i
 . rw [ξ h0] at h;by_cases h1:i<n
   . rw [ξ h1] at h;have e:i.toNat=j:=Option.some.inj h;exact ⟨by rw [seqIndex_of h0 h1,e],by lia,by lia,h1⟩
   . rw [ψ h1] at h;cases h
 . rw [ψ h0] at h;by_cases h1:-(n:Int)<=i
   . rw [ξ h1] at h;have e:(i+n).toNat=j:=Option.some.inj h;exact ⟨by rw [seqIndex_neg (by lia) h1,e],by lia,h1,by lia⟩
   . rw [ψ h1] at h;cases h
theorem Kf (h:atI xs i=some v):∃j,seqIndex? i xs.length=some j/\xs[j]?=some v/\j<xs.length/\-(xs.length:Int)<=i/\i<xs.length:=by
 unfold atI at h;cases e:ixN xs.length i with
 | none=>rw [e] at h;cases h
 | some j=>
  rw [e] at h
  obtain ⟨h1,h2,h3,h4⟩:=Tj e
  exact ⟨j,h1,h,h2,h3,h4⟩
theorem Ke {α:Type} {xs:List α} {j:Nat} {v:α} (h:xs[j]?=some v):atI xs (j:Int)=some v:=by
 have hj:j<xs.length:=(List.getElem?_eq_some_iff.mp h).1;have e:ixN xs.length (j:Int)=some j:=by unfold ixN;rw [ξ (by lia),ξ (by lia)];simp
 unfold atI;rw [e];exact h
theorem yb (xs:List α) (v:α):atI (xs++[v]) (-1)=some v:=by
 have hl:(xs++[v]).length=xs.length+1:=by simp
 have e:ixN (xs++[v]).length (-1)=some xs.length:=by
  unfold ixN;rw [hl,ψ (by decide),ξ (by lia)];congr 1
  lia
 unfold atI;rw [e];show (xs++[v])[xs.length]?=some v;simp
def Kd (b:Expr):Prop:=∀o i,subscripted b false o i=operate [o,i] (getItem o i)
def IxR (X:Cx) (r:R2):Prop:=
 ∀(value slice:Expr) (pins:List (Addr×Obj)) (s:Shared) (σ:St) (H:Hp) (x y:V) (v u:Value) (Q:VK),Inv X pins σ H s->RelV x v->RelV y u->r x y H Q ->
  subscripted slice false v u=operate [v,u] (getItem v u)->wpAny (model X.prog X.w) X.A (subscriptTail value slice v u) (EP X pins σ Q) X.xe s
def MtR (X:Cx) (id:String) (r:V->List V->Hp->VK->Prop):Prop:=
 ∀(pins:List (Addr×Obj)) (s:Shared) (σ:St) (H:Hp) (x:V) (xs:List V) (v:Value) (us:List Value) (Q:VK),Inv X pins σ H s->RelV x v->Vals xs us->r x xs H Q ->
  wpAny (model X.prog X.w) X.A (call (.builtin id) (v::us)) (EP X pins σ Q) X.xe s
section
variable {X:Cx} {a b:Expr} {ta tb:TE} {pos:Pos}
theorem IxR.or (h:IxR X r) (h':IxR X r'):IxR X (fun x y H Q=>r x y H Q\/r' x y H Q):=by
 intro value slice pins s σ H x y v u Q I rx ry q hs;rcases q with q | q
 . exact h value slice pins s σ H x y v u Q I rx ry q hs
 . exact h' value slice pins s σ H x y v u Q I rx ry q hs
theorem jL (hr:IxR X r) (ha:PE X a ta) (hb:PE X b tb) (hs:Kd b):PE X (.Subscript a b pos) (tOp r ta tb):=by intro pins s σ H Q I h;exact Subscript_ (Fy ha hb I h fun v u s2 x y H2 I2 rx ry q=>hr a b pins s2 σ H2 x y v u Q I2 rx ry q (hs _ _))
def Zi (K:Frag):R2:=fun x y H Q=>∃p xs i v,x=.ref p/\y=.int i/\SqL K H p xs/\atI xs i=some v/\Q v H
def Zh (K:Frag):R2:=fun x y H Q=>∃p xs i v,x=.ref p/\y=.int i/\SqT K H p xs/\atI xs i=some v/\Q v H
def Zg:R2:=fun x y H Q=>∃z i c,x=.str z/\y=.int i/\z.length<=sizeLine/\atI z.cps.toList i=some c/\Q (.str ⟨#[c]⟩) H
theorem ix_list:IxR X (Zi X.K):=by
 intro value slice pins s σ H x y v u Q I rx ry h hs;obtain ⟨p,xs,i,z,rfl,rfl,hq,he,q⟩:=h;cases rx;obtain ⟨t,rfl⟩:=ry;obtain ⟨its,r,pl,hz⟩:=I.list hq;obtain ⟨j,h1,h2,h3,h4,h5⟩:=Kf he;obtain ⟨w,ew,rw'⟩:=r.get h2;have hl:=r.length;have hn:=P8;have fin:EP X pins σ Q w s:=⟨z,H,I,rw',q⟩;by_cases h0:0<=i
 . have hj:i.toNat=j:=by
    rw [seqIndex_of h0 h5] at h1
    exact Option.some.inj h1
   exact item_listR pl.isList h0 (by lia) (by rw [hj];simpa using ew) fin hs
 . have hj:(i+(its.toArray.size:Int)).toNat=j:=by
    rw [seqIndex_neg (by lia) h4] at h1
    rw [List.size_toArray,<-hl]
    exact Option.some.inj h1
   exact subscriptTail_builtinR (x:=w) pl.isList.typeIs slot_list_getitem.lookup
    (wpAny_getItem_list_neg (Q:=fun r s'=>r=w/\EP X pins σ Q r s') pl.isList (by lia) (by rw [List.size_toArray]<;>lia) (by lia) (by rw [hj];simpa using ew) ⟨rfl,fin⟩) hs
theorem ix_tup:IxR X (Zh X.K):=by
 intro value slice pins s σ H x y v u Q I rx ry h hs;obtain ⟨p,xs,i,z,rfl,rfl,hq,he,q⟩:=h;cases rx;obtain ⟨t,rfl⟩:=ry;obtain ⟨its,r,pl,hz⟩:=I.tuple hq;obtain ⟨j,h1,h2,h3,h4,h5⟩:=Kf he;obtain ⟨w,ew,rw'⟩:=r.get h2;have hl:=r.length;have hn:=P8;have fin:EP X pins σ Q w s:=⟨z,H,I,rw',q⟩;exact subscriptTail_builtinR (x:=w) pl.typeIs slot_tuple_getitem.lookup
  (getItem_tuple (j:=j) (Q:=fun r s'=>r=w/\EP X pins σ Q r s') pl (by lia) (by lia) (by rw [List.size_toArray,<-hl];exact h1) (by simpa using ew) ⟨rfl,fin⟩) hs
theorem qY:IxR X Zg:=by
 intro value slice pins s σ H x y v u Q I rx ry h hs;obtain ⟨z,i,c,rfl,rfl,hz,he,q⟩:=h;obtain ⟨t,rfl⟩:=rx;obtain ⟨t',rfl⟩:=ry;obtain ⟨j,h1,h2,h3,h4,h5⟩:=Kf he;have hl:z.cps.toList.length=z.length:=by simp [Str.length]
 rw [hl] at h1 h4 h5;have hn:=P8;exact tail_any (typeIs_str s z t) slot_str_getitem.lookup (getItem_str (c:=c) (by have e1:decide (i < -(2 ^ 63:Int))=false:=decide_eq_false (by lia);have e2:decide (i ≥ 2 ^ 63)=false:=decide_eq_false (by lia);rw [e1,e2,Bool.or_false]) (by rw [h1];simpa using h2) ⟨.str ⟨#[c]⟩,H,I.tok _,⟨_,rfl⟩,q⟩) hs
def rIx (K:Frag):R2:=fun x y H Q=>Zi K x y H Q\/Zh K x y H Q\/Zg x y H Q
theorem ix_seq:IxR X (rIx X.K):=ix_list.or (ix_tup.or qY)
theorem zj (its:List Value) (n j:Nat) (u:Value):Obj.mapSeq (·.setIfInBounds j u) { cls:=.type "list",data:=.seq its.toArray n }={ cls:=.type "list",data:=.seq (its.set j u).toArray n }:=by simp [Obj.mapSeq]
theorem Inv.lst (I:Inv X pins σ H s) (h:H p=some (.lst xs)) :
  ∃(its:List Value) (n:Nat),Vals xs its/\s.heap.get? p=some { cls:=.type "list",data:=.seq its.toArray n }/\xs.length<=sizeLine:=by
 obtain ⟨z,its,n,r,e⟩:=I.hok p _ h
 exact ⟨its,n,r,e,z⟩
theorem Inv.lstUpd {pins:List (Addr×Obj)} {σ:St} {H:Hp} {s:Shared} {p:Addr} {xs ys:List V} {its its':List Value} {n n':Nat} {f:Obj->Obj} (I:Inv X pins σ H s) (h:H p=some (.lst xs))
  (ho:s.heap.get? p=some { cls:=.type "list",data:=.seq its.toArray n }) (hf:f { cls:=.type "list",data:=.seq its.toArray n }={ cls:=.type "list",data:=.seq its'.toArray n' }) (r:Vals ys its') (hz:ys.length<=sizeLine) (t:Nat) :
  Inv X pins σ (upd H p (.lst ys)) { s with heap:=s.heap.update p f,toks:=t }:=by
 have e:(s.heap.update p f).get? p=some { cls:=.type "list",data:=.seq its'.toArray n' }:=by rw [Heap.get?_update_self f ho (by rw [hf]<;>rfl),hf]
 refine I.write (x:=p) (e:=p) (by rw [h];trivial) (.inl rfl) (fun b u hb q=>(Heap.get?_update_other _ _ (Ne.symm hb)).trans q) ⟨_,e⟩ ?_
 exact ⟨hz,its',n',r,e⟩
def Os:V->V->V->Hp->(Hp->Prop)->Prop:=fun o i v H Q=>∃p xs k j,o=.ref p/\i=.int k/\H p=some (.lst xs)/\ixN xs.length k=some j/\Q (upd H p (.lst (xs.set j v)))
theorem ya:Ce X Os:=by
 intro pins s σ H o i v ov iv u Q I ro ri rv h;obtain ⟨p,xs,k,j,rfl,rfl,hp,hj,q⟩:=h;cases ro;obtain ⟨t,rfl⟩:=ri;obtain ⟨its,n,r,ho,hz⟩:=I.lst hp;obtain ⟨h1,h2,h3,h4⟩:=Tj hj;have hl:=r.length;have hn:=P8;have I':Inv X pins σ (upd H p (.lst (xs.set j v))) { s with heap:=s.heap.update p (Obj.mapSeq (·.setIfInBounds j u)) }:=
  I.lstUpd hp ho (zj its n j u) (r.set rv j) (by rw [List.length_set];exact hz) s.toks
 by_cases h0:0<=k
 . have hk:k.toNat=j:=by
    rw [seqIndex_of h0 h4] at h1
    exact Option.some.inj h1
   exact PySem.W.ki_setAt ho h0 (by lia) (by rw [List.size_toArray,<-hl];exact h4) (by rw [hk];exact ⟨_,I',q⟩)
 . have hk:(k+(its.toArray.size:Int)).toNat=j:=by
    rw [seqIndex_neg (by lia) h3] at h1
    rw [List.size_toArray,<-hl]
    exact Option.some.inj h1
   exact PySem.W.ki_setBack ho (by lia) (by rw [List.size_toArray,<-hl];exact h3) (by lia) (by rw [hk];exact ⟨_,I',q⟩)
theorem zX (lo hi:Option Int) (n:Nat):(sliceBounds lo hi none n).1=((HT.sIx n 0 lo:Nat):Int)/\(sliceBounds lo hi none n).2.1=((HT.sIx n n hi:Nat):Int)/\(sliceBounds lo hi none n).2.2=1:=by
 refine ⟨?_,?_,rfl⟩
 . cases lo with
   | none=>simp [sliceBounds,HT.sIx]
   | some i=>
    simp only [sliceBounds,HT.sIx,Option.getD_none,show (1:Int) > 0 by decide,if_true]
    by_cases h:i<0
    . simp only [h,if_true]<;>lia
    . simp only [h,if_false]<;>lia
 . cases hi with
   | none=>simp [sliceBounds,HT.sIx]
   | some i=>
    simp only [sliceBounds,HT.sIx,Option.getD_none,show (1:Int) > 0 by decide,if_true]
    by_cases h:i<0
    . simp only [h,if_true]<;>lia
    . simp only [h,if_false]<;>lia
theorem za2 (its:List Value) (lo hi:Option Int):slicePick its.toArray lo hi none=((its.drop (HT.sIx its.length 0 lo)).take (HT.sIx its.length its.length hi - HT.sIx its.length 0 lo)).toArray:=by obtain ⟨h1,h2,h3⟩:=zX lo hi its.toArray.size;unfold slicePick;rw [h1,h2,h3];simp only [sliceRange_one,pick_run,List.size_toArray]<;>rfl
def Zf (K:Frag):V->Option Int->Option Int->Hp->VK->Prop:=fun x lo hi H Q=>∃a xs,x=.ref a/\SqL K H a xs/\∀p,H p=none->Q (.ref p) (upd H p (.lst (G0 xs lo hi)))
theorem Ti:SlR X (Zf X.K):=by intro pins s σ H x v vl vu lo hi sl Q I rx hs pl pu h;obtain ⟨a,xs,rfl,hx,q⟩:=h;cases rx;obtain ⟨its,r,ht,hz⟩:=I.list hx;have hlen:=r.length;refine ⟨"list",_,slot_list_getitem.lookup,ht.isList.typeIs,?_⟩;refine wpAny_getItem_list_slice ht.isList hs pl pu .none (by simp) ?_ (by rw [List.size_toArray]<;>lia);rw [za2,<-hlen];refine ⟨.ref s.heap.objs.size,_,I.laid (t':=s.toks) (o:=.lst (G0 xs lo hi)) (fun b ob q=>Ψ _ q) (ζ _) ?_,rfl,q _ (I.hok.fresh (ζ _))⟩;exact ⟨Nat.le_trans (Wx xs lo hi) hz,_,0,(r.drop (HT.sIx xs.length 0 lo)).take (HT.sIx xs.length xs.length hi - HT.sIx xs.length 0 lo),Ξ _ rfl⟩
theorem call_len_seq:CallR X (.builtin "len") (fun xs H Q=>∃p ys,xs=[.ref p]/\(SqL X.K H p ys\/SqT X.K H p ys)/\Q (.int ys.length) H):=by
 intro pins s σ H xs us Q I r h;obtain ⟨p,ys,rfl,hq,q⟩:=h;obtain ⟨u,rfl,rx⟩:=D4 r;cases rx;have hn:=P8;rcases hq with hq | hq
 . obtain ⟨its,r',pl,hz⟩:=I.list hq;have hlen:=r'.length;exact Calls.call_len_list pl.isList (by simp only [List.size_toArray]<;>lia) ⟨.int ys.length,H,I.tok _,⟨s.toks+1,by rw [List.size_toArray,hlen]⟩,q⟩
 . obtain ⟨its,r',pl,hz⟩:=I.tuple hq;have hlen:=r'.length;exact len_tuple pl (by simp only [List.size_toArray]<;>lia) ⟨.int ys.length,H,I.tok _,⟨s.toks+1,by rw [List.size_toArray,hlen]⟩,q⟩
theorem zW:CallR X (.builtin "len") (fun xs H Q=>∃z,xs=[.str z]/\z.length<=sizeLine/\Q (.int z.length) H):=by intro pins s σ H xs us Q I r h;obtain ⟨z,rfl,hz,q⟩:=h;obtain ⟨u,rfl,t,rfl⟩:=D4 r;have hn:=P8;exact len_str (by lia) ⟨.int z.length,H,I.tok _,⟨_,rfl⟩,q⟩
theorem CallR.or (h:CallR X f r) (h':CallR X f r'):CallR X f (fun xs H Q=>r xs H Q\/r' xs H Q):=by
 intro pins s σ H xs us Q I rs q;rcases q with q | q
 . exact h pins s σ H xs us Q I rs q
 . exact h' pins s σ H xs us Q I rs q
theorem zV:CallR X (.type "list") (fun xs H Q=>∃p ys,xs=[.ref p]/\(SqL X.K H p ys\/SqT X.K H p ys)/\∀l,H l=none->Q (.ref l) (upd H l (.lst ys))):=by
 intro pins s σ H xs us Q I r h;obtain ⟨p,ys,rfl,hq,q⟩:=h;obtain ⟨u,rfl,rx⟩:=D4 r;cases rx;have fin:∀(its:List Value),Vals ys its->ys.length<=sizeLine->∀(h':Heap) (c':Nat),(∀b o',s.heap.get? b=some o'->h'.get? b=some o') ->
   h'.get? s.heap.objs.size=some { cls:=.type "list",dict:=none,data:=.seq its.toArray c',slots:=#[] }->EP X pins σ Q (.ref s.heap.objs.size) { s with heap:=h' }:=fun its r' hz h' c' kp e=>
  ⟨.ref s.heap.objs.size,_,I.laid (t':=s.toks) kp (ζ _) (show ObjOk X.prog X.w _ h' _ (.lst ys) from ⟨hz,its,c',r',e⟩),rfl,q _ (I.hok.fresh (ζ _))⟩
 rcases hq with hq | hq
 . obtain ⟨its,r',pl,hz⟩:=I.list hq;have hlen:=r'.length;obtain ⟨o,ho,hc,n,hd⟩:=pl.isList;exact call_list_seq p (.inl rfl) ho hc hd (fun h' c' kp e=>fin its r' hz h' c' kp e) (by simp only [List.size_toArray]<;>lia)
 . obtain ⟨its,r',pl,hz⟩:=I.tuple hq;have hlen:=r'.length;obtain ⟨o,ho,hc,n,hd⟩:=pl;exact call_list_seq p (.inr rfl) ho hc hd (fun h' c' kp e=>fin its r' hz h' c' kp e) (by simp only [List.size_toArray]<;>lia)
theorem za3:CallR X (.type "tuple") (fun xs H Q=>∃p ys,xs=[.ref p]/\((SqL X.K H p ys/\∀l,H l=none->Q (.ref l) (upd H l (.tup ys)))\/(SqT X.K H p ys/\Q (.ref p) H))):=by
 intro pins s σ H xs us Q I r h;obtain ⟨p,ys,rfl,h⟩:=h;obtain ⟨u,rfl,rx⟩:=D4 r;cases rx;rcases h with ⟨hq,q⟩ | ⟨hq,q⟩
 . obtain ⟨its,r',pl,hz⟩:=I.list hq;have hlen:=r'.length;refine call_tuple_list pl.isList (fun h' kp=>?_) (by simp only [List.size_toArray]<;>lia);have I1:Inv X pins σ H { s with heap:=h' }:=I.kept (t':=s.toks) kp;have I2:Inv X pins σ (upd H h'.objs.size (.tup ys)) { s with heap:=h'.push { cls:=.type "tuple",data:=.seq its.toArray } }:=
    I1.laid (t':=s.toks) (fun b o e=>Ψ _ e) (ζ _) (show ObjOk X.prog X.w _ _ _ (.tup ys) from ⟨hz,its,r',.mk' (Ξ _ rfl)⟩)
   exact ⟨.ref h'.objs.size,_,I2,rfl,q _ (I1.hok.fresh (ζ _))⟩
 . obtain ⟨its,r',pl,hz⟩:=I.tuple hq;exact call_tuple_same pl ⟨.ref p,H,I,rfl,q⟩
def tyV (K:Frag) (T:String) (x:V) (H:Hp):Prop:=match x with
 | .str _=>T="str"
 | .int _=>T="int"
 | .ref p=>(T="list"/\∃xs,SqL K H p xs)\/(T="tuple"/\∃o,K.lookup p=some o/\o.cls=.type "tuple"/\o.dict=none) \/
  (T="dict"/\((∃kvs,H p=some (.dK kvs))\/∃kvs,H p=some (.dT kvs)))\/(T="set"/\∃S n,H p=some (.set S n))
 | _=>False
theorem qX (I:Inv X pins σ H s) (r:RelV x v) (ty:tyV X.K T x H) :
  s.TypeIs v T/\∀a,v=.ref a->∃ob,s.heap.get? a=some ob/\ob.dict=none:=by
 cases x with
 | str z=>
  obtain ⟨t,rfl⟩:=r
  cases (show T="str" from ty)
  exact ⟨typeIs_str s z t,fun _ e=>nomatch e⟩
 | int i=>
  obtain ⟨t,rfl⟩:=r
  cases (show T="int" from ty)
  exact ⟨typeIs_int s i t,fun _ e=>nomatch e⟩
 | ref p=>
  cases r
  rcases ty with ⟨rfl,xs,hq⟩ | ⟨rfl,o,hk,hc,hd⟩ | ⟨rfl,hk⟩ | ⟨rfl,S,n,hk⟩
  . obtain ⟨its,_,pl,_⟩:=I.list hq;refine ⟨pl.isList.typeIs,fun a e=>?_⟩;cases e;obtain ⟨o,n,e,c,hd,_⟩:=pl;exact ⟨o,e,hd⟩
  . refine ⟨⟨o,I.kIn p o hk,hc⟩,fun a e=>?_⟩;cases e;exact ⟨o,I.kIn _ o hk,hd⟩
  . have z:∃o,s.heap.get? p=some o/\o.ExactDict:=by
     rcases hk with ⟨kvs,hk⟩ | ⟨kvs,hk⟩
     . obtain ⟨_,_,_,_,o,_,_,e,ex,_⟩:=I.hok p _ hk;exact ⟨o,e,ex⟩
     . obtain ⟨_,_,_,_,o,_,_,e,ex,_⟩:=I.hok p _ hk;exact ⟨o,e,ex⟩
    obtain ⟨o,e,ex⟩:=z
    refine ⟨⟨o,e,ex.1⟩,fun a e2=>?_⟩
    cases e2
    exact ⟨o,e,ex.2.1⟩
  . obtain ⟨o,_,_,_,e,ex,_⟩:=I.hok p _ hk;refine ⟨⟨o,e,ex.1⟩,fun a e2=>?_⟩;cases e2;exact ⟨o,e,ex.2.1⟩
 | _=>exact False.elim ty
noncomputable def tBM (K:Frag) (T:String) (r:V->List V->Hp->VK->Prop) (to:TE) (t:TA):TE:=fun σ H Q=>to σ H fun x H1=>tyV K T x H1/\t σ H1 fun xs H2=>r x xs H2 Q
variable {o e:Expr} {es:List Expr} {to:TE} {t:TA} {name:Str} {apos cpos:Pos} {T id:String} {r:V->List V->Hp->VK->Prop}
theorem Oq (pa:PlainAttrs T) (slot:Slot T name id) (hty:typeOf (.builtin id)=pure (.type "method_descriptor")) (hm:MtR X id r) (ho:PE X o to) (ha:PA X (e::es) t)
  (hbase:attributeBase o name X.env (eval o X.env)=eval o X.env:=by rfl)
  (hfew:((backTo cpos (starEach (e::es) X.env)).all (fun x=>!x.1)&&(backToKw cpos (keywordEach [] X.env)).all (fun x=>x.1.isSome)
   && decide ((e::es).length+([]:List Keyword).length+(if ([]:List Keyword).isEmpty then 0 else 1)<30))=true:=by rfl)
  (hline:(apos.endLine==cpos.line)=true:=by rfl) (hs:starEach (e::es) X.env=(false,eval e X.env)::starEach es X.env:=by rfl) (hplain:(backTo cpos (starEach es X.env)).any (·.1)=false:=by rfl) :
  PE X (.Call (.Attribute o name apos) (e::es) [] cpos) (tBM X.K T r to t):=by
 intro pins s σ H Q I h
 refine wpAny_Call_method_late hbase hfew hline rfl (thn (ho pins s σ H _ I h) fun v s1 ⟨x,H1,I1,r1,ty,q1⟩=>?_)
 obtain ⟨h1,h2⟩:=qX I1 r1 ty
 refine ⟨T,id,pa,slot,hty,h1,h2,?_⟩
 have hA:=ha cpos pins s1 σ H1 _ I1 q1
 rw [hs] at hA ⊢
 refine Calls.callWith_builtin (by show (false||(backTo cpos (starEach es X.env)).any (·.1))=false;rw [hplain]<;>rfl) (Calls.evalArgs_plain ?_)
 exact thn hA fun us s2 ⟨vs,H2,I2,r2,q2⟩=>hm pins s2 σ H2 x vs v us Q I2 r1 r2 q2
end
def MtM (X:Cx) (id:String) (r:V->List V->Hp->VK->Prop):Prop:=
 ∀(pins:List (Addr×Obj)) (s:Shared) (σ:St) (H:Hp) (x:V) (xs:List V) (v:Value) (us:List Value) (Q:VK),Inv X pins σ H s->RelV x v->Vals xs us->r x xs H Q ->
  wpAny (model X.prog X.w) X.A (call (.builtin id) (v::us)) (EP X pins σ Q) X.xe s
theorem Vals.one:∀{x:V} {us:List Value},Vals [x] us->∃u,us=[u]/\RelV x u
 | _,_,.cons r .nil=>⟨_,rfl,r⟩
theorem Vals.two:∀{x y:V} {us:List Value},Vals [x,y] us->∃u v,us=[u,v]/\RelV x u/\RelV y v
 | _,_,_,.cons r (.cons q .nil)=>⟨_,_,rfl,r,q⟩
section
variable {X:Cx} {pins:List (Addr×Obj)} {σ:St} {H:Hp} {s:Shared} {l:Addr} {xs ys:List V}
theorem Inv.lset {its its':List Value} {n:Nat} {f:Array Value->Array Value} {t':Nat} (I:Inv X pins σ H s) (hH:H l=some (.lst xs))
  (e:s.heap.get? l=some { cls:=.type "list",data:=.seq its.toArray n }) (hf:f its.toArray=its'.toArray) (hv:Vals ys its') (hz:ys.length<=sizeLine) :
  Inv X pins σ (upd H l (.lst ys)) { s with heap:=s.heap.update l (Obj.mapSeq f),toks:=t' }:=by
 have q:=PySem.IsL.update e f
 rw [hf] at q
 refine I.write (x:=l) (e:=l) (by rw [hH];exact trivial) (.inl rfl) (fun b' u hb hu=>(Heap.get?_update_other s.heap (Obj.mapSeq f) (Ne.symm hb)).trans hu) ⟨_,q⟩ ?_
 exact ⟨hz,its',_,hv,q⟩
theorem Inv.lnew (I:Inv X pins σ H s) (hv:Vals ys its) (hz:ys.length<=sizeLine) :
  Inv X pins σ (upd H s.heap.objs.size (.lst ys)) { s with heap:=s.heap.push { cls:=.type "list",data:=.seq its.toArray },toks:=t' }:=
 I.laid (fun _ _ q=>Ψ _ q) (ζ _) ⟨hz,its,0,hv,Ξ _ rfl⟩
theorem Inv.fresh (I:Inv X pins σ H s):H s.heap.objs.size=none:=I.hok.fresh (ζ _)
theorem Inv.lstM (I:Inv X pins σ H s) (hH:H l=some (.lst xs)):xs.length<=sizeLine/\∃(its:List Value) (n:Nat),Vals xs its/\xs.length=its.length/\s.heap.get? l=some { cls:=.type "list",data:=.seq its.toArray n }:=by obtain ⟨z,its,n,r,e⟩:=I.hok l _ hH;exact ⟨z,its,n,r,r.length,e⟩
end
section
variable {X:Cx}
def Th:V->List V->Hp->VK->Prop:=fun x vs H Q=>∃l xs y,x=.ref l/\vs=[y]/\H l=some (.lst xs)/\xs.length<sizeLine/\Q .non (upd H l (.lst (xs++[y])))
theorem Q7:MtM X "list.append" Th:=by
 intro pins s σ H x vs v us Q I rx rv h;obtain ⟨l,xs,y,rfl,rfl,hH,hz,q⟩:=h;cases rx;obtain ⟨u,rfl,ru⟩:=rv.one;obtain ⟨z,its,n,r,hl,e⟩:=I.lstM hH;refine call_meets F.slot_list_append ⟨_,e,rfl⟩ F.entry_list_append (F.args_list_append_2 _ _) (PySem.list_append l its.toArray n u (by rw [List.size_toArray];lia)) ⟨e,?_⟩;refine ⟨.non,_,I.lset (its':=its++[u]) hH e (by simp) (r.append (.cons ru .nil)) ?_,rfl,q⟩;rw [θ,List.length_singleton]
 lia
def Ze:R2:=fun x y H Q=>∃l b xs zs,x=.ref l/\y=.ref b/\H l=some (.lst xs)/\H b=some (.lst zs)/\xs.length+zs.length<=sizeLine/\∀p,H p=none->Q (.ref p) (upd H p (.lst (xs++zs)))
theorem Cv:OpR X (binaryOp .Add) Ze:=by
 intro pins s σ H x y v u Q I rx ry h;obtain ⟨l,b,xs,zs,rfl,rfl,hH,hB,hz,q⟩:=h;cases rx;cases ry;obtain ⟨z,its,n,r,hl,e⟩:=I.lstM hH;obtain ⟨z2,its2,n2,r2,hl2,e2⟩:=I.lstM hB;refine PySem.P.add_list e e2 ?_ (by rw [List.size_toArray,List.size_toArray];omega);have ea:its.toArray++its2.toArray=(its++its2).toArray:=by simp
 rw [ea];exact ⟨.ref _,_,I.lnew (t':=s.toks) (r.append r2) (by rw [θ];omega),rfl,q _ I.fresh⟩
end
section
variable {κ:Type} [DecidableEq κ]
noncomputable def r6 (kvs:List (κ×V)) (k:κ):Option V:=(kvs.find? fun kv=>decide (kv.1=k)).map (·.2)
noncomputable def v7 (kvs:List (κ×V)) (k:κ) (v:V):List (κ×V):=
 if (kvs.any fun kv=>decide (kv.1=k))=true then kvs.map (fun kv=>if kv.1=k then (kv.1,v) else kv) else kvs++[(k,v)]
theorem La {p:κ×V} {r:List (κ×V)} {k:κ} (e:p.1=k):r6 (p::r) k=some p.2:=by simp [r6,List.find?_cons,e]
theorem Kz {p:κ×V} {r:List (κ×V)} {k:κ} (e:¬p.1=k):r6 (p::r) k=r6 r k:=by simp [r6,List.find?_cons,e]
theorem Uk (k:κ):∀kvs:List (κ×V),(kvs.any fun kv=>decide (kv.1=k))=(r6 kvs k).isSome
 | []=>rfl
 | p::r=>by
  rw [List.any_cons];by_cases e:p.1=k
  . simp only [La e,decide_eq_true e,Bool.true_or,Option.isSome_some]
  . rw [Kz e,decide_eq_false e,Bool.false_or];exact Uk k r
theorem Ww (kvs:List (κ×V)) (k:κ) (v:V):(v7 kvs k v).length<=kvs.length+1:=by
 unfold v7;split
 . rw [List.length_map];lia
 . rw [θ,List.length_cons,List.length_nil];lia
theorem RelO.isSome_eq (r:RelO o u):o.isSome=u.isSome:=by
 cases o with
 | none=>cases u with
  | none=>rfl
  | some _=>exact (show False from r).elim
 | some _=>cases u with
  | none=>exact (show False from r).elim
  | some _=>rfl
theorem KV.val (r:KV kvs vs) (k:κ):RelO (r6 kvs k) (valueAt vs k):=by
 unfold KV at r;induction r with
 | nil=>exact True.intro
 | @cons p q ps qs h t ih=>
  obtain ⟨h1,h2⟩:=h
  by_cases e:p.1=k
  . have e':q.1=k:=h1.symm.trans e;have b:valueAt (q::qs) k=some q.2:=by simp [valueAt,List.find?_cons,e']
    rw [La e,b];exact h2
  . have e':¬q.1=k:=fun z=>e (h1.trans z)
    have b:valueAt (q::qs) k=valueAt qs k:=by simp [valueAt,List.find?_cons,e']
    rw [Kz e,b];exact ih
theorem KV.any (r:KV kvs vs) (k:κ):(kvs.any fun kv=>decide (kv.1=k))=vs.any fun kv=>decide (kv.1=k):=by
 unfold KV at r;induction r with
 | nil=>rfl
 | cons h t ih=>rw [List.any_cons,List.any_cons,ih,h.1]
theorem KV.repl (r:KV kvs vs) (k:κ) (ry:RelV y u) :
  KV (kvs.map fun kv=>if kv.1=k then (kv.1,y) else kv) (vs.map fun kv=>if kv.1=k then (kv.1,u) else kv):=by
 unfold KV at r ⊢
 induction r with
 | nil=>exact .nil
 | @cons p q ps qs h t ih=>
  rw [List.map_cons,List.map_cons]
  refine .cons ?_ ih
  obtain ⟨h1,h2⟩:=h
  by_cases e:p.1=k
  . rw [ξ e,ξ (h1.symm.trans e)];exact ⟨h1,ry⟩
  . rw [ψ e,ψ (fun z=>e (h1.trans z))];exact ⟨h1,h2⟩
theorem KV.put (r:KV kvs vs) (k:κ) (ry:RelV y u):KV (v7 kvs k y) (stored vs k u):=by
 unfold v7 stored;rw [r.any k];by_cases e:(vs.any fun kv=>decide (kv.1=k))=true
 . rw [ξ e,ξ e];exact r.repl k ry
 . rw [ψ e,ψ e];exact Paired.snoc r ⟨rfl,ry⟩
theorem KV.length (r:KV kvs vs):kvs.length=vs.length:=Paired.length r
end
theorem Y4 (r:RelV (kV k) u):(x3 P w).is k u=true:=by
 cases k with
 | inl i=>obtain ⟨t,e⟩:=(show ∃t,u=Value.int i t from r);subst e;exact zG P w i t
 | inr x=>obtain ⟨t,e⟩:=(show ∃t,u=Value.str x t from r);subst e;exact zF P w x t
theorem Vb:∀{ks:List Key} {us:List Value},Vals (ks.map kV) us->ItemsAre (x3 P w) ks us
 | [],_,r=>by rw [List.map_nil] at r;cases r;exact .nil
 | k::ks,_,r=>by
  rw [List.map_cons] at r;cases r with
  | cons h t=>exact .cons (Y4 h) (Vb t)
abbrev KT (H:Hp):List (List Key×V)->List (List Key×Addr×Value)->Prop:=Paired fun p q=>p.1=q.1/\H q.2.1=some (.tup (p.1.map kV))/\RelV p.2 q.2.2
theorem KT.val (r:KT H kvs xs) (k:List Key):RelO (r6 kvs k) ((atKey xs k).map (·.2)):=by
 induction r with
 | nil=>exact True.intro
 | @cons p q ps qs h t ih=>
  obtain ⟨h1,_,h2⟩:=h
  by_cases e:p.1=k
  . have e':q.1=k:=h1.symm.trans e;have b:atKey (q::qs) k=some q.2:=by simp [atKey,List.find?_cons,e']
    rw [La e,b];exact h2
  . have e':¬q.1=k:=fun z=>e (h1.trans z)
    have b:atKey (q::qs) k=atKey qs k:=by simp [atKey,List.find?_cons,e']
    rw [Kz e,b];exact ih
theorem KT.repl (r:KT H kvs xs) (k:List Key) (ry:RelV y u) :
  KT H (kvs.map fun kv=>if kv.1=k then (kv.1,y) else kv) (xs.map (putAt k u)):=by
 induction r with
 | nil=>exact .nil
 | @cons p q ps qs h t ih=>
  rw [List.map_cons,List.map_cons]
  refine .cons ?_ ih
  obtain ⟨h1,h2,h3⟩:=h
  unfold putAt
  by_cases e:p.1=k
  . rw [ξ e,ξ (h1.symm.trans e)];exact ⟨h1,h2,ry⟩
  . rw [ψ e,ψ (fun z=>e (h1.trans z))];exact ⟨h1,h2,h3⟩
theorem KT.put (r:KT H kvs xs) (k:List Key) (hb:H b=some (.tup (k.map kV))) (ry:RelV y u) :
  KT H (v7 kvs k y) (storedH xs k b u):=by
 have e:(kvs.any fun kv=>decide (kv.1=k))=(atKey xs k).isSome:=by rw [Uk,(r.val k).isSome_eq,Option.isSome_map]
 unfold v7 storedH
 rw [e]
 by_cases q:(atKey xs k).isSome=true
 . rw [ξ q,ξ q];exact r.repl k ry
 . rw [ψ q,ψ q];exact Paired.snoc r ⟨rfl,hb,ry⟩
theorem KT.keeps (r:KT H kvs xs) (ht:∀b ys,H b=some (.tup ys)->H' b=some (.tup ys)):KT H' kvs xs:=
 Paired.mapP r fun _ _ z=>⟨z.1,ht _ _ z.2.1,z.2.2⟩
section
variable {P:Program} {w:World} {H:Hp} {h:Heap} {a:Addr}
theorem Op (ok:HOk P w H h) (e:Rd H a u):ObjOk P w H h a u:=e.ok ok
theorem T6 (ok:HOk P w H h) (e:Rd H a (.dK kvs)):kvs.length<=sizeLine/\(a==sysModules)=false/\∃vs,KV kvs vs/\h.DictOf (x3 P w) a vs:=
 show ObjOk P w H h a (.dK kvs) from Op ok e
theorem jK (ok:HOk P w H h) (e:H a=some (.dK kvs)):kvs.length<=sizeLine/\(a==sysModules)=false/\∃vs,KV kvs vs/\h.DictOf (x3 P w) a vs:=T6 ok (.inl e)
theorem Z2 (ok:HOk P w H h) (e:H a=some (.tup (ks.map kV))):(tupleKind (x3 P w)).is h ks a:=by obtain ⟨_,its,r,o,h1,h2,⟨n,h3⟩,_⟩:=(show ObjOk P w H h a (.tup (ks.map kV)) from ok a _ e);exact ⟨o,its.toArray,n,h1,h2,h3,by simpa using Vb r⟩
theorem Y3 (ok:HOk P w H h) (e:Rd H a (.dT kvs)):kvs.length<=sizeLine/\(a==sysModules)=false /\
  ∃xs,KT H kvs xs/\h.DictOfH (tupleKind (x3 P w)) a xs:=by
 obtain ⟨z,y,xs,r,o,es,ep,h1,h2,h3,h4,h5⟩:=(show ObjOk P w H h a (.dT kvs) from Op ok e)
 refine ⟨z,y,xs,r,o,es,ep,h1,h2,h3,h4,fun x hx=>?_,h5⟩
 have all:∀{l:List (List Key×V)} {m:List (List Key×Addr×Value)},KT H l m->∀x∈m,(tupleKind (x3 P w)).is h x.1 x.2.1:=by
  intro l m q;induction q with
  | nil=>intro x hx;exact nomatch hx
  | @cons p q ps qs hq t ih=>
   intro x hx
   rcases List.mem_cons.mp hx with e | hx
   . subst e;exact Z2 ok (by rw [<-hq.1];exact hq.2.1)
   . exact ih x hx
 exact all r x hx
theorem jJ (ok:HOk P w H h) (e:H a=some (.dT kvs)):kvs.length<=sizeLine/\(a==sysModules)=false /\
 ∃xs,KT H kvs xs/\h.DictOfH (tupleKind (x3 P w)) a xs:=Y3 ok (.inl e)
end
def DGet (H:Hp) (a:Addr) (y:V) (r:Option V):Prop:=
 (∃kvs k,Rd H a (.dK kvs)/\y=kV k/\r=r6 kvs k)\/∃kvs k b,Rd H a (.dT kvs)/\y=.ref b/\H b=some (.tup (k.map kV))/\r=r6 kvs k
def DPut (H:Hp) (a:Addr) (y v:V) (H':Hp):Prop:=
 (∃kvs k,H a=some (.dK kvs)/\y=kV k/\kvs.length<sizeLine/\H'=upd H a (.dK (v7 kvs k v))) \/
 ∃kvs k b,H a=some (.dT kvs)/\y=.ref b/\H b=some (.tup (k.map kV))/\kvs.length<sizeLine/\H'=upd H a (.dT (v7 kvs k v))
theorem DGet.k {H:Hp} {a:Addr} {kvs:List (Key×V)} {k:Key} (e:H a=some (.dK kvs)):DGet H a (kV k) (r6 kvs k):=.inl ⟨kvs,k,.inl e,rfl,rfl⟩
theorem DGet.t {H:Hp} {a b:Addr} {kvs:List (List Key×V)} {k:List Key} (e:H a=some (.dT kvs)) (eb:H b=some (.tup (k.map kV))):DGet H a (.ref b) (r6 kvs k):=.inr ⟨kvs,k,b,.inl e,rfl,eb,rfl⟩
theorem DPut.k {H:Hp} {a:Addr} {kvs:List (Key×V)} {k:Key} {v:V} (e:H a=some (.dK kvs)) (hl:kvs.length<sizeLine):DPut H a (kV k) v (upd H a (.dK (v7 kvs k v))):=.inl ⟨kvs,k,e,rfl,hl,rfl⟩
theorem DPut.t {H:Hp} {a b:Addr} {kvs:List (List Key×V)} {k:List Key} {v:V} (e:H a=some (.dT kvs)) (eb:H b=some (.tup (k.map kV))) (hl:kvs.length<sizeLine) :
 DPut H a (.ref b) v (upd H a (.dT (v7 kvs k v))):=.inr ⟨kvs,k,b,e,rfl,eb,hl,rfl⟩
section
variable {X:Cx} {pins:List (Addr×Obj)} {σ:St} {H:Hp} {s:Shared} {a:Addr} {y v:V} {u r:Value} {o:Option V} {A:Around} {E:Value->Shared->Prop}
theorem Inv.big (I:Inv X pins σ H s):sysModules<s.heap.objs.size:=by have h:mainGlobals<s.heap.objs.size:=(I.mod.glob.keeps I.bk).lt;exact Nat.lt_trans (by decide) h
theorem yL (hu:A.units+1<cLine) (I:Inv X pins σ H s) (g:DGet H a y (some v)) (ry:RelV y u) (h:∀w' s',Inv X pins σ H s'->RelV v w'->Q w' s') :
  wpAny (model X.prog X.w) A (getItem (.ref a) u) Q E s:=by
 rcases g with ⟨kvs,k,e,ey,l⟩ | ⟨kvs,k,b,e,ey,eb,l⟩
 . subst ey;obtain ⟨z,hd,vs,rel,dd⟩:=T6 I.hok e;obtain ⟨w',hw,rw'⟩:=RelO.some_of (v:=v) (o:=valueAt vs k) (by rw [l];exact rel.val k);exact wpAny_getItem_of (Y4 ry) dd.mapOf hw (h w' _ (I.tok _) rw')
 . subst ey;cases (show u=Value.ref b from ry);obtain ⟨z,hd,xs,rel,dd⟩:=Y3 I.hok e;obtain ⟨w',hw,rw'⟩:=RelO.some_of (v:=v) (o:=(atKey xs k).map (·.2)) (by rw [l];exact rel.val k);obtain ⟨p,hp,hp2⟩:=Option.map_eq_some_iff.mp hw;refine wpAny_getItem_heap (tupleKind_room_in1 hu) (Z2 I.hok eb) dd hp ?_;rw [hp2];exact h w' _ (I.tok _) rw'
theorem y1y (hu:A.units+1<cLine) (I:Inv X pins σ H s) (g:DGet H a y o) (ry:RelV y u) (h:∀s',Inv X pins σ H s'->Q (.bool o.isSome) s') :
  wpAny (model X.prog X.w) A (compareOp .In u (.ref a)) Q E s:=by
 rcases g with ⟨kvs,k,e,ey,l⟩ | ⟨kvs,k,b,e,ey,eb,l⟩
 . subst ey;obtain ⟨z,hd,vs,rel,dd⟩:=T6 I.hok e;refine wpAny_in_of (Y4 ry) hd dd.mapOf ?_;rw [<-(rel.val k).isSome_eq,<-l];exact h _ (I.tok _)
 . subst ey;cases (show u=Value.ref b from ry);obtain ⟨z,hd,xs,rel,dd⟩:=Y3 I.hok e;refine wpAny_in_heap (tupleKind_room_in1 hu) (Z2 I.hok eb) hd dd ?_;have q:=(rel.val k).isSome_eq;rw [Option.isSome_map] at q;rw [<-q,<-l];exact h _ (I.tok _)
theorem wM (hu:A.units+1<cLine) (I:Inv X pins σ H s) (g:DGet H a y o) (ry:RelV y u) (h:∀s',Inv X pins σ H s'->Q (.bool (!o.isSome)) s') :
  wpAny (model X.prog X.w) A (compareOp .NotIn u (.ref a)) Q E s:=by
 rcases g with ⟨kvs,k,e,ey,l⟩ | ⟨kvs,k,b,e,ey,eb,l⟩
 . subst ey;obtain ⟨z,hd,vs,rel,dd⟩:=T6 I.hok e;refine wpAny_notIn_of (Y4 ry) hd dd.mapOf ?_;rw [<-(rel.val k).isSome_eq,<-l];exact h _ (I.tok _)
 . subst ey;cases (show u=Value.ref b from ry);obtain ⟨z,hd,xs,rel,dd⟩:=Y3 I.hok e;refine wpAny_notIn_heap (tupleKind_room_in1 hu) (Z2 I.hok eb) hd dd ?_;have q:=(rel.val k).isSome_eq;rw [Option.isSome_map] at q;rw [<-q,<-l];exact h _ (I.tok _)
theorem Do (I:Inv X pins σ H s) (mu:Mut (H a)) (hs:Heap.SameBut a s.heap h') (he:∃q,h'.get? a=some q) (new:ObjOk X.prog X.w (upd H a ob) h' a ob) :
  Inv X pins σ (upd H a ob) { s with heap:=h',toks:=t' }:=
 I.write (x:=a) (e:=a) mu (.inl rfl) (fun b q hb z=>(hs.2 b hb).trans z) he new
theorem qW (z:kvs.length<=sizeLine) (hd:(a==sysModules)=false) (rel:KV kvs vs) (dd:h'.DictOf (x3 P w) a vs) :
 ObjOk P w H' h' a (.dK kvs):=⟨z,hd,vs,rel,dd⟩
theorem yK (hu:A.units+1<cLine) (I:Inv X pins σ H s) (g:DPut H a y v H') (ry:RelV y u) (rv:RelV v r) (h:∀s',Inv X pins σ H' s'->Q () s') :
  wpAny (model X.prog X.w) A (setItem (.ref a) u r) Q E s:=by
 rcases g with ⟨kvs,k,e,ey,l,eH⟩ | ⟨kvs,k,b,e,ey,eb,l,eH⟩
 . subst ey eH;obtain ⟨z,hd,vs,rel,dd⟩:=jK I.hok e;have hz:vs.length<=sizeLine:=by rw [<-rel.length];exact z
   have hl:(v7 kvs k v).length<=sizeLine:=by have:=Ww kvs k v;lia
   refine wpAny_setItem_pairs (hsz:=hz) (Y4 ry) dd fun h' dd' hs=>h _ ?_
   have he:∃q,h'.get? a=some q:=let ⟨q,_,_,hq,_⟩:=dd';⟨q,hq⟩
   exact Do I (by rw [e];exact True.intro) hs he (qW hl hd (rel.put k rv) dd')
 . subst ey eH;cases (show u=Value.ref b from ry);obtain ⟨z,hd,xs,rel,dd⟩:=jJ I.hok e;have hz:xs.length<=sizeLine:=by rw [<-Paired.length rel];exact z
   have hl:(v7 kvs k v).length<=sizeLine:=by have:=Ww kvs k v;lia
   refine wpAny_setItem_heap (hsz:=hz) (tupleKind_room_in1 hu) (Z2 I.hok eb) dd fun h' dd' hs=>h _ ?_
   obtain ⟨q,es,ep,hq,h2,h3,h4,_,h5⟩:=dd';refine Do I (by rw [e];exact True.intro) hs ⟨q,hq⟩ ⟨hl,hd,_,(rel.put k eb rv).keeps fun c ys ec=>?_,q,es,ep,hq,h2,h3,h4,h5⟩;rw [d7 (jS ec e (fun z=>nomatch z))];exact ec
end
section
variable {X:Cx} {pins:List (Addr×Obj)} {σ:St} {H:Hp} {s:Shared} {a:Addr} {kvs:List (Key×V)} {A:Around} {E:Value->Shared->Prop}
theorem jI (I:Inv X pins σ H s) (e:Rd H a (.dK kvs)) (h:∀t s',Inv X pins σ H s'->Q (.int kvs.length t) s'):wpAny (model X.prog X.w) A (call (.builtin "len") [.ref a]) Q E s:=by obtain ⟨z,hd,vs,rel,dd⟩:=T6 I.hok e;refine call_len_dict hd dd (by rw [<-rel.length];rw [sizeLine_eq] at z;lia) ?_;rw [<-rel.length];exact h _ _ (I.tok _)
end
theorem zC (I:Inv X pins σ H s) (g:DGet H a y o):s.TypeIs (.ref a) "dict":=by
 rcases g with ⟨kvs,k,e,_,_⟩ | ⟨kvs,k,b,e,_,_,_⟩
 . obtain ⟨_,_,vs,_,dd⟩:=T6 I.hok e;exact dd.typeIs
 . obtain ⟨_,_,xs,_,dd⟩:=Y3 I.hok e;exact dd.typeIs
theorem xZ (h:Heap) (hb:sysModules<h.objs.size):ObjOk P w H (h.push { cls:=.type "dict",data:=.dict #[] }) h.objs.size (.dK []):=
 ⟨Nat.zero_le _,beq_eq_false_iff_ne.mpr (Ne.symm (Nat.ne_of_lt hb)),[],.nil,Heap.DictOf.new h⟩
def qV:TE:=fun _ H Q=>∀p,H p=none->Q (.ref p) (upd H p (.dK []))
section
variable {X:Cx} {pos:Pos}
theorem pe_dnewK:PE X (.Dict [] [] pos) qV:=fun pins s σ H Q I h=>
 wpAny_Dict_empty ⟨.ref s.heap.objs.size,_,I.laid (a:=s.heap.objs.size) (o:=.dK []) (t':=s.toks) (fun _ _ q=>Ψ _ q) (ζ _) (xZ s.heap I.big),rfl,h _ (I.hok.fresh (ζ _))⟩
end
def Qs:List (TE×TE)->St->Hp->(List (V×V)->Hp->Prop)->Prop
 | [],_,H,Q=>Q [] H
 | (tk,tv)::r,σ,H,Q=>tk σ H fun x H1=>tv σ H1 fun y H2=>Qs r σ H2 fun ps H3=>Q ((x,y)::ps) H3
abbrev VV:List (V×V)->List (Value×Value)->Prop:=Paired fun p q=>RelV p.1 q.1/\RelV p.2 q.2
def PPs (X:Cx) (pos:Pos) (keys:List (Option Expr)) (values:List Expr) (trs:List (TE×TE)):Prop:=
 ∀(pins:List (Addr×Obj)) (s:Shared) (σ:St) (H:Hp) (Q:List (V×V)->Hp->Prop),Inv X pins σ H s->Qs trs σ H Q ->
  wpAny (model X.prog X.w) X.A (evalPairs (pairTrees keys values X.env pos)) (fun vs s'=>∃ps H',Inv X pins σ H' s'/\VV ps vs/\Q ps H') X.xe s
theorem wL:PPs X pos [] [] []:=fun pins s σ H Q I h=>pairTrees_nil_walk ⟨[],H,I,.nil,h⟩
theorem xY (hk:PE X k tk) (hv:PE X v tv) (hr:PPs X pos ks vs trs) :
  PPs X pos (some k::ks) (v::vs) ((tk,tv)::trs):=fun pins s σ H Q I h=>
 pairTrees_cons_walk (thn (hk pins s σ H _ I h) fun u s1 ⟨x,H1,I1,rx,q1⟩=>thn (hv pins s1 σ H1 _ I1 q1) fun w2 s2 ⟨y,H2,I2,ry,q2⟩=>
  thn (hr pins s2 σ H2 _ I2 q2) fun ws s3 ⟨ps,H3,I3,rel,q3⟩=>⟨(x,y)::ps,H3,I3,.cons ⟨rx,ry⟩ rel,q3⟩)
end L2
namespace Att
open PySem PySem.W PySem.Calls PyProof.Rows
theorem z78:∀(ns:List Int) (vs:List Value),WellAll P h vs (ns.map WData.int)->IntsAre vs ns:=by
 intro ns;induction ns with
 | nil=>
  intro vs w
  rw [List.map_nil] at w
  cases w
  exact .nil
 | cons n ns ih=>
  intro vs w
  rw [List.map_cons] at w
  cases w with
  | cons a b=>
   cases a
   exact .cons _ _ (ih _ b)
theorem yJ {l:OpenLaw} {n:Nat} (hn:l.most=some n) {P:Params} {h:Heap} {args:List WData} {vals:List Value}
  (hpre:l.row.toRowW.claim.pre args=true) (hwl:WellAll P h vals args) :
  ∃a vs ns,vals=[Value.ref a]/\args=[WData.list (ns.map WData.int)]/\h.get? a=some { cls:=.type "list",data:=.seq vs.toArray }/\IntsAre vs ns/\ns.length<=n:=by
 have hsh:WShape.hasAll [] args [.list .int]=true:=(pre_splitW hpre).1
 have hc:l.pre.holds [] { args:=args }=true:=(pre_splitW hpre).2
 obtain ⟨d,r,rfl,h1,h2⟩:=hasAllW_cons hsh
 obtain rfl:=hasAllW_nil h2
 obtain ⟨xs,rfl,h3⟩:=hasW_list h1
 obtain ⟨ns,rfl⟩:=items_int h3
 have hlen:ns.length<=n:=by
  unfold OpenLaw.pre at hc;have h4:(WTm.not (.lt (.lit (.int (n:Int))) (.len (.arg 0)))).holds [] { args:=[.list (ns.map .int)] }=true:=by have h4:=(holds_andW hc).1;rw [hn] at h4;exact h4
  have h5:=condW_of h4 (w_not (w_lt w_lit (w_len_list (w_arg rfl))));rw [List.length_map] at h5;refine Nat.le_of_not_lt fun q=>?_
  have q':(n:Int)<((ns.length:Nat):Int):=by omega
  first
   | (rw [decide_eq_true q'] at h5;exact absurd h5 (by decide))
   | (simp at h5;omega)
 cases hwl with
 | cons w1 w2=>
  cases w2
  cases w1 with
  | list ho hall=>exact ⟨_,_,ns,rfl,rfl,ho,z78 ns _ hall,hlen⟩
theorem yI (l:OpenLaw) (args:List WData):l.row.toRowW.claim.post args (.bool true) args=true:=
 postW_of (r:=l.row.toRowW) (X:=(true==true))
  (show WShape.has [] (.bool true) .bool=true by first | rfl | decide | simp [WShape.has,WShape.arms,WShape.armsAll])
  (show (WTm.eq .res (.lit (.bool true))).value [] { args:=args,res:=some (.bool true),after:=args }=some (.bool (true==true)) from w_eq_bool (w_res rfl) w_lit) rfl
theorem attach_call {l:OpenLaw} {n:Nat} {q:Program} {loose:List Str} {XP:(Str->Option Value)->Heap->Prop} {YP:World->Heap->Prop} {d:DefRec}
  (hn:l.most=some n) (hdf:d.params.defaults=[])
  (call:∀(w:World) (s₀ s₁:Shared) (mg mb:Str->Option Value) (fa:Addr) (o:Obj) (pm cd doc:Value) (a:Addr) (vs:List Value) (ns:List Int),
   Ground q loose [] XP w s₀ mg mb s₁.heap->YP w s₁.heap ->
   s₁.heap.get? fa=some o->o.data=.func (docDef d.name d.params d.body d.scope pm cd doc)->s₁.heap.CodeRec cd d.name->mg d.name=some (.ref fa) ->
   s₁.heap.get? a=some { cls:=.type "list",data:=.seq vs.toArray }->IntsAre vs ns->ns.length<=n->s₁.gens=#[] ->
   codeAny (model l.prog w) callerA (.call (.ref fa) ⟨[.ref a],[]⟩) (fun r s'=>r=.ok (.ret (.bool true))/\OldK s₁.heap s'.heap/\s'.os=s₁.os/\AllBare s'.gens) s₁) :
  WalkO q loose XP YP l.row.toRowW d [] (fun f vs=>PySem.call f vs):=by
 intro w s₀ s₁ mg mb G Y fa o pm cd doc dV kV ho hd hcd hD hmg hg args vals as hpre hlay hrd hwl hlo
 obtain rfl:dV=.none:=Dflts.none hD hdf
 obtain rfl:kV=.none:=Dflts.noKw hD
 obtain ⟨a,vs,ns,rfl,rfl,hobj,hints,hlen⟩:=yJ hn hpre hwl
 refine enter_call (codeAny_mono (call w s₀ s₁ mg mb fa o pm cd doc a vs ns G Y ho (fd_plain hd) hcd hmg hobj hints hlen hg) fun r s' hq=>?_)
 obtain ⟨rfl,h2,h3,h4⟩:=hq
 exact ⟨.inl ⟨.bool true,.bool true,[],rfl,fun _=>rfl,.bool true,yI l _,fun _=>⟨List.Pairwise.nil,fun _ hm=>(nomatch hm)⟩⟩,h2,h3,h4⟩
section
def noObjs (h:Heap):Heap:={ h with objs:=#[] }
theorem noObjs_get (h:Heap) (b:Addr):(noObjs h).get? b=none:=by
 cases e:(noObjs h).get? b with
 | none=>rfl
 | some o=>exact absurd (Heap.lt_size e) (Nat.not_lt_zero _)
theorem fr_all (n:h.Ns L m):Fr (noObjs h) L h m:=
 ⟨n,fun b o e=>(by rw [noObjs_get] at e;cases e),Nat.zero_le _⟩
end
end Att
namespace L2
open PySem PySem.Spec PyProof.Rows
theorem Va:∀{vs:List Value} {ns:List Int},IntsAre vs ns->Vals (ns.map V.int) vs
 | _,_,.nil=>.nil
 | _,_,.cons n t h=>.cons ⟨t,rfl⟩ (Va h)
def Ca (H:Hp):Prop:=∀b,H b=none\/∃o xs,H b=some (.frz o (.lst xs))
theorem xX {P:Program} {w:World} {K:Frag} {mg mb:Str->Option Value} {CX:CXT} {k:Nat} {fa a:Addr} {fd:FuncData} {x:Str} {sp:Sp} {s₁:Shared} {vs:List Value} {ns:List Int}
  (KX:K.In s₁.heap) (hns:s₁.heap.Ns mainGlobals mg) (hb:s₁.heap.Ns builtinsNs mb) (hbb:∀x:Str,x≠"__name__"->mb x=bootBuiltins x) (hlim:s₁.heap.NoLimit) (hg:s₁.gens=#[])
  (ha:s₁.heap.get? a=some { cls:=.type "list",data:=.seq vs.toArray }) (hi:IntsAre vs ns) (hl:ns.length<=sizeLine) (hr:Room k callerA)
  (F:∀base:Heap,K.In base->base.Ns mainGlobals mg->FnOk P w K mg base CX k fa fd [x] sp) (hbind:∀(s:Shared) (u:Value),BindsTo s fd ⟨[u],[]⟩ [(x,u)])
  (hsp:∀H:Hp,Ca H->SqL K H a (ns.map V.int)->sp [.ref a] H (fun v _=>v=.bl true) fun _ _ _=>False)
  (hCX:∀H e s',CX [] H s₁ (fun _ _ _=>False) e s'->False) :
  codeAny (model P w) callerA (.call (.ref fa) ⟨[.ref a],[]⟩) (fun r s'=>r=.ok (.ret (.bool true))/\OldK s₁.heap s'.heap/\s'.os=s₁.os/\AllBare s'.gens) s₁:=by
 have rv:=Va hi
 have lenV:=hi.length
 have core:∀H:Hp,Ca H->SqL K H a (ns.map V.int)->HOk P w H s₁.heap->(∀b,H b≠none->b=a)->(H a≠none->K.lookup a=none) ->
   codeAny (model P w) callerA (.call (.ref fa) ⟨[.ref a],[]⟩) (fun r s'=>r=.ok (.ret (.bool true))/\OldK s₁.heap s'.heap/\s'.os=s₁.os/\AllBare s'.gens) s₁:=by
  intro H hO hS hok hA hK
  have base_of:∀{b:Addr} {o:Obj},s₁.heap.get? b=some o->H b=none->(G1 s₁.heap H).get? b=some o:=fun e n=>yf e n
  have noA:∀{b:Addr} {o:Obj} {es:Array DictEntry} {ep:Nat},s₁.heap.get? b=some o->o.data=.dict es ep->H b=none:=fun {b o es ep} e d=>by
   cases q:H b with
   | none=>rfl
   | some u=>
    have e':b=a:=hA b (by rw [q];simp)
    subst e'
    rw [ha] at e;cases e
    have d':Data.seq vs.toArray _=Data.dict es ep:=d
    cases d'
  have nsK:∀{b:Addr} {m:Str->Option Value},s₁.heap.Ns b m->(G1 s₁.heap H).Ns b m:=fun {b m} ⟨o,es,ep,e,d,r⟩=>⟨o,es,ep,base_of e (noA e d),d,r⟩
  have hKb:K.In (G1 s₁.heap H):=fun b o e=>base_of (KX b o e) (by
   cases q:H b with
   | none=>rfl
   | some u=>
    have e':b=a:=hA b (by rw [q];simp)
    subst e'
    rw [hK (by rw [q];simp)] at e;cases e)
  have hM:Mod K mg (G1 s₁.heap H):=⟨hKb,nsK hns,⟨mb,nsK hb,hbb⟩,let ⟨mc,h1,h2⟩:=hlim;⟨mc,nsK h1,h2⟩⟩
  have e0:Env0 P w K mg (G1 s₁.heap H) callerA [] s₁ H:=⟨rfl,hM,fun b o e=>wT e,Nat.le_of_eq (yQ _ _),trivial,fun b hb=>absurd (show b∈([]:List Addr) from hb) (by simp),hok,.of_eq hg⟩
  refine codeAny_mono ((F _ hKb (nsK hns)).run callerA [] s₁ H ⟨[.ref a],[]⟩ [.ref a] [.ref a] _ _ hr e0 (hbind s₁ (.ref a)) (.cons rfl .nil) (hsp H hO hS)) fun r s' h=>?_
  cases r with
  | error e=>exact (hCX H e s' h).elim
  | ok fl=>
   cases fl with
   | next=>exact False.elim h
   | brk=>exact False.elim h
   | cont=>exact False.elim h
   | ret u=>
    obtain ⟨v,H',os,bare,un,hok',r',q⟩:=h
    have q':v=.bl true:=q
    subst q'
    obtain rfl:u=Value.bool true:=r'
    refine ⟨rfl,OldK.of_keep fun b o e=>?_,os,bare⟩
    cases q:H b with
    | none=>exact un.keep b o e q (by intro z;exact absurd (show b∈([]:List Addr) from z) (by simp)) (by simp)
    | some u=>
     rcases hO b with z | ⟨ob,xs,z⟩
     . rw [q] at z;cases z
     . have z2:=un.frzs b ob _ z;obtain ⟨e1,_⟩:=hok b _ z;obtain ⟨e2,_⟩:=hok' b _ z2;rw [e] at e1;cases e1;exact e2
 cases hk:K.lookup a with
 | some o=>
  have e:=KX a o hk
  rw [ha] at e
  cases e
  refine core (fun _=>none) (fun _=>.inl rfl) (.inr ⟨_,vs.toArray,_,hk,rfl,rfl,rfl,by rw [List.size_toArray,lenV];exact hl,by simpa using rv⟩) (fun b u z=>by have z':(none:Option HO)=some u:=z;cases z') (fun b z=>absurd rfl z) fun z=>absurd rfl z
 | none=>
  refine core (fun b=>if b=a then some (.frz { cls:=.type "list",data:=.seq vs.toArray } (.lst (ns.map V.int))) else none) (fun b=>?_) (.inl (.inr ⟨{ cls:=.type "list",data:=.seq vs.toArray },ξ rfl⟩)) (fun b u z=>?_) (fun b z=>?_) fun _=>hk
  . by_cases hb:b=a
    . exact .inr ⟨_,_,ξ hb⟩
    . exact .inl (ψ hb)
  . by_cases hb:b=a
    . have z':=(ξ hb).symm.trans z;cases z';subst hb;exact ⟨ha,by rw [List.length_map];exact hl,vs,_,rv,ha⟩
    . have z':=(ψ hb).symm.trans z;cases z'
  . by_cases hb:b=a
    . exact hb
    . exact absurd (ψ hb) z
theorem walk_of {l:PySem.W.OpenLaw} {n k:Nat} {q:Program} {loose:List Str} {XP:(Str->Option Value)->Heap->Prop} {YP:World->Heap->Prop} {d:DefRec} {K:Params->Frag} {CX:World->CXT} {sp:World->Sp} {x:Str}
  (hn:l.most=some n) (hn2:n<=sizeLine) (hdf:d.params.defaults=[]) (hr:Room k callerA)
  (hY:∀(w:World) (h:Heap),YP w h->(K w.params).In h)
  (F:∀(w:World) (mg:Str->Option Value) (fa:Addr) (h:Heap),(K w.params).In h->h.Ns mainGlobals mg->mg d.name=some (.ref fa) ->
   ∃fd:FuncData,(∀(s:Shared) (u:Value),BindsTo s fd ⟨[u],[]⟩ [(x,u)]) /\
    ∀base:Heap,(K w.params).In base->base.Ns mainGlobals mg->FnOk l.prog w (K w.params) mg base (CX w) k fa fd [x] (sp w))
  (hsp:∀(w:World) (H:Hp) (a:Addr) (ns:List Int),ns.length<=n->Ca H->SqL (K w.params) H a (ns.map V.int)->sp w [.ref a] H (fun v _=>v=.bl true) fun _ _ _=>False)
  (hCX:∀(w:World) (H:Hp) (s:Shared) (e:Value) (s':Shared),CX w [] H s (fun _ _ _=>False) e s'->False) :
  PySem.W.WalkO q loose XP YP l.row.toRowW d [] (fun f vs=>PySem.call f vs):=by
 refine Att.attach_call hn hdf fun w s₀ s₁ mg mb fa o pm cd doc a vs ns G Y ho hd hcd hmg hobj hints hlen hg=>?_
 have KX:=hY w _ Y
 obtain ⟨fd,hb,hF⟩:=F w mg fa _ KX G.T.g hmg
 exact xX KX G.T.g G.T.b G.T.builtins G.T.nolimit hg hobj hints (Nat.le_trans hlen hn2) hr hF hb (fun H hO hS=>hsp w H a ns hlen hO hS) fun H e s'=>hCX w H s₁ e s'
noncomputable def J8 (s:Stmt):Arguments:=match s with
 | .FunctionDef _ a _ _ _ _ _ _ _ _=>a
 | _=>{ posonlyargs:=[],args:=[],vararg:=none,kwonlyargs:=[],kw_defaults:=[],kwarg:=none,defaults:=[] }
noncomputable def y9 (s:Stmt):List Stmt:=match s with
 | .FunctionDef _ _ b _ _ _ _ _ _ _=>b
 | _=>[]
noncomputable def d9 (s:Stmt):Scope:=match s with
 | .FunctionDef _ _ _ _ _ _ sc _ _ _=>sc
 | _=>{ kind:=.function,names:=[],isGenerator:=false,isCoroutine:=false }
structure Fun (K:Frag) (x qual:Str) (st:Stmt) (f:Addr) (fd:FuncData):Prop where
 ex:∃(oc:Value) (od:Option Addr) (kV doc pm:Value) (an:Option Addr) (cdv ct:Value) (osl:Array (Option Value)),
  fd=PySem.W.fnOf x qual (J8 st) (y9 st) (d9 st) .none kV doc pm an cdv ct/\K.lookup f=some ⟨oc,od,.func fd,osl⟩/\codeIn K cdv qual=true
 kp:keepIn K (.ref f)=true
section
variable {K:Frag}
theorem Fun.binds {x qual:Str} {st:Stmt} {f:Addr} {fd:FuncData} {ps:List Str} (F:Fun K x qual st f fd)
  (h:∀(kV doc pm:Value) (an:Option Addr) (cdv ct:Value) (us:List Value),us.length=ps.length->bindArgs (PySem.W.fnOf x qual (J8 st) (y9 st) (d9 st) .none kV doc pm an cdv ct) ⟨us,[]⟩=pure (ps.zip us)):Binds K fd ps []:=by
 obtain ⟨oc,od,kV,doc,pm,an,cdv,ct,osl,rfl,lk,hcd⟩:=F.ex
 exact .all (h kV doc pm an cdv ct)
theorem qU {x qual:Str} {st:Stmt} {f:Addr} {oc:Value} {od an:Option Addr} {osl:Array (Option Value)} {kV doc pm cdv ct:Value} (l:K.lookup f=some ⟨oc,od,.func (PySem.W.fnOf x qual (J8 st) (y9 st) (d9 st) .none kV doc pm an cdv ct),osl⟩)
 (c:codeIn K cdv qual=true) (k:keepIn K (.ref f)=true):Fun K x qual st f (PySem.W.fnOf x qual (J8 st) (y9 st) (d9 st) .none kV doc pm an cdv ct):=⟨⟨oc,od,kV,doc,pm,an,cdv,ct,osl,rfl,l,c⟩,k⟩
end
section
variable {X:Cx}
theorem call_lenD:CallR X (.builtin "len") (fun xs H Q=>∃a kvs,xs=[V.ref a]/\H a=some (.dK kvs)/\Q (.int kvs.length) H):=by intro pins s σ H xs us Q I r h;obtain ⟨a,kvs,rfl,ha,q⟩:=h;obtain ⟨u,rfl,ru⟩:=D4 r;cases ru;exact jI I (.inl ha) fun t s' I'=>⟨.int kvs.length,H,I',⟨t,rfl⟩,q⟩
end
def Same (H H':Hp):Prop:=∀b o,H b=some o->H' b=some o
theorem Same.refl (H:Hp):Same H H:=fun _ _ h=>h
theorem Same.trans (a:Same H H1) (b:Same H1 H2):Same H H2:=fun c o h=>b c o (a c o h)
end L2
set_option maxHeartbeats 4000000
namespace L2
open PySem PySem.Spec PyProof.Rows
noncomputable def n6 (cells:List (Str×Addr)):List (Str×NameKind)->List (Str×Addr)->List (Str×Addr)
 | [],acc=>acc
 | (n,k)::r,acc=>n6 cells r (if k==.free then (n,(cells.lookup n).getD 0)::acc else acc)
theorem Xu:∀{names:List (Str×NameKind)} {acc:List (Str×Addr)},
  (∀y∈names,y.2=.free->∃c,cells.lookup y.1=some c)->(∀y c,acc.lookup y=some c->cells.lookup y=some c)->(n6 cells names acc).lookup x=some c->cells.lookup x=some c
 | [],acc,_,ha,h=>ha x c h
 | (n,k)::r,acc,hf,ha,h=>by
  refine Xu (names:=r) (fun y hy=>hf y (List.mem_cons_of_mem _ hy)) (fun y c'=>?_) h;by_cases hk:k=.free
  . subst hk;obtain ⟨c0,e0⟩:=hf (n,.free) List.mem_cons_self rfl;intro e;have e1:(if (NameKind.free==NameKind.free)=true then (n,(cells.lookup n).getD 0)::acc else acc)=(n,(cells.lookup n).getD 0)::acc:=ξ (show (NameKind.free==NameKind.free)=true from rfl);rw [e1,List.lookup_cons] at e;cases hyn:y==n with
    | true=>
     rw [hyn] at e
     have e2:y=n:=by simpa using hyn
     subst e2
     have e3:=Option.some.inj e
     have e0':cells.lookup y=some c0:=e0
     rw [e0'] at e3 ⊢
     exact congrArg some e3
    | false=>rw [hyn] at e;exact ha y c' e
  . have e1:(if (k==NameKind.free)=true then (n,(cells.lookup n).getD 0)::acc else acc)=acc:=ψ (by simpa using hk);rw [e1];exact ha y c'
theorem Mf:∀{names:List (Str×NameKind)} {acc:List (Str×Addr)},
  ((∃c,acc.lookup x=some c)\/∃y∈names,y.2=.free/\y.1=x)->∃c,(n6 cells names acc).lookup x=some c
 | [],acc,h=>by
  rcases h with h | ⟨y,hy,_⟩
  . exact h
  . cases hy
 | (n,k)::r,acc,h=>by
  refine Mf (names:=r) ?_;by_cases hk:k=.free
  . subst hk;have e1:(if (NameKind.free==NameKind.free)=true then (n,(cells.lookup n).getD 0)::acc else acc)=(n,(cells.lookup n).getD 0)::acc:=ξ (show (NameKind.free==NameKind.free)=true from rfl);rw [e1,List.lookup_cons];cases hxn:x==n with
    | true=>exact .inl ⟨_,rfl⟩
    | false=>
     rcases h with h | ⟨y,hy,hf,e⟩
     . exact .inl h
     . rcases List.mem_cons.mp hy with z | z
       . subst z;have e':n=x:=e;subst e';simp at hxn
       . exact .inr ⟨y,z,hf,e⟩
  . have e1:(if (k==NameKind.free)=true then (n,(cells.lookup n).getD 0)::acc else acc)=acc:=ψ (by simpa using hk);rw [e1];rcases h with h | ⟨y,hy,hf,e⟩
    . exact .inl h
    . rcases List.mem_cons.mp hy with z | z
      . subst z;exact absurd hf hk
      . exact .inr ⟨y,z,hf,e⟩
theorem Xo (hf:∀y∈scope.names,y.2=.free->∃c,env.cells.lookup y.1=some c):closureFor scope env=pure (n6 env.cells scope.names []):=by
 have go:∀(names:List (Str×NameKind)) (acc:List (Str×Addr)),(∀y∈names,y.2=.free->∃c,env.cells.lookup y.1=some c) ->
   (forIn names acc fun x cs=>if (x.2==NameKind.free)=true then do let a <-cellOf env x.1;pure (ForInStep.yield ((x.1,a)::cs)) else pure (ForInStep.yield cs):Sem (List (Str×Addr)))=pure (n6 env.cells names acc):=by
  intro names
  induction names with
  | nil=>intro acc _;rfl
  | cons p r ih=>
   intro acc h
   obtain ⟨n,k⟩:=p
   rw [List.forIn_cons]
   by_cases hk:k=.free
   . subst hk;obtain ⟨c,e⟩:=h (n,.free) List.mem_cons_self rfl;have e':env.cells.lookup n=some c:=e;have e1:cellOf env n=pure c:=by unfold cellOf;rw [e']
     have e2:n6 env.cells ((n,NameKind.free)::r) acc=n6 env.cells r ((n,c)::acc):=by show n6 env.cells r (if (NameKind.free==NameKind.free)=true then (n,(env.cells.lookup n).getD 0)::acc else acc)=_;rw [ξ (show (NameKind.free==NameKind.free)=true from rfl),e'];rfl
     rw [e2,<-ih _ fun y hy=>h y (List.mem_cons_of_mem _ hy)];show ((if (NameKind.free==NameKind.free)=true then do let a <-cellOf env n;pure (ForInStep.yield ((n,a)::acc)) else pure (ForInStep.yield acc)) >>= _:Sem _)=_;rw [ξ (show (NameKind.free==NameKind.free)=true from rfl),e1];rfl
   . have hk':(k==NameKind.free)=false:=by simpa using hk
     have e2:n6 env.cells ((n,k)::r) acc=n6 env.cells r acc:=by show n6 env.cells r (if (k==NameKind.free)=true then _ else acc)=_;rw [ψ (by rw [hk'];exact η)]
     rw [e2,<-ih _ fun y hy=>h y (List.mem_cons_of_mem _ hy)];show ((if (k==NameKind.free)=true then do let a <-cellOf env n;pure (ForInStep.yield ((n,a)::acc)) else pure (ForInStep.yield acc)) >>= _:Sem _)=_;rw [ψ (by rw [hk'];exact η)];rfl
 have:=go scope.names [] hf;unfold closureFor;simpa using this
theorem zU (I:Nat->Shared->Prop)
  (turn:∀n s,I n s->wpAny (model prog w) A (pyNext it) (fun r s₁=>match r with
   | none=>R (.ok .next) s₁
   | some v=>wpAny (model prog w) A (letOwnedTupleGo target it v) (fun _ s₁'=>wpAny (model prog w) A (assign target env v) (fun _ s₂=>
    wpAny (model prog w) A (forIn ifs true fun c r=>if r=true then do let ok <-isTrue c env (eval c env);pure (ForInStep.yield ok) else pure (ForInStep.yield r)) (fun ok s₃=>
     if ok=true then wpAny (model prog w) A (eval elt env) (fun x s₄=>
      wpAny (model prog w) A (call (.builtin "list.append") [acc,x]) (fun _ s₅=>∃m,m<n/\I m s₅) (fun _ _=>False) s₄) (fun _ _=>False) s₃
     else ∃m,m<n/\I m s₃) (fun _ _=>False) s₂) (fun _ _=>False) s₁') (fun _ _=>False) s₁) (fun _ _=>False) s)
  (n:Nat) (h:I n s) :
  codeAny (model prog w) A (.compLoop (.ListComp elt [⟨target,iter,ifs,0⟩] scope pos) 0 it acc env) R s:=by
 refine codeAny_loop rfl I (fun n s hI=>?_) n h
 show wpAny _ A ((compTurn (.ListComp elt [⟨target,iter,ifs,0⟩] scope pos) 0 it acc env).onRaise (fun x=>do noteFrame x env;theTreesLotGoes x)) _ _ s
 refine wpAny_noted ?_
 rw [compTurn_list]
 refine χ (wpAny_standAt (χ (wpAny_mono (turn n s hI) (fun r s₁ h₁=>?_) fun _ _ h'=>h'.elim)))
 cases r with
 | none=>exact ω h₁
 | some v=>
  refine χ (wpAny_mono h₁ (fun _ s₁' h₁'=>?_) fun _ _ h'=>h'.elim)
  refine χ (wpAny_mono h₁' (fun _ s₂ h₂=>χ (wpAny_mono h₂ (fun ok s₃ h₃=>?_) fun _ _ h'=>h'.elim)) fun _ _ h'=>h'.elim)
  cases ok with
  | false=>exact ω ⟨rfl,h₃⟩
  | true=>
   exact χ (χ (wpAny_mono h₃ (fun x s₄ h₄=>χ (wpAny_mono h₄ (fun _ s₅ h₅=>ω (ω ⟨rfl,h₅⟩)) fun _ _ h'=>h'.elim)) fun _ _ h'=>h'.elim))
theorem Mr {env:Env}:∀{names:List (Str×NameKind)} {x:Str},
  (names.map fun (n,k)=>if (k==NameKind.free&&env.scope.kind==.function&&env.kindOf n==some .cell) then (n,NameKind.cell) else (n,k)).lookup x =
   (names.lookup x).map fun k=>if (k==NameKind.free&&env.scope.kind==.function&&env.kindOf x==some .cell) then NameKind.cell else k
 | [],_=>rfl
 | (n,k)::r,x=>by
  have ih:=@Mr env r x;show List.lookup x ((if (k==NameKind.free&&env.scope.kind==.function&&env.kindOf n==some .cell)=true then (n,NameKind.cell) else (n,k))::_)=_;cases hx:x==n with
  | true=>
   have e:x=n:=by simpa using hx
   subst e
   by_cases hc:(k==NameKind.free&&env.scope.kind==.function&&env.kindOf x==some .cell)=true
   . rw [ξ hc];simp only [List.lookup_cons,hx,Option.map_some,hc,if_true]
   . rw [ψ hc];simp only [List.lookup_cons,hx,Option.map_some,hc,if_false];rfl
  | false=>
   by_cases hc:(k==NameKind.free&&env.scope.kind==.function&&env.kindOf n==some .cell)=true
   . rw [ξ hc];simp only [List.lookup_cons,hx];exact ih
   . rw [ψ hc];simp only [List.lookup_cons,hx];exact ih
def j6 (X:Cx) (sc:Scope) (N':List Str) (fp:List Addr) (s₃:Shared) (H₃:Hp):Cx:=
 { X with env:=compEnvC sc (n6 X.env.cells sc.names []) s₃.heap.objs.size X.env,N:=N',s₀:=s₃,H₀:=H₃,outer:=X.stack,ex:=fp,fn:=fun _=>false,pn:=[],xe:=fun _ _=>False }
noncomputable def E0 (ix:List Nat) (σ:St):St:=ix.map fun j=>(σ[j]?).getD none
structure CompOk (X:Cx) (sc:Scope) (caps:List Str) (ix:List Nat):Prop where
 calm:X.calm=true
 kind:sc.kind=.function
 ncell:∀y∈sc.names,y.2≠.cell
 free:∀y∈sc.names,y.2=.free->X.env.kindOf y.1=some .cell\/X.env.kindOf y.1=some .free
 names:∀y∈sc.names,y.2=.local->sc.names.lookup y.1=some .local
 cap:∀(j:Nat) x,caps[j]?=some x->sc.names.lookup x=some .free/\∃i,ix[j]?=some i/\X.N[i]?=some x
 len:ix.length=caps.length
noncomputable def Uz (fsc:Scope) (N:List Str) (sc:Scope) (caps:List Str) (ix:List Nat):Bool:=
 sc.kind==.function&&sc.names.all (fun y=>y.2 != .cell)&&sc.names.all (fun y=>y.2 != .free||(fsc.names.lookup y.1==some .cell||fsc.names.lookup y.1==some .free)) &&
  sc.names.all (fun y=>y.2 != .local||sc.names.lookup y.1==some .local)&&caps.all (fun x=>sc.names.lookup x==some .free)&&(ix.map fun i=>N[i]?)==caps.map some
theorem F3 (hc:X.calm=true) (h:Uz X.env.scope X.N sc caps ix=true):CompOk X sc caps ix:=by
 unfold Uz at h;simp only [Bool.and_eq_true] at h;obtain ⟨⟨⟨⟨⟨h1,h2⟩,h3⟩,h4⟩,h5⟩,h6⟩:=h;have e6:(ix.map fun i=>X.N[i]?)=caps.map some:=by simpa using h6
 have elen:ix.length=caps.length:=by simpa using congrArg List.length e6
 refine ⟨hc,by simpa using h1,fun y hy=>?_,fun y hy hf=>?_,fun y hy hl=>?_,fun j x hj=>⟨?_,?_⟩,elen⟩
 . have:=List.all_eq_true.mp h2 y hy;simpa using this
 . have:=List.all_eq_true.mp h3 y hy;rw [hf] at this;simp only [bne_self_eq_false,Bool.false_or,Bool.or_eq_true,beq_iff_eq] at this;exact this
 . have:=List.all_eq_true.mp h4 y hy;rw [hl] at this;simpa using this
 . have:=List.all_eq_true.mp h5 x (List.mem_of_getElem? hj);simpa using this
 . have hjl:j<ix.length:=by rw [elen];exact (List.getElem?_eq_some_iff.mp hj).1
   refine ⟨ix[j],List.getElem?_eq_getElem hjl,?_⟩;have q:=congrArg (fun l=>l[j]?) e6;simp only [List.getElem?_map,List.getElem?_eq_getElem hjl,hj,Option.map_some] at q;exact Option.some.inj q
section
variable {X:Cx} {sc:Scope} {tgs caps:List Str} {ix:List Nat} {pins:List (Addr×Obj)} {σ:St} {H:Hp} {s:Shared} {fp:List Addr}
theorem CompOk.free_cell (C:CompOk X sc caps ix) (I:Inv X pins σ H s):∀y∈sc.names,y.2=.free->∃c,X.env.cells.lookup y.1=some c:=fun y hy hf=>I.ok.has y.1 (C.free y hy hf)
theorem CompOk.sub (C:CompOk X sc caps ix) (I:Inv X pins σ H s) (h:(n6 X.env.cells sc.names []).lookup x=some c):X.env.cells.lookup x=some c:=
 Xu (C.free_cell I) (fun _ _ e=>by cases e) h
theorem zi (C:CompOk X sc caps ix) (I:Inv X pins σ H s) (hf:∀b∈fp,o6 X pins H b) (hl:∀b∈fp,b<s.heap.objs.size) (hn:h'.Ns s.heap.objs.size m)
  (hk:∀b o,s.heap.get? b=some o->h'.get? b=some o) :
  Inv (j6 X sc (tgs++caps) fp s H) [] (List.replicate tgs.length none++E0 ix σ) H { s with heap:=h',toks:=t' }:=by
 have sub:∀{x c},(n6 X.env.cells sc.names []).lookup x=some c->X.env.cells.lookup x=some c:=fun h=>C.sub I h
 have clt:∀{x c},X.env.cells.lookup x=some c->c<s.heap.objs.size:=fun {x c} h=>by obtain ⟨v,q⟩:=I.cell x c h;exact q.lt
 refine ⟨⟨I.ok.mod,C.kind,I.ok.glob,I.ok.blt,ζ _,fun x y c h1 h2=>I.ok.inj x y c (sub h1) (sub h2),fun x hx=>?_,fun x c hfn _=>?_,I.ok.hd,I.ok.frames,.inl rfl,fun b hb=>⟨?_,fun x c h z=>?_⟩,fun b o e=>I.bs b o e,Nat.le_trans I.ok.bsz I.sz,fun b o e hb=>?_,fun b hb hfs=>?_,I.stack,I.stkFree⟩,
  rfl,I.bare,Un.kept hk,⟨m,hn,fun i x v e1 e2 e3=>?_⟩,fun x c h=>?_,I.hok.fresh (ζ _),fun x c h=>I.freeC x c (sub h),fun p hp=>absurd (show p∈([]:List (Addr×Obj)) from hp) (by simp),I.hok.kept hk,?_⟩
 . -- a cell or free name of the block has a cell
   have hx':(relabel sc X.env).names.lookup x=some .cell\/(relabel sc X.env).names.lookup x=some .free:=hx;have e:(relabel sc X.env).names.lookup x=(sc.names.lookup x).map fun k=>if (k==NameKind.free&&X.env.scope.kind==.function&&X.env.kindOf x==some .cell) then NameKind.cell else k:=Mr
   rw [e] at hx';cases q:sc.names.lookup x with
   | none=>rw [q] at hx';rcases hx' with z | z<;>cases z
   | some k=>
    have hm:(x,k)∈sc.names:=PySem.mem_of_lookup q
    have hkf:k=.free:=by
     rw [q] at hx';simp only [Option.map_some] at hx';by_cases hkk:k=.free
     . exact hkk
     . have:(k==NameKind.free)=false:=by simpa using hkk
       simp only [this,Bool.false_and,Bool.false_eq_true,if_false] at hx';rcases hx' with z | z
       . exact absurd (Option.some.inj z) (C.ncell _ hm)
       . exact Option.some.inj z
    subst hkf
    exact Mf (.inr ⟨_,hm,rfl,rfl⟩)
 . exact absurd (show false=true from hfn) η
 . exact Nat.ne_of_lt (hl b hb)
 . exact (hf b hb).2.2.2.2.1 x c (sub h) z
 . obtain ⟨_,_,_,hx,_⟩:=hf b hb;rcases hx with z | z
   . exact I.ok.noex b o e z
   . exact absurd (Nat.lt_of_lt_of_le (Φ e) (Nat.le_trans I.ok.bsz z)) (Nat.lt_irrefl _)
 . obtain ⟨_,h1,h2,_⟩:=hf b hb;rcases List.mem_cons.mp (I.stkSub b hfs) with z | z
   . exact h1 z
   . exact h2 z
 . -- the captured names' values
   have hi:tgs.length<=i:=by
    by_cases hi:i<tgs.length
    . rw [List.getElem?_append_left (by simpa using hi),List.getElem?_replicate] at e2;split at e2<;>cases e2
    . lia
   have e1':caps[i - tgs.length]?=some x:=by have:(tgs++caps)[i]?=some x:=e1;rw [List.getElem?_append_right hi] at this;exact this
   rw [List.getElem?_append_right (by simpa using hi),List.length_replicate] at e2;obtain ⟨hfr,j,hj,hjN⟩:=C.cap _ x e1';have e2':σ[j]?=some (some v):=by
    unfold E0 at e2;rw [List.getElem?_map,hj] at e2;simp only [Option.map_some] at e2;have e2:=Option.some.inj e2;cases q:σ[j]? with
    | none=>rw [q] at e2;cases e2
    | some o=>rw [q] at e2;exact congrArg some e2
   have hmem:(x,NameKind.free)∈sc.names:=PySem.mem_of_lookup hfr;have hkind:=C.free _ hmem rfl;obtain ⟨m0,hn0,hl0⟩:=I.loc;have hvis:Vis X.env.scope x:=hkind.elim (fun z=>.inr (.inl z)) fun z=>.inr (.inr z)
   obtain ⟨u,r,look⟩:=hl0 j x v hjN e2' hvis;refine ⟨u,r,?_⟩;rcases look with ⟨k,_⟩ | ⟨_,c,hc,z⟩
   . rcases hkind with q | q
     . rw [show X.env.kindOf x=some .cell from q] at k;cases k
     . rw [show X.env.kindOf x=some .free from q] at k;cases k
   . obtain ⟨c',hc'⟩:=Mf (cells:=X.env.cells) (names:=sc.names) (acc:=[]) (x:=x) (.inr ⟨_,hmem,rfl,rfl⟩);have hcc:c'=c:=by have:=sub hc';rw [hc] at this;exact (Option.some.inj this).symm
     subst hcc;refine .inr ⟨?_,c',hc',?_⟩
     . have e:(relabel sc X.env).names.lookup x=(sc.names.lookup x).map fun k=>if (k==NameKind.free&&X.env.scope.kind==.function&&X.env.kindOf x==some .cell) then NameKind.cell else k:=Mr
       show (relabel sc X.env).names.lookup x=some .cell\/(relabel sc X.env).names.lookup x=some .free;rw [e,hfr];simp only [Option.map_some];split
       . exact .inl rfl
       . exact .inr rfl
     . obtain ⟨o,ho,hd⟩:=z;exact ⟨o,hk _ o ho,hd⟩
 . obtain ⟨v,o,ho,hd⟩:=I.cell x c (sub h);exact ⟨v,o,hk _ o ho,hd⟩
 . show _=(tgs++caps).length;unfold E0;rw [θ,List.length_replicate,List.length_map,θ,C.len]
inductive PTs (X:Cx):List Expr->TT->Prop where
 | nil:PTs X [] (fun _ H Q=>Q true H)
 | one {c:Expr} {t:TT} (h:PT X c t):PTs X [c] t
theorem PTs.run (h:PTs X ifs t) (I:Inv X pins σ H s) (q:t σ H Q) :
  wpAny (model X.prog X.w) X.A (forIn ifs true fun c r=>if r=true then do let ok <-isTrue c X.env (eval c X.env);pure (ForInStep.yield ok) else pure (ForInStep.yield r)) (TP X pins σ Q) X.xe s:=by
 cases h with
 | nil=>exact wpAny_tests_nil ⟨H,I,q⟩
 | one h=>exact wpAny_tests_one (h pins s σ H Q I q)
def Oo (J:It) (D:Addr) (B:V->Hp->(List V->Hp->Prop)->Prop) (cs:St) (tt:TT) (te:TE) (Q:VK) (H1:Hp):Prop:=
 ∃W:Nat->Nat->List V->Hp->Prop,(∃m,W 0 m [] (upd H1 D (.lst [])))/\∀i m ys H,W i m ys H ->
  H D=some (.lst ys)/\((J.stop i H/\Q (.ref D) H)\/(J.go i H/\∀x H',J.yld i H x H'->B x H' fun vals H2=>tt (vals.map some++cs) H2 fun b H3=>
   if b=true then te (vals.map some++cs) H3 fun y H4=>H4 D=some (.lst ys)/\ys.length<sizeLine/\∃m',m'<m/\W (i+1) m' (ys++[y]) (upd H4 D (.lst (ys++[y])))
   else ∃m',m'<m/\W (i+1) m' ys H3))
def P4 (wi:TI) (B:V->Hp->(List V->Hp->Prop)->Prop) (ix:List Nat) (tt:TT) (te:TE):TE:=fun σ H Q=>wi σ H fun J H1=>∀D,H1 D=none->Oo J D B (E0 ix σ) tt te Q H1
variable {elt tg iter:Expr} {ifs:List Expr} {pos:Pos} {g:TG} {B:V->Hp->(List V->Hp->Prop)->Prop} {tt:TT} {te:TE}
theorem Wh (C:CompOk X sc caps ix) (hg:∀fp s H,PG (j6 X sc (tgs++caps) fp s H) tg g)
  (hB:∀(x:V) (σt cs:St) (H:Hp) (Q:St->Hp->Prop),σt.length=tgs.length->B x H (fun vals H2=>Q (vals.map some++cs) H2)->g x (σt++cs) H fun σ2 H2=>(∃vals:List V,vals.length=tgs.length/\σ2=vals.map some++cs)/\Q σ2 H2)
  (ht:∀fp s H,PTs (j6 X sc (tgs++caps) fp s H) ifs tt) (he:∀fp s H,PE (j6 X sc (tgs++caps) fp s H) elt te)
  {J:It} {it:Addr} {tn:Nat->Heap->Prop} {Q:VK} {E:Value->Shared->Prop} (I2:Inv X pins σ H s) (T:Turn X.prog X.w X.K tg J fp it tn) (st:tn 0 s.heap) (hf:∀b∈fp,o6 X pins H b)
  (hw:∀D,H D=none->Oo J D B (E0 ix σ) tt te Q H) {RR:Value->Addr->Result->Shared->Prop}
  (hRR:∀D Cc H' s' m,s'.heap.Ns Cc m->Inv X pins σ H' s'->o6 X pins H' Cc->Q (.ref D) H'->RR (.ref D) Cc (.ok .next) s') :
  wpAny (model X.prog X.w) X.A (newList []) (fun acc s₃=>wpAny (model X.prog X.w) X.A (newFunctionEnv sc X.env.globals (n6 X.env.cells sc.names []) [] X.env.qual none .none (some X.env)) (fun cenv s₄=>
   codeAny (model X.prog X.w) X.A (.compStart (.ListComp elt [⟨tg,iter,ifs,0⟩] sc pos) 0 (.ref it) acc { cenv with scope:=relabel sc X.env }) (RR acc cenv.locals) s₄) E s₃) E s:=by
 refine wpAny_newObj_type (wpAny_newFunctionEnv C.ncell (by intro y hy;simp at hy) (fun h₁ hns₁ hsb₁=>?_) C.kind)
 have I3:Inv X pins σ (upd H s.heap.objs.size (.lst [])) { s with heap:=s.heap.push { cls:=.type "list",dict:=none,data:=.seq ([]:List Value).toArray } }:=I2.lnew (t':=s.toks) (its:=[]) .nil (Nat.zero_le _)
 have hD0:H s.heap.objs.size=none:=I2.fresh
 have lt0:∀b∈fp,b<s.heap.objs.size:=fun b hb=>by obtain ⟨o,e,_⟩:=T.obj _ _ st b hb;exact Φ e
 have hfD:∀b∈fp,b≠s.heap.objs.size:=fun b hb=>Nat.ne_of_lt (lt0 b hb)
 have hf3:∀b∈fp,o6 X pins (upd H s.heap.objs.size (.lst [])) b:=fun b hb=>⟨by rw [d7 (hfD b hb)];exact (hf b hb).1,(hf b hb).2⟩
 generalize hs3:({ s with heap:=s.heap.push { cls:=.type "list",dict:=none,data:=.seq ([]:List Value).toArray } }:Shared)=s₃ at I3 hns₁ hsb₁ ⊢
 have hs3h:s₃.heap=s.heap.push { cls:=.type "list",dict:=none,data:=.seq ([]:List Value).toArray }:=by rw [<-hs3]
 have st3:tn 0 s₃.heap:=T.keep _ _ _ st fun b _ o e=>by rw [hs3h];exact Ψ _ e
 have hl3:∀b∈fp,b<s₃.heap.objs.size:=fun b hb=>by rw [hs3h,Heap.size_push];exact Nat.lt_succ_of_lt (lt0 b hb)
 generalize hDD:s.heap.objs.size=D at *
 have hk1:∀b o,s₃.heap.get? b=some o->h₁.get? b=some o:=fun b o e=>hsb₁.extBut b o (Nat.ne_of_lt (Φ e)) (Ψ _ e)
 have I4:=zi (tgs:=tgs) (t':=s₃.toks+([]:List (Str×Value)).length) C I3 hf3 hl3 hns₁ hk1
 have st4:tn 0 h₁:=T.keep _ _ _ st3 fun b _ o e=>hk1 b o e
 have fr4:∀b∈fp,(upd H D (.lst [])) b=none:=fun b hb=>(hf3 b hb).1
 generalize hXc:j6 X sc (tgs++caps) fp s₃ (upd H D (.lst []))=Xc at I4
 have hprog:Xc.prog=X.prog:=by rw [<-hXc];rfl
 have hww:Xc.w=X.w:=by rw [<-hXc];rfl
 have hKK:Xc.K=X.K:=by rw [<-hXc];rfl
 have hcalm:Xc.calm=true:=by rw [<-hXc];exact C.calm
 have hA:Xc.A=X.A:=by rw [<-hXc];rfl
 have henv:Xc.env=compEnvC sc (n6 X.env.cells sc.names []) s₃.heap.objs.size X.env:=by rw [<-hXc];rfl
 have hxe:Xc.xe=fun _ _=>False:=by rw [<-hXc];rfl
 have hg':=hg fp s₃ (upd H D (.lst []))
 have ht':=ht fp s₃ (upd H D (.lst []))
 have he':=he fp s₃ (upd H D (.lst []))
 rw [hXc] at hg' ht' he'
 obtain ⟨W,⟨m0,w0⟩,turn⟩:=hw D hD0
 have stat:∀{H':Hp},(∀b∈fp,H' b=none)->∀b∈fp,o6 Xc [] H' b:=fun {H'} hn b hb=>by
  refine ⟨hn b hb,?_,?_,.inl ?_,fun x c e z=>?_,fun p hp=>?_⟩
  . rw [henv];exact Nat.ne_of_lt (hl3 b hb)
  . rw [<-hXc];intro z;obtain ⟨_,h1,h2,_⟩:=hf b hb;rcases List.mem_cons.mp (I3.stkSub b z) with q | q
    . exact h1 q
    . exact h2 q
  . rw [<-hXc];exact hb
  . rw [henv] at e;exact (hf b hb).2.2.2.2.1 x c (C.sub I2 e) z
  . rw [<-hXc] at hp;exact absurd (show p∈([]:List (Addr×Obj)) from hp) (by simp)
 have loop:∀s₄:Shared,s₄={ s₃ with heap:=h₁,toks:=s₃.toks+([]:List (Str×Value)).length } ->
   codeAny (model X.prog X.w) X.A (.compLoop (.ListComp elt [⟨tg,iter,ifs,0⟩] sc pos) 0 (.ref it) (.ref D) (compEnvC sc (n6 X.env.cells sc.names []) s₃.heap.objs.size X.env)) (RR (.ref D) s₃.heap.objs.size) s₄:=by
  intro s₄ hs4
  rw [<-hprog,<-hww,<-hA,<-henv]
  refine zU (fun n s'=>∃(i:Nat) (ys:List V) (σt:St) (H':Hp),σt.length=tgs.length/\Inv Xc [] (σt++E0 ix σ) H' s'/\tn i s'.heap/\(∀b∈fp,H' b=none)/\W i n ys H') ?_ m0
   ⟨0,[],List.replicate tgs.length none,upd H D (.lst []),by simp,by rw [hs4];exact I4,by rw [hs4];exact st4,fr4,w0⟩
  rintro n s5 ⟨i,ys,σt,H5,hσ,I5,st5,fr5,w5⟩
  obtain ⟨hD5,hturn⟩:=turn i n ys H5 w5
  rcases hturn with ⟨stop,q⟩ | ⟨go,step⟩
  . rw [hprog,hww];refine thn (T.done Xc hprog hww hKK hcalm i [] s5 _ H5 _ I5 (stat fr5) st5 stop) fun r s6 ⟨hr,I6⟩=>?_
    subst hr;obtain ⟨m6,hn6,_⟩:=I6.loc;rw [henv] at hn6;have hcb:∀b∈fp,(b∈X.ex\/X.s₀.heap.objs.size<=b)/\b≠X.env.locals/\(∀x c,X.env.cells.lookup x=some c->c≠b)/\∀p∈X.pn++pins,p.1≠b:=fun b hb=>⟨(hf b hb).2.2.2.1,(hf b hb).2.1,(hf b hb).2.2.2.2.1,(hf b hb).2.2.2.2.2⟩
    have hos:s6.os=s₃.os:=by have:=I6.os;rw [<-hXc] at this;exact this
    have un6:Un (frs X.stack) fp (upd H D (.lst [])) H5 s₃.heap s6.heap:=by have:=I6.base;rw [<-hXc] at this;exact this
    have hok6:HOk X.prog X.w H5 s6.heap:=by have:=I6.hok;rw [hprog,hww] at this;exact this
    have I7:Inv X pins σ H5 s6:=I3.call' hos un6 hok6 I6.bare hcb;refine hRR D _ H5 s6 m6 hn6 I7 ?_ q;have hCn:H5 s₃.heap.objs.size=none:=by have:=I6.free;rw [henv] at this;exact this
    exact I3.fpOk (ζ _) hCn
  . rw [hprog,hww];refine thn (T.item Xc hprog hww hKK hcalm i [] s5 _ H5 _ I5 (stat fr5) st5 go) fun r s6 ⟨u,hr,h6⟩=>?_
    subst hr;refine thn h6 fun _ s7 ⟨x,H7,I7,r7,y7,st7,fr7⟩=>?_
    have I7':=I7.pinned (stat fr7) (T.obj _ _ st7);have hst:=hg' _ s7 _ H7 x u _ I7' r7 (hB x σt (E0 ix σ) H7 (fun σ2 H2=>tt σ2 H2 fun b H3=>if b=true then te σ2 H3 fun y H4=>H4 D=some (.lst ys)/\ys.length<sizeLine/\∃m',m'<n/\W (i+1) m' (ys++[y]) (upd H4 D (.lst (ys++[y]))) else ∃m',m'<n/\W (i+1) m' ys H3) hσ (step x H7 y7));rw [hprog,hww,hxe] at hst;refine thn hst fun _ s8 ⟨σ8,H8,I8,⟨vals,hvl,hσ8⟩,q8⟩=>?_
    have again:∀{H9:Hp} {s9:Shared},Inv Xc ([]++Z4 fp s7.heap) σ8 H9 s9->tn (i+1) s9.heap/\∀b∈fp,H9 b=none:=fun {H9 s9} I9=>
     ⟨T.keep _ _ _ st7 fun b hb o e=>(I9.pin (b,o) (List.mem_append_right _ (List.mem_append_right _ (Eh hb e)))).1,fun b hb=>by obtain ⟨o,e,d⟩:=T.obj _ _ st7 b hb;exact (I9.pin (b,o) (List.mem_append_right _ (List.mem_append_right _ (Eh hb e)))).2.1⟩
    subst hσ8;have hts:=ht'.run I8 q8;rw [hprog,hww,hxe] at hts;refine thn hts fun ok s9 ⟨H9,I9,q9⟩=>?_
    cases ok with
    | false=>
     rw [ψ η] at q9 ⊢
     obtain ⟨m',hm,w9⟩:=q9
     obtain ⟨a1,a2⟩:=again I9
     exact ⟨m',hm,i+1,ys,vals.map some,H9,by simpa using hvl,I9.unpinned,a1,a2,w9⟩
    | true=>
     rw [ξ rfl] at q9 ⊢
     have hev:=he' _ s9 _ H9 _ I9 q9
     rw [hprog,hww,hxe] at hev
     refine thn hev fun uy s10 ⟨y,H10,I10,r10,hD10,hz10,m',hm,w10⟩=>?_
     have hap:=Q7 (X:=Xc) _ s10 _ H10 (.ref D) [y] (.ref D) [uy] (fun v H11=>v=.non/\H11=upd H10 D (.lst (ys++[y]))) I10 rfl (.cons r10 .nil) ⟨D,ys,y,rfl,rfl,hD10,hz10,rfl,rfl⟩
     rw [hprog,hww,hxe] at hap
     refine thn hap fun _ s11 ⟨v,H11,I11,_,_,e11⟩=>?_
     subst e11
     obtain ⟨a1,a2⟩:=again I11
     exact ⟨m',hm,i+1,ys++[y],vals.map some,_,by simpa using hvl,I11.unpinned,a1,a2,w10⟩
 refine codeAny_compStart_list (loop _ rfl) (T.self X.A 0 _ _ _ st4 (loop _ rfl))
theorem Tf (C:CompOk X sc caps ix) (hi:PI X tg iter wi) (hg:∀fp s H,PG (j6 X sc (tgs++caps) fp s H) tg g)
  (hB:∀(x:V) (σt cs:St) (H:Hp) (Q:St->Hp->Prop),σt.length=tgs.length->B x H (fun vals H2=>Q (vals.map some++cs) H2)->g x (σt++cs) H fun σ2 H2=>(∃vals:List V,vals.length=tgs.length/\σ2=vals.map some++cs)/\Q σ2 H2)
  (ht:∀fp s H,PTs (j6 X sc (tgs++caps) fp s H) ifs tt) (he:∀fp s H,PE (j6 X sc (tgs++caps) fp s H) elt te)
  (hs:∀x,foldedSetIterable iter X.env x=pure x:=by intro _;rfl):PE X (.ListComp elt [⟨tg,iter,ifs,0⟩] sc pos) (P4 wi B ix tt te):=by
 intro pins s σ H Q I h
 rw [eval_ListComp]
 refine wpAny_comprehension_free (use:=none) rfl hs (Xo (C.free_cell I)) C.kind C.names (thn (hi pins s σ H _ I h) fun v s1 h1=>thn h1 fun itv s2 h2=>?_)
 obtain ⟨it,fp,tn,J,H2,e,I2,T,st2,f2,hw⟩:=h2
 subst e
 refine Wh (RR:=fun acc Cc=>compPost (model X.prog X.w) X.A X.xe none (EP X pins σ Q) acc Cc) C hg hB ht he I2 T st2 f2 hw ?_
 intro D Cc H' s' m hn I' hfp q
 refine ⟨m,hn,fun h' sb=>⟨.ref D,H',?_,rfl,q⟩⟩
 exact I'.turned (t':=s'.toks) (fun b o hb e=>sb.extBut b o hb e) hfp.1 hfp.2.1 hfp.2.2.2.1 hfp.2.2.2.2.1 hfp.2.2.2.2.2
theorem wK (hN:X.N.Nodup) (hk:X.N[k]?=some x) (hx:X.env.scope.names.lookup x=some .local) (C:CompOk X sc caps ix) (hi:PI X tg iter wi) (hg:∀fp s H,PG (j6 X sc (tgs++caps) fp s H) tg g)
  (hB:∀(x:V) (σt cs:St) (H:Hp) (Q:St->Hp->Prop),σt.length=tgs.length->B x H (fun vals H2=>Q (vals.map some++cs) H2)->g x (σt++cs) H fun σ2 H2=>(∃vals:List V,vals.length=tgs.length/\σ2=vals.map some++cs)/\Q σ2 H2)
  (ht:∀fp s H,PTs (j6 X sc (tgs++caps) fp s H) ifs tt) (he:∀fp s H,PE (j6 X sc (tgs++caps) fp s H) elt te)
  (hsw:swapsWith (.ListComp elt [⟨tg,iter,ifs,0⟩] sc pos) (some (.Name x px)) spos.line X.env=pure true:=by rfl)
  (hs:∀x,foldedSetIterable iter X.env x=pure x:=by intro _;rfl):PS X (.Assign [.Name x px] (.ListComp elt [⟨tg,iter,ifs,0⟩] sc pos) spos) (C3 (P4 wi B ix tt te) (t9 k)):=by
 intro pins s σ H D0 I h
 rw [exec_Assign_Name_used _ _ _ _ hsw]
 refine χ (wpAny_standAt (χ ?_))
 show wpAny _ X.A (do let _ <-comprehension (.ListComp elt [⟨tg,iter,ifs,0⟩] sc pos) sc X.env _ (newList []) false (eval iter X.env) (some (assign (.Name x px) X.env))) _ _ s
 refine χ (wpAny_mono (wpAny_comprehension_free (use:=some (assign (.Name x px) X.env)) (Q:=fun _ s'=>SP X pins D0 .next s') rfl hs (Xo (C.free_cell I)) C.kind C.names
  (thn (hi pins s σ H _ I h) fun v s1 h1=>thn h1 fun itv s2 h2=>?_)) (fun _ s' hq=>ω (ω hq)) fun _ _ e=>e)
 obtain ⟨it,fp,tn,J,H2,e,I2,T,st2,f2,hw⟩:=h2
 subst e
 refine Wh (RR:=fun acc Cc=>compPost (model X.prog X.w) X.A X.xe (some (assign (.Name x px) X.env)) (fun _ s'=>SP X pins D0 .next s') acc Cc) C hg hB ht he I2 T st2 f2 hw ?_
 intro D Cc H' s' m hn I' hfp q
 show wpAny _ X.A (assign (.Name x px) X.env (.ref D)) _ _ _
 refine wpAny_assign_Name (Vh I' hN hk (.inl hx) (v:=.ref D) rfl (fun s'' I'' hch=>?_) (.inr hx))
 obtain ⟨a,sb,ha⟩:=hch
 have hne:Cc≠a:=by
  rcases ha with z | z
  . rw [z];exact hfp.2.1
  . exact fun e=>hfp.2.2.2.2.1 x a z e.symm
 refine ⟨m,hn.sameBut sb hne,fun h' sb'=>⟨_,H',?_,q⟩⟩
 exact I''.turned (t':=s''.toks) (fun b o hb e=>sb'.extBut b o hb e) hfp.1 hfp.2.1 hfp.2.2.2.1 hfp.2.2.2.2.1 hfp.2.2.2.2.2
end
section
variable {X:Cx}
theorem PE.imp (h:PE X e t) (hi:∀σ H Q,t' σ H Q->t σ H Q):PE X e t':=fun pins s σ H Q I q=>h pins s σ H Q I (hi σ H Q q)
theorem PT.imp (h:PT X e t) (hi:∀σ H Q,t' σ H Q->t σ H Q):PT X e t':=fun pins s σ H Q I q=>h pins s σ H Q I (hi σ H Q q)
theorem OpR.imp (h:OpR X f r) (hi:∀x y H Q,r' x y H Q->r x y H Q):OpR X f r':=fun pins s σ H x y v u Q I rx ry q=>h pins s σ H x y v u Q I rx ry (hi x y H Q q)
theorem UnR.imp (h:UnR X f r) (hi:∀x H Q,r' x H Q->r x H Q):UnR X f r':=fun pins s σ H x v Q I rx q=>h pins s σ H x v Q I rx (hi x H Q q)
end
noncomputable def l8 (i:Nat):TE:=fun σ H Q=>match σ[i]? with | some (some v)=>Q v H | _=>False
theorem pw (i:Nat) (hN:X.N[i]?=some x:=by rfl) (hv:Vis X.env.scope x:=by first | exact Or.inl rfl | exact Or.inr (Or.inl rfl) | exact Or.inr (Or.inr rfl)) (hd:(x==("__debug__":Str))=false:=by decide)
  (hcd:(x==("__classdict__":Str))=false:=by decide):PE X (.Name x pos) (l8 i):=
 (Qx hN hv hd hcd).imp fun σ H Q q=>by
  unfold l8 at q;unfold Zs;split at q
  . rename_i v e;exact ⟨v,e,q⟩
  . exact q.elim
noncomputable def cI (g:Int->Int->V):R2:=fun x y H Q=>match x,y with | .int i,.int j=>Q (g i j) H | _,_=>False
noncomputable def cIC (C:Int->Int->Prop) (g:Int->Int->V):R2:=fun x y H Q=>match x,y with | .int i,.int j=>C i j/\Q (g i j) H | _,_=>False
theorem OpR.cI (h:OpR X f (rI0 g)):OpR X f (cI g):=h.imp fun x y H Q q=>by cases x<;>cases y<;>first | exact ⟨_,_,rfl,rfl,q⟩ | exact q.elim
theorem OpR.cIC (h:OpR X f (rI C g)):OpR X f (cIC C g):=h.imp fun x y H Q q=>by cases x<;>cases y<;>first | exact ⟨_,_,rfl,rfl,q.1,q.2⟩ | exact q.elim
section
variable {X:Cx}
theorem J2:OpR X (binaryOp .Add) (cI fun i j=>.int (i+j)):=op_add.cI
theorem E4:OpR X (binaryOp .Sub) (cI fun i j=>.int (i - j)):=op_sub.cI
theorem jH:OpR X (binaryOp .Mult) (cIC CMul fun i j=>.int (i * j)):=op_mul.cIC
theorem Qr:OpR X (binaryOp .FloorDiv) (cIC O6 fun i j=>.int (i / j)):=op_fdiv.cIC
theorem C9:OpR X (binaryOp .Mod) (cIC (fun _ j=>0<j) fun i j=>.int (i % j)):=op_mod.cIC
theorem K9:OpR X (compareOp .Lt) (cI fun i j=>.bl (decide (i<j))):=op_lt.cI
theorem y1z:OpR X (compareOp .LtE) (cI fun i j=>.bl (decide (i<=j))):=op_le.cI
theorem R8:OpR X (compareOp .Gt) (cI fun i j=>.bl (decide (j<i))):=op_gt.cI
theorem y20:OpR X (compareOp .GtE) (cI fun i j=>.bl (decide (j<=i))):=op_ge.cI
def cU (g:Int->V):V->Hp->VK->Prop:=fun x H Q=>match x with | .int i=>Q (g i) H | _=>False
theorem Cm:UnR X (unaryOp .USub) (cU fun i=>.int (-i)):=un_neg.imp fun x H Q q=>by cases x<;>first | exact ⟨_,rfl,q⟩ | exact q.elim
end
noncomputable def B8 (H:Hp) (p:Addr):Option (List V):=match H p with
 | some (.lst xs)=>some xs
 | some (.tup xs)=>some xs
 | some (.frz _ (.lst xs))=>some xs
 | some (.frz _ (.tup xs))=>some xs
 | _=>none
theorem Uj {K:Frag} {H:Hp} {p:Addr} {xs:List V} (h:B8 H p=some xs):SqL K H p xs\/SqT K H p xs:=by
 unfold B8 at h;split at h;all_goals first | (cases h;done) | skip
 . rename_i ys e;cases h;exact .inl (.inl (.inl e))
 . rename_i ys e;cases h;exact .inr (.inl (.inl e))
 . rename_i o ys e;cases h;exact .inl (.inl (.inr ⟨_,e⟩))
 . rename_i o ys e;cases h;exact .inr (.inl (.inr ⟨_,e⟩))
theorem Uy (h:H p=some (.lst xs)):B8 H p=some xs:=by unfold B8;rw [h]
theorem Ux (h:H p=some (.tup xs)):B8 H p=some xs:=by unfold B8;rw [h]
def N3 (x:V) (H:Hp) (Q:Bool->Hp->Prop):Prop:=match x with
 | .bl b=>Q b H
 | .int i=>Q (i != 0) H
 | .non=>Q false H
 | .str y=>y.length<=sizeLine/\Q ((y.length:Int) != 0) H
 | .ref p=>(match B8 H p with
  | some xs=>Q (!xs.isEmpty) H
  | none=>(match H p with | some (.dK kvs)=>Q (!kvs.isEmpty) H | _=>False))
 | _=>False
theorem Ui {K:Frag} {x:V} {H:Hp} {Q:Bool->Hp->Prop} (h:N3 x H Q):∃k,Zm K x H k/\Q k H:=by
 cases x with
 | bl b=>exact ⟨b,rfl,h⟩
 | int i=>exact ⟨_,rfl,h⟩
 | non=>exact ⟨_,rfl,h⟩
 | str y=>exact ⟨_,⟨h.1,rfl⟩,h.2⟩
 | ref p=>
  unfold N3 at h
  dsimp only at h
  split at h
  . rename_i xs e;rcases Uj (K:=K) e with z | z
    . exact ⟨_,.inl ⟨xs,z,rfl⟩,h⟩
    . exact ⟨_,.inr (.inl ⟨xs,z,rfl⟩),h⟩
  . split at h
    . rename_i kvs e;exact ⟨_,.inr (.inr ⟨kvs,e,rfl⟩),h⟩
    . exact h.elim
 | _=>exact h.elim
noncomputable def y21 (t:TE):TT:=fun σ H Q=>t σ H fun x H'=>N3 x H' Q
section
variable {X:Cx} {a b c:Expr} {ta tb:TE} {pos:Pos}
theorem qT (ha:PE X a ta) (he:∀whole,isTrue a X.env whole=(do let v <-whole;standAt a.pos;holding [v] (truthy v)):=by intro _;rfl):PT X a (y21 ta):=by intro pins s σ H Q I h;exact isTrue_plain (thn (ha pins s σ H _ I h) fun v s1 ⟨x,H1,I1,r1,q1⟩=>Qt pins s1 σ H1 x v Q I1 r1 (Ui q1)) (he _)
noncomputable def Gx (t:TE):TT:=fun σ H Q=>t σ H fun x H'=>match x with | .bl k=>Q k H' | _=>False
theorem wJ (ho:OpR X (compareOp op) r) (ha:PE X a ta) (hb:PE X b tb) (hm:behindInMarks op b=false):PT X (.Compare a [op] [b] pos) (Gx (tOp r ta tb)):=by
 intro pins s σ H Q I h;refine wpAny_isTrue_Compare1 (thn (ha pins s σ H _ I h) fun v s1 ⟨x,H1,I1,r1,q1⟩=>thn (hb pins s1 σ H1 _ I1 q1) fun u s2 ⟨y,H2,I2,r2,q2⟩=>
  thn (ho pins s2 σ H2 x y v u _ I2 r1 r2 q2) fun c s3 ⟨z,H3,I3,r3,q3⟩=>?_) hm
 cases z<;>first | exact q3.elim | skip
 cases r3;exact wpAny_truthy_bool ⟨H3,I3,q3⟩
end
section
variable {X:Cx} {a b c:Expr} {ta tb:TE} {pos:Pos}
def PChT (X:Cx) (ops:List CmpOp) (rs:List Expr) (t:V->TT):Prop:=
 ∀(pos:Pos) (pins:List (Addr×Obj)) (s:Shared) (σ:St) (H:Hp) (x:V) (v:Value) (Q:Bool->Hp->Prop),Inv X pins σ H s->RelV x v->t x σ H Q->wpAny (model X.prog X.w) X.A (testChain pos v ops (evalEach rs X.env)) (TP X pins σ Q) X.xe s
noncomputable def Qq (r:R2) (tb:TE):V->TT:=fun x σ H Q=>tb σ H fun y H2=>r x y H2 fun z H3=>match z with | .bl k=>Q k H3 | _=>False
noncomputable def Qp (r:R2) (tb:TE) (t:V->TT):V->TT:=fun x σ H Q=>tb σ H fun y H2=>r x y H2 fun z H3=>match z with | .bl k=>(if k=true then t y σ H3 Q else Q false H3) | _=>False
theorem yH (ho:OpR X (compareOp op) r) (hb:PE X b tb):PChT X [op] [b] (Qq r tb):=by
 intro pos pins s σ H x v Q I rx h;refine test_last (thn (hb pins s σ H _ I h) fun u s2 ⟨y,H2,I2,r2,q2⟩=>thn (ho pins s2 σ H2 x y v u _ I2 rx r2 q2) fun d s3 ⟨z,H3,I3,r3,q3⟩=>?_);cases z<;>first | exact q3.elim | skip
 cases r3;exact wpAny_truthy_bool ⟨H3,I3,q3⟩
theorem yG (ho:OpR X (compareOp op) r) (hb:PE X b tb) (hr:PChT X (op'::ops) (r'::rs) t):PChT X (op::op'::ops) (b::r'::rs) (Qp r tb t):=by
 intro pos pins s σ H x v Q I rx h;refine test_link (thn (hb pins s σ H _ I h) fun u s2 ⟨y,H2,I2,r2,q2⟩=>thn (ho pins s2 σ H2 x y v u _ I2 rx r2 q2) fun d s3 ⟨z,H3,I3,r3,q3⟩=>?_);cases z<;>first | exact q3.elim | skip
 rename_i k;cases r3;refine wpAny_truthy_bool ?_;cases k with
 | false=>exact ite_ff ⟨H3,I3,by simpa using q3⟩
 | true=>exact ite_tt (hr pos pins s3 σ H3 y u Q I3 r2 (by simpa using q3))
noncomputable def On (ta:TE) (t:V->TT):TT:=fun σ H Q=>ta σ H fun x H1=>t x σ H1 Q
theorem qS (ha:PE X a ta) (hr:PChT X (op₁::op₂::ops) (r₁::r₂::rs) t) (hm:lastMarks (op₁::op₂::ops) (r₁::r₂::rs)=false:=by with_unfolding_all rfl) :
  PT X (.Compare a (op₁::op₂::ops) (r₁::r₂::rs) pos) (On ta t):=by
 intro pins s σ H Q I h
 exact isTrue_chain (thn (ha pins s σ H _ I h) fun v s1 ⟨x,H1,I1,r1,q1⟩=>hr pos pins s1 σ H1 x v Q I1 r1 q1) hm
noncomputable def Om (ta tb:TE):TE:=fun σ H Q=>ta σ H fun x H1=>match x with | .bl c=>(if c=true then tb σ H1 Q else Q (.bl false) H1) | _=>False
noncomputable def Zd (ta tb:TE):TE:=fun σ H Q=>ta σ H fun x H1=>match x with | .bl c=>(if c=true then Q (.bl true) H1 else tb σ H1 Q) | _=>False
end
section
variable {X:Cx} {a b c:Expr} {ta tb:TE} {pos:Pos} {rest:List Expr}
theorem wI (ha:PE X a ta) (hb:PE X (.BoolOp .And (b::rest) pos) tb):PE X (.BoolOp .And (a::b::rest) pos) (Om ta tb):=by
 intro pins s σ H Q I h;refine BoolOp_and (thn (ha pins s σ H _ I h) fun v s1 ⟨x,H1,I1,r1,q1⟩=>?_);cases x<;>first | exact q1.elim | skip
 rename_i k;cases r1;refine wpAny_truthy_bool ?_;cases k with
 | true=>exact ite_tt (hb pins s1 σ H1 Q I1 (by simpa using q1))
 | false=>exact ite_ff ⟨.bl false,H1,I1,rfl,by simpa using q1⟩
theorem qR (ha:PE X a ta) (hb:PE X (.BoolOp .Or (b::rest) pos) tb):PE X (.BoolOp .Or (a::b::rest) pos) (Zd ta tb):=by
 intro pins s σ H Q I h;refine BoolOp_or (thn (ha pins s σ H _ I h) fun v s1 ⟨x,H1,I1,r1,q1⟩=>?_);cases x<;>first | exact q1.elim | skip
 rename_i k;cases r1;refine wpAny_truthy_bool ?_;cases k with
 | true=>exact ite_tt ⟨.bl true,H1,I1,rfl,by simpa using q1⟩
 | false=>exact ite_ff (hb pins s1 σ H1 Q I1 (by simpa using q1))
noncomputable def jG (ta:TE):TE:=fun σ H Q=>ta σ H fun x H1=>N3 x H1 fun k H2=>Q (.bl (!k)) H2
theorem wH (ha:PE X a ta):PE X (.UnaryOp .Not a pos) (jG ta):=by intro pins s σ H Q I h;refine UnaryOp_ (thn (ha pins s σ H _ I h) fun v s1 ⟨x,H1,I1,r1,q1⟩=>not_of ?_);exact thn (Qt pins s1 σ H1 x v _ I1 r1 (Ui q1)) fun k s2 ⟨H2,I2,q2⟩=>⟨.bl (!k),H2,I2,rfl,q2⟩
noncomputable def J1 (H:Hp):V->Option String
 | .non=>some "NoneType"
 | .bl _=>some "bool"
 | .int _=>some "int"
 | .str _=>some "str"
 | .ref a=>(match H a with
  | some (.lst _)=>some "list"
  | some (.frz _ (.lst _))=>some "list"
  | some (.tup _)=>some "tuple"
  | some (.dK _)=>some "dict"
  | some (.dT _)=>some "dict"
  | _=>none)
 | _=>none
noncomputable def D9 (t c:String):Bool:=t==c||(t=="bool"&&c=="int")
noncomputable def E3 (c:String):Bool:=["int","bool","str","list","tuple","dict"].contains c
theorem J9 {K:Frag} {t c:String} (ht:["NoneType","bool","int","str","list","tuple","dict"].contains t=true) (hc:E3 c=true):kitOne K (.type t) (.type c)=some (D9 t c):=by
 have h1:t="NoneType"\/t="bool"\/t="int"\/t="str"\/t="list"\/t="tuple"\/t="dict":=by simpa using ht
 have h2:c="int"\/c="bool"\/c="str"\/c="list"\/c="tuple"\/c="dict":=by simpa [E3] using hc
 rcases h1 with rfl | rfl | rfl | rfl | rfl | rfl | rfl<;>rcases h2 with rfl | rfl | rfl | rfl | rfl | rfl<;>first | rfl | (with_unfolding_all rfl)
theorem xW:CallR X (.builtin "isinstance") (fun xs H Q=>match xs with
  | [x,.ty c]=>E3 c=true/\(match J1 H x with | some t=>Q (.bl (D9 t c)) H | none=>False)
  | _=>False):=by
 intro pins s σ H xs us Q I r h
 split at h
 . rename_i x c;obtain ⟨hc,h⟩:=h;obtain ⟨u,w',rfl,ru,rw'⟩:=jO r;cases rw';split at h
   . rename_i t et;have fin:∀(tk:Nat),EP X pins σ Q (.bool (D9 t c)) { s with toks:=tk }:=fun tk=>⟨.bl _,H,I.tok _,rfl,h⟩
     cases x<;>simp only [J1] at et
     case non=>cases et;exact K0 I ru .non (J9 (by decide) hc) fin
     case bl b=>cases et;exact K0 I ru (.bl b) (J9 (by decide) hc) fin
     case int b=>cases et;exact K0 I ru (.int b) (J9 (by decide) hc) fin
     case str b=>cases et;exact K0 I ru (.str b) (J9 (by decide) hc) fin
     case ref a=>
      split at et<;>first | (cases et;done) | skip
      . rename_i ys e;cases et;exact K0 I ru (.lst e) (J9 (by decide) hc) fin
      . rename_i o ys e;cases et;exact K0 I ru (.frz e) (J9 (by decide) hc) fin
      . rename_i ys e;cases et;exact K0 I ru (.tup e) (J9 (by decide) hc) fin
      . rename_i ys e;cases et;exact K0 I ru (.dK e) (J9 (by decide) hc) fin
      . rename_i ys e;cases et;exact K0 I ru (.dT e) (J9 (by decide) hc) fin
     all_goals cases et
   . exact h.elim
 . exact h.elim
theorem yF (hc:X.calm=true):CallR X (.builtin "sum") (fun xs H Q=>match xs with
  | [.ref p]=>∃ns:List Int,B8 H p=some (ns.map V.int)/\Q (.int ns.sum) H
  | _=>False):=by
 intro pins s σ H xs us Q I r h
 split at h
 . rename_i p;obtain ⟨ns,e,q⟩:=h;obtain ⟨u,rfl,ru⟩:=D4 r;cases ru;have key:∀{its:List Value},Vals (ns.map V.int) its->∃ys:Array (Int×Tok),its.toArray=intItems ys/\preSum (numAt ys) ys.size=ns.sum:=fun {its} rv=>by
    have hi:=Wi rv;obtain ⟨ys,hx⟩:=hi.allInts.items;refine ⟨ys,hx,?_⟩;have e1:ns=ys.toList.map (·.1):=by rw [<-nums_intItems,<-hx];exact (show numsOf its.toArray.toList=ns from hi.numsOf).symm
    rw [preSum_eq,List.take_of_length_le (by simp),e1]
   rcases Uj (K:=X.K) e with hq | hq
   . obtain ⟨its,rv,pl,_⟩:=I.list hq;obtain ⟨ys,hx,es⟩:=key rv;refine sum_intListG (I.ok.hd hc) (hx ▸ pl.isList) fun h' tk t' hk=>?_
     rw [es];exact ⟨.int ns.sum,H,I.kept hk,⟨_,rfl⟩,q⟩
   . obtain ⟨its,rv,pl,_⟩:=I.tuple hq;obtain ⟨ys,hx,es⟩:=key rv;refine PySem.W.ktm_sumG (I.ok.hd hc) (hx ▸ pl) fun h' tk t' hk=>?_
     rw [es];exact ⟨.int ns.sum,H,I.kept hk,⟨_,rfl⟩,q⟩
 . exact h.elim
abbrev Gw (s:Shared) (L:Addr):List (Addr×Obj):=Dq (Att.noObjs s.heap) s.heap L
section
variable {pins:List (Addr×Obj)} {σ:St} {H:Hp} {s:Shared} {h':Heap} {m:Str->Option Value}
theorem Wg (N:News (Att.noObjs s.heap) L h' (Gw s L)):∀b o,b≠L->s.heap.get? b=some o->h'.get? b=some o:=fun b o hb e=>(N (b,o) (zE hb (Att.noObjs_get _ _) e)).1
theorem Inv.frn (I:Inv X pins σ H s) (hn:s.heap.Ns X.env.locals m) (F:Fr (Att.noObjs s.heap) X.env.locals h' m) (N:News (Att.noObjs s.heap) X.env.locals h' (Gw s X.env.locals)):Inv X pins σ H { s with heap:=h',toks:=tk }:=by
 have kept:=Wg N;refine I.step (g':=s.gens) (d':=s.drawn) (ch:=[]) (fun _ z=>nomatch z) (fun b o hL _ _ e _=>kept b o hL e) (fun b o hL _ _ e _=>⟨o.slots,kept b o hL e⟩) (fun _ _ _ _ n=>n) (fun b o _ e=>?_) (fun _ _ e=>e) (fun _ _ _ e=>e) (fun b ps e=>⟨#[],by rw [e];simp⟩) (fun m' hm=>?_) (fun b u e=>?_) I.bare
 . by_cases hb:b=X.env.locals
   . subst hb;obtain ⟨o',_,_,ho',_⟩:=F.ns;exact ⟨o',ho'⟩
   . exact ⟨o,kept b o hb e⟩
 . rw [hm.eq_nsMap,<-hn.eq_nsMap];exact F.ns
 . refine (I.hok b u e).stay (fun c v hc q=>kept c v ?_ q) (fun _ q=>q) fun _ _ q=>q
   intro z;rcases hc with hc | hc
   . rw [<-hc,z,I.free] at e;cases e
   . rw [z,I.free] at hc;cases hc
theorem Inv.frnew (I:Inv X pins σ H s) (hn:s.heap.Ns X.env.locals m) (F:Fr (Att.noObjs s.heap) X.env.locals h' m) (N:News (Att.noObjs s.heap) X.env.locals h' ((D,ob)::Gw s X.env.locals))
  (hD:s.heap.get? D=none) (new:ObjOk X.prog X.w (upd H D o) h' D o):H D=none/\Inv X pins σ (upd H D o) { s with heap:=h',toks:=tk }:=by
 have kept:=Wg (fun p hp=>N p (.tail _ hp))
 have hDL:D≠X.env.locals:=(N (D,ob) (.head _)).2.1
 have neD:∀b o,s.heap.get? b=some o->b≠D:=fun b o e z=>by rw [z,hD] at e;cases e
 have HD:H D=none:=by
  cases q:H D with
  | none=>rfl
  | some u=>
   have:=(I.hok D u q).lt
   obtain ⟨v,hv⟩:∃v,s.heap.get? D=some v:=by
    have z:=I.hok D u q;cases u with
    | lst xs=>obtain ⟨_,_,_,_,e⟩:=z;exact ⟨_,e⟩
    | tup xs=>obtain ⟨_,_,_,o,e,_⟩:=z;exact ⟨_,e⟩
    | dK kvs=>obtain ⟨_,_,_,_,o,_,_,e,_⟩:=z;exact ⟨_,e⟩
    | dT kvs=>obtain ⟨_,_,_,_,o,_,_,e,_⟩:=z;exact ⟨_,e⟩
    | set S n=>obtain ⟨_,_,_,_,e,_⟩:=z;exact ⟨_,e⟩
    | ins C dx fs=>obtain ⟨_,_,_,e,_⟩:=z;exact ⟨_,e⟩
    | own x=>exact z
    | xd fs=>obtain ⟨mA,n1,_⟩:=z;obtain ⟨o,_,_,e,_⟩:=n1;exact ⟨o,e⟩
    | met f x=>exact ⟨_,z⟩
    | rng lo hi=>obtain ⟨_,_,_,e⟩:=z;exact ⟨_,e⟩
    | frz o u=>exact ⟨_,z.1⟩
    | tbl ps=>exact ⟨_,z⟩
    | ctb q=>obtain ⟨_,e,_⟩:=z;exact ⟨_,e⟩
    | ext φ=>exact z.2.1
   rw [hD] at hv;cases hv
 refine ⟨HD,I.step (g':=s.gens) (d':=s.drawn) (ch:=[]) (fun _ z=>nomatch z) (fun b o hL _ _ e _=>kept b o hL e) (fun b o hL _ _ e _=>⟨o.slots,kept b o hL e⟩) (fun b ob _ e n=>by rw [d7 (neD b ob e)];exact n) (fun b o _ e=>?_)
  (fun b xs e=>by rw [d7 (n8 e HD)];exact e) (fun b u xs e=>by rw [d7 (n8 e HD)];exact e) (fun b ps e=>⟨#[],by rw [d7 (n8 e HD),e];simp⟩) (fun m' hm=>?_) (fun b u e=>?_) I.bare⟩
 . by_cases hb:b=X.env.locals
   . subst hb;obtain ⟨o',_,_,ho',_⟩:=F.ns;exact ⟨o',ho'⟩
   . exact ⟨o,kept b o hb e⟩
 . rw [hm.eq_nsMap,<-hn.eq_nsMap];exact F.ns
 . by_cases hb:b=D
   . subst hb;rw [i9] at e;cases e;exact new
   . rw [d7 hb] at e;refine (I.hok b u e).stay (fun c v hc q=>kept c v ?_ q) (fun c q=>?_) fun c xs q=>?_
     . intro z;rcases hc with hc | hc
       . rw [<-hc,z,I.free] at e;cases e
       . rw [z,I.free] at hc;cases hc
     . rw [d7 (n8 q HD)];exact q
     . rw [d7 (n8 q HD)];exact q
end
theorem zB:∀{us:List Value},Vals (bs.map V.bl) us->LSm.BoolsAre us bs:=by
 induction bs with
 | nil=>intro us r;cases r;exact .nil
 | cons b bs ih=>
  intro us r
  cases r with
  | cons r1 r2=>cases r1;exact .cons b (ih r2)
theorem yE (hc:X.calm=true):CallR X (.builtin "all") (fun xs H Q=>match xs with
  | [.ref p]=>∃bs:List Bool,Rd H p (.lst (bs.map V.bl))/\Q (.bl (bs.all id)) H
  | _=>False):=by
 intro pins s σ H xs us Q I r h
 split at h
 . rename_i p;obtain ⟨bs,e,q⟩:=h;obtain ⟨u,rfl,ru⟩:=D4 r;cases ru;obtain ⟨its,rv,pl,_⟩:=I.list (.inl e);obtain ⟨m,hn,_⟩:=id I.loc;exact LSm.all_bools (Att.fr_all hn) (Lg (g:=Att.noObjs s.heap) (L:=X.env.locals)) (I.ok.hd hc) pl.isList (zB rv) fun h' tk F N=>⟨.bl _,H,I.frn hn F N,rfl,q⟩
 . exact h.elim
end
noncomputable def ItS (S:Hp->Prop) (xs:List V):It:=⟨fun i H=>S H/\i<xs.length,fun i H x H'=>H'=H/\xs[i]?=some x,fun i H=>S H/\xs.length<=i⟩
theorem Turn.conv {P:Program} {w:World} {K:Frag} {tg:Expr} {J J':It} {fp:List Addr} {it:Addr} {tn:Nat->Heap->Prop} (T:Turn P w K tg J fp it tn) (h1:∀i H,J'.go i H->J.go i H) (h2:∀i H x H',J'.go i H->J.yld i H x H'->J'.yld i H x H')
  (h3:∀i H,J'.stop i H->J.stop i H):Turn P w K tg J' fp it tn where
 mem:=T.mem
 obj:=T.obj
 keep:=T.keep
 item:=fun X a b c d i pins s σ H E I hf st hg=>thn (T.item X a b c d i pins s σ H E I hf st (h1 i H hg)) fun r s1 ⟨u,e,h⟩=>⟨u,e,thn h fun _ s2 ⟨x,H',I',r',y',st',fr'⟩=>⟨x,H',I',r',h2 i H x H' hg y',st',fr'⟩⟩
 done:=fun X a b c d i pins s σ H E I hf st hg=>T.done X a b c d i pins s σ H E I hf st (h3 i H hg)
 self:=T.self
section
variable {X:Cx} {tg:Expr}
def R7 (x:V) (H1:Hp) (R:It->Hp->Prop):Prop:=match x with
 | .ref a=>(match H1 a with
  | some (.lst xs)=>R (ItS (fun H'=>Rd H' a (.lst xs)) xs) H1
  | some (.frz _ (.lst xs))=>R (ItS (fun H'=>Rd H' a (.lst xs)) xs) H1
  | some (.tup xs)=>R (ItS (fun H'=>H' a=some (.tup xs)) xs) H1
  | _=>False)
 | _=>False
theorem xV (h:Rd H a (.lst xs)) (r:R (ItS (fun H'=>Rd H' a (.lst xs)) xs) H):R7 (.ref a) H R:=by
 unfold R7;rcases h with h | ⟨o,h⟩
 . dsimp only;rw [h];exact r
 . dsimp only;rw [h];exact r
theorem xU (h:H a=some (.tup xs)) (r:R (ItS (fun H'=>H' a=some (.tup xs)) xs) H):R7 (.ref a) H R:=by unfold R7;dsimp only;rw [h];exact r
noncomputable def y22 (K:Frag) (tl:TE):TI:=fun σ H R=>tl σ H fun x H1=>R7 x H1 R
theorem qQ (hl:PE X l tl):PI X tg l (y22 X.K tl):=by
 intro pins s σ H R I h;refine thn (hl pins s σ H _ I h) fun v s1 ⟨x,H1,I1,r1,q1⟩=>?_
 cases x<;>first | exact q1.elim | skip
 rename_i a;cases r1;unfold R7 at q1;dsimp only at q1;have asList:∀xs,Rd H1 a (.lst xs)->R (ItS (fun H'=>Rd H' a (.lst xs)) xs) H1->wpAny (model X.prog X.w) X.A (pyIter (.ref a)) (PIE X pins σ tg R) X.xe s1:=fun xs hq q=>by
  obtain ⟨its,rv,p,hz⟩:=I1.list (.inl hq);refine wpAny_pyIter_list p.isList ?_;refine ⟨s1.heap.objs.size,[s1.heap.objs.size],_,_,H1,rfl,I1.kept (t':=s1.toks) fun b o e=>Ψ _ e,(yP a _).conv ?_ ?_ ?_,⟨_,Ξ _ rfl,rfl,rfl⟩,fun b hb=>?_,q⟩
  . exact fun i H' ⟨h1,h2⟩=>⟨xs,xs[i],.inl h1,by simp [h2]⟩
  . exact fun i H' x H'' ⟨h1,h2⟩ ⟨e,y⟩=>⟨e,y xs (.inl h1)⟩
  . exact fun i H' ⟨h1,h2⟩=>⟨xs,.inl h1,h2⟩
  . have e:b=s1.heap.objs.size:=by simpa using hb
    subst e;exact I1.fpOk (ζ _) (I1.hok.fresh (ζ _))
 split at q1
 . rename_i xs e;exact asList xs (.inl e) q1
 . rename_i o xs e;exact asList xs (.inr ⟨o,e⟩) q1
 . rename_i xs e;obtain ⟨its,rv,p,hz⟩:=I1.tuple (.of e);refine wpAny_pyIter_tuple (show s1.heap.IsTuple a its.toArray from p) ?_;refine ⟨s1.heap.objs.size,[s1.heap.objs.size],_,_,H1,rfl,I1.kept (t':=s1.toks) fun b o e=>Ψ _ e,(zn a _).conv ?_ ?_ ?_,⟨_,Ξ _ rfl,rfl,rfl⟩,fun b hb=>?_,q1⟩
   . exact fun i H' ⟨h1,h2⟩=>⟨xs,xs[i],.of h1,by simp [h2]⟩
   . exact fun i H' x H'' ⟨h1,h2⟩ ⟨e,y⟩=>⟨e,y xs (.of h1)⟩
   . exact fun i H' ⟨h1,h2⟩=>⟨xs,.of h1,h2⟩
   . have e:b=s1.heap.objs.size:=by simpa using hb
     subst e;exact I1.fpOk (ζ _) (I1.hok.fresh (ζ _))
 . exact q1.elim
noncomputable def F9 (lo:Int) (n:Nat):List V:=(List.range n).map fun (i:Nat)=>V.int (lo+i)
theorem Dz (lo:Int) (n:Nat):(F9 lo n).length=n:=by simp [F9]
theorem Te (lo:Int) (n i:Nat) (h:i<n):(F9 lo n)[i]?=some (.int (lo+i)):=by simp [F9,h]
end
def Zc (J:It) (g:TG) (tb:TS) (D:Ends) (σ:St) (H1:Hp):Prop:=∃W:Nat->Nat->St->Hp->Prop,(∃m,W 0 m σ H1)/\∀i m σ H,W i m σ H ->
 (J.stop i H/\D.nx σ H)\/(J.go i H/\∃N:St->Hp->Prop,(∀σ' H',N σ' H'->∃m',m'<m/\W (i+1) m' σ' H')/\∀x H',J.yld i H x H'->g x σ H' fun σ2 H2=>tb { D with nx:=N,ct:=N,bk:=D.nx } σ2 H2)
noncomputable def Ol (wi:TI) (g:TG) (tb:TS):TS:=fun D σ H=>wi σ H fun J H1=>Zc J g tb D σ H1
theorem Td (hp:PassesOwn (model X.prog X.w) X.A X.env X.xe) (hc:X.calm=true) (hi:PI X tg iter wi) (hg:PG X tg g) (hb:PSs X body tb)
 (hs:∀x,foldedSetIterable iter X.env x=pure x:=by intro _;rfl):PS X (.For tg iter body [] pos) (Ol wi g tb):=vh hp hc hi hg hb hs
theorem Same.upd_new (h:H a=none):Same H (upd H a o):=fun b u e=>by rw [d7 (n8 e h)];exact e
theorem Same.upd_at (s:Same H H1) (h:H a=none):Same H (upd H1 a o):=fun b u e=>by rw [d7 (n8 e h)];exact s b u e
theorem wG {prog:Program} {w:World} {A:Around} {E:Value->Shared->Prop} {s:Shared} {e it l:Addr} (hei:e≠it) (hle:l≠e) (hli:l≠it) {items:Array Value} {i:Nat} {Q:Option Value->Shared->Prop} (hi:i<items.size)
  (he:∃old,IsEnum s.heap e it i old) (h1:s.heap.IsListIter it l i) (g1:s.heap.IsList l items)
  (q:∀T vals h' tk,(∃t x,items[i]?=some x/\vals=#[.int i t,x])->s.heap.objs.size<=T->IsTp h' T vals->((∃x,IsEnumOut h' e it ((i:Int)+1) x T)/\h'.IsListIter it l (i+1)/\h'.IsList l items/\T≠e/\T≠it) ->
   (∀c o,c∉[e,it]->s.heap.get? c=some o->h'.get? c=some o)->Q (some (.ref T)) { s with heap:=h',toks:=tk }):wpAny (model prog w) A (pyNext (.ref e)) Q E s:=by
 obtain ⟨old,he⟩:=he
 have gt:∀{c:Addr} {o:Obj},s.heap.get? c=some o->s.heap.objs.size≠c:=fun e z=>absurd (Φ e) (by rw [z];exact Nat.lt_irrefl _)
 have n1:s.heap.objs.size≠it:=by obtain ⟨_,e,_⟩:=h1;exact gt e
 refine wpAny_pyNext_enum_item he h1 g1 (x:=items[i]) (by simp [hi]) hei fun h' r1 r2 r3 _ kp=>?_
 have kl:∀c o,c∉[e,it]->s.heap.get? c=some o->h'.get? c=some o:=fun c o hc e=>by simp only [List.mem_cons,List.not_mem_nil,or_false,not_or] at hc;exact kp c o hc.1 hc.2 e
 exact q s.heap.objs.size #[.int i s.toks,items[i]] h' (s.toks+1) ⟨_,_,by simp [hi],rfl⟩ (ζ _) (.mk' r3) ⟨⟨_,r1⟩,r2,g1.at fun o e=>kp _ o hle hli e,gt he,n1⟩ kl
section
variable {X:Cx} {pins:List (Addr×Obj)} {σ:St} {H:Hp} {s:Shared}
theorem Inv.turnedT {wr:List Addr} {h':Heap} {tk:Nat} {T:Addr} {xs:List V} {its:List Value} (I:Inv X pins σ H s) (hw:∀b∈wr,o6 X pins H b) (k:∀b o,b∉wr->s.heap.get? b=some o->h'.get? b=some o)
  (hT:s.heap.objs.size<=T) (ht:IsTp h' T its.toArray) (rv:Vals xs its) (hz:xs.length<=sizeLine):Inv X pins σ (upd H T (.tup xs)) { s with heap:=h',toks:=tk }:=by
 have HT:H T=none:=I.hok.fresh hT
 have nw:∀b u,H b=some u->b∉wr:=fun b u e z=>by rw [(hw b z).1] at e;cases e
 have neT:∀b o,s.heap.get? b=some o->b≠T:=fun b o e=>Nat.ne_of_lt (Nat.lt_of_lt_of_le (Φ e) hT)
 refine I.step (g':=s.gens) (d':=s.drawn) (ch:=wr) (fun b hb=>⟨(hw b hb).2.2.2.1,(hw b hb).2.1,(hw b hb).2.2.2.2.1,(hw b hb).2.2.2.2.2⟩) (fun b o _ _ hc e _=>k b o hc e) (fun b o _ _ hc e _=>⟨o.slots,k b o hc e⟩)
  (fun b o _ e n=>by rw [d7 (neT b o e)];exact n) (fun b o hc e=>⟨o,k b o hc e⟩) (fun b ys e=>by rw [d7 (n8 e HT)];exact e) (fun b u ys e=>by rw [d7 (n8 e HT)];exact e)
  (fun b ps e=>⟨#[],by rw [d7 (n8 e HT),e];simp⟩) (fun m hm=>?_) (fun b u e=>?_) I.bare
 . obtain ⟨o,es,ep,ho,r⟩:=hm;exact ⟨o,es,ep,k _ o (fun z=>(hw _ z).2.1 rfl) ho,r⟩
 . by_cases hb:b=T
   . subst hb;rw [i9] at e;cases e;exact ⟨hz,its,rv,ht⟩
   . rw [d7 hb] at e;refine (I.hok b u e).stay (fun c v hc q=>k c v ?_ q) (fun c q=>?_) fun c ys q=>?_
     . rcases hc with z | z
       . rw [z];exact nw b u e
       . exact nw c _ z
     . rw [d7 (n8 q HT)];exact q
     . rw [d7 (n8 q HT)];exact q
end
section
variable {X:Cx} {pins:List (Addr×Obj)} {σ:St} {H:Hp} {s:Shared}
theorem Inv.turnedN {wr:List Addr} {h':Heap} {tk:Nat} (I:Inv X pins σ H s) (hw:∀b∈wr,o6 X pins H b) (k:∀b o,b∉wr->s.heap.get? b=some o->h'.get? b=some o):Inv X pins σ H { s with heap:=h',toks:=tk }:=by
 have nw:∀b u,H b=some u->b∉wr:=fun b u e z=>by rw [(hw b z).1] at e;cases e
 refine I.step (g':=s.gens) (d':=s.drawn) (ch:=wr) (fun b hb=>⟨(hw b hb).2.2.2.1,(hw b hb).2.1,(hw b hb).2.2.2.2.1,(hw b hb).2.2.2.2.2⟩) (fun b o _ _ hc e _=>k b o hc e) (fun b o _ _ hc e _=>⟨o.slots,k b o hc e⟩)
  (fun b o _ e n=>n) (fun b o hc e=>⟨o,k b o hc e⟩) (fun b ys e=>e) (fun b u ys e=>e) (fun b ps e=>⟨#[],by rw [e];simp⟩) (fun m hm=>?_) (fun b u e=>?_) I.bare
 . obtain ⟨o,es,ep,ho,r⟩:=hm;exact ⟨o,es,ep,k _ o (fun z=>(hw _ z).2.1 rfl) ho,r⟩
 . refine (I.hok b u e).stay (fun c v hc q=>k c v ?_ q) (fun c q=>q) fun c ys q=>q
   rcases hc with z | z
   . rw [z];exact nw b u e
   . exact nw c _ z
end
def ItP (S:Hp->Prop) (ps:List (V×V)):It:=⟨fun i H=>S H/\i<ps.length,fun i H x H'=>∃T a b,x=.ref T/\H T=none/\H'=upd H T (.tup [a,b])/\ps[i]?=some (a,b),fun i H=>S H/\i=ps.length⟩
theorem Hy:2<=sizeLine:=by rw [sizeLine_eq];decide
theorem yD {P:Program} {w:World} {K:Frag} {elts:List Expr} {k:Nat} {pos:Pos} {e it l:Addr} {xs:List V} (hei:e≠it) (hle:l≠e) (hli:l≠it) :
  Turn P w K (.Tuple elts k pos) (ItP (fun H=>Rd H l (.lst xs)) ((F9 0 xs.length).zip xs)) [e,it] e (fun i h=>(∃old,IsEnum h e it i old)/\h.IsListIter it l i) where
 mem:=by simp
 obj:=fun i h ⟨⟨old,he⟩,⟨o1,h1,_,d1⟩⟩ c hc=>by
  have hc':c=e\/c=it:=by simpa using hc
  rcases hc' with rfl | rfl
  . exact ⟨_,he,fun v z=>by cases z⟩
  . exact ⟨o1,h1,fun v z=>by rw [d1] at z;cases z⟩
 keep:=fun i h h' ⟨⟨old,he⟩,h1⟩ kp=>⟨⟨old,kp e (by simp) _ he⟩,h1.at fun o z=>kp it (by simp) o z⟩
 item:=by
  intro X hP hw hK hc i pins s σ H E I hf st hg;subst hP hw hK;obtain ⟨hS,hlt⟩:=hg;obtain ⟨he,h1⟩:=st;obtain ⟨its,r,p1,z1⟩:=I.list (.inl hS);have W:=WalksT.enumerate (prog:=X.prog) (w:=X.w) (A:=X.A) (I.ok.hd hc) e it l hei hle hli its.toArray;have le1:=r.length;have hlx:i<xs.length:=by rw [List.length_zip,Dz] at hlt;lia
  have hlz:i<its.toArray.size:=by simp only [List.size_toArray];lia
  refine wG hei hle hli hlz he h1 p1.isList fun T vals h' tk hPt hT ht hM hk=>⟨.ref T,rfl,?_⟩
  refine W.go elts k pos i T _ _ _ hM fun h'' hst'' hk''=>?_
  obtain ⟨t,x,hx,rfl⟩:=hPt;obtain ⟨a,ea⟩:∃a,xs[i]?=some a:=⟨xs[i],by simp⟩;obtain ⟨u1,q1,ru1⟩:=r.get ea;have hx':its[i]?=some x:=by simpa using hx
  rw [q1] at hx';cases hx';obtain ⟨oT,hoT,hcT,nT,hdT⟩:=ht;have ht'':IsTp h'' T ([.int (i:Nat) t,x]:List Value).toArray:=⟨oT,hk'' T oT (W.apart i T _ hM) hoT,hcT,nT,hdT⟩;have sub:∀c∈[e,it],o6 X pins H c:=fun c hc'=>hf c hc'
  have I2:=I.turnedT (tk:=tk) (xs:=[.int (i:Nat),a]) (its:=[.int (i:Nat) t,x]) sub (fun c o hcw z=>hk'' c o hcw (hk c o hcw z)) hT ht'' (.cons ⟨_,rfl⟩ (.cons ru1 .nil)) Hy;have HT:H T=none:=I.hok.fresh hT;refine ⟨.ref T,upd H T (.tup [.int (i:Nat),a]),I2,rfl,⟨T,.int (i:Nat),a,rfl,HT,rfl,?_⟩,⟨hst''.1,hst''.2.1⟩,fun c hc'=>?_⟩
  . rw [List.getElem?_zip_eq_some];refine ⟨?_,ea⟩;rw [Te 0 _ _ hlx];simp
  . rw [d7]
    . exact (hf c hc').1
    . intro ec;have hh:∃o,s.heap.get? c=some o:=by
       have hc'':c=e\/c=it:=by simpa using hc'
       obtain ⟨old,he'⟩:=he;obtain ⟨o1,g1,_⟩:=h1;rcases hc'' with z | z<;>subst z
       . exact ⟨_,he'⟩
       . exact ⟨_,g1⟩
      obtain ⟨o,ho⟩:=hh;exact absurd (Nat.lt_of_lt_of_le (Φ ho) hT) (by rw [ec];exact Nat.lt_irrefl _)
 done:=by
  intro X hP hw hK hc i pins s σ H E I hf st hg;subst hP hw hK;obtain ⟨hS,hle'⟩:=hg;obtain ⟨he,h1⟩:=st;obtain ⟨its,r,p1,z1⟩:=I.list (.inl hS);have W:=WalksT.enumerate (prog:=X.prog) (w:=X.w) (A:=X.A) (I.ok.hd hc) e it l hei hle hli its.toArray;have le1:=r.length;have hi:its.toArray.size=i:=by rw [List.length_zip,Dz] at hle';simp only [List.size_toArray];lia
  rw [<-hi] at h1 he;exact W.done s _ _ ⟨he,h1,p1.isList⟩ fun h' tk hk=>⟨rfl,I.turnedN hf hk⟩
 self:=fun A i s Q E st h=>by obtain ⟨⟨old,he⟩,_⟩:=st;exact wpAny_pyIter_enum he h
section
variable {X:Cx} {a:Expr} {ta:TA} {p pos tpos:Pos} {elts:List Expr} {k:Nat}
def jF (ta:TA):TI:=fun σ H R=>ta σ H fun vs H1=>match vs with
 | [.ref l]=>∃xs,Rd H1 l (.lst xs)/\R (ItP (fun H=>Rd H l (.lst xs)) ((F9 0 xs.length).zip xs)) H1
 | _=>False
theorem wF (hg:Gl X "enumerate") (hm:X.mg "enumerate"=none) (ha:PA X [a] ta) (hs:starEach [a] X.env=[(false,eval a X.env)]:=by rfl) :
  PI X (.Tuple elts k tpos) (.Call (.Name "enumerate" p) [a] [] pos) (jF ta):=by
 intro pins s σ H R I h
 refine Call_ (N7 I hg hm boot_enumerate (PyProof.Rows.callWith_type1 (thn (ha pos pins s σ H _ I h) fun us s1 ⟨vs,H1,I1,r1,q1⟩=>?_) hs rfl))
 dsimp only at q1
 split at q1
 . rename_i l;obtain ⟨xs,e1,q⟩:=q1;obtain ⟨u,rfl,ru⟩:=D4 r1;cases ru;obtain ⟨its1,rr1,p1,_⟩:=I1.list (.inl e1);have lt1:l<s1.heap.objs.size:=by obtain ⟨o,ho,_⟩:=p1.isList;exact Φ ho
   refine call_enumerate_list p1.isList fun h' he hi hsz hk=>?_
   refine wpAny_pyIter_enum he ⟨s1.heap.objs.size+1,[s1.heap.objs.size+1,s1.heap.objs.size],_,_,H1,rfl,I1.kept (t':=s1.toks) hk,yD (Nat.succ_ne_self _) (Nat.ne_of_lt (Nat.lt_succ_of_lt lt1)) (Nat.ne_of_lt lt1),⟨⟨_,he⟩,hi⟩,fun c hc=>?_,q⟩;have hc':s1.heap.objs.size<=c:=by
    have:c=s1.heap.objs.size+1\/c=s1.heap.objs.size:=by simpa using hc
    rcases this with z | z<;>rw [z]<;>first | exact Nat.le_add_right _ _ | exact ζ _
   exact I1.fpOk hc' (I1.hok.fresh hc')
 . exact q1.elim
end
def cB1:V->Hp->(List V->Hp->Prop)->Prop:=fun x H R=>R [x] H
def cBT (n:Nat):V->Hp->(List V->Hp->Prop)->Prop:=fun x H R=>match x with
 | .ref a=>(match H a with | some (.tup xs)=>xs.length=n/\R xs H | _=>False)
 | _=>False
section
variable {X:Cx} {sc:Scope} {caps:List Str} {ix:List Nat} {elt iter:Expr} {ifs:List Expr} {pos px py tpos:Pos} {tt:TT} {te:TE} {wi:TI} {x y:Str} {kt:Nat}
theorem Zb (x:V) (σt cs:St) (H:Hp) (Q:St->Hp->Prop) (hl:σt.length=1) (h:cB1 x H (fun vals H2=>Q (vals.map some++cs) H2)):t9 0 x (σt++cs) H fun σ2 H2=>(∃vals:List V,vals.length=1/\σ2=vals.map some++cs)/\Q σ2 H2:=by
 match σt,hl with
 | [t],_=>exact ⟨⟨[x],rfl,rfl⟩,h⟩
theorem y23 {K:Frag} (x:V) (σt cs:St) (H:Hp) (Q:St->Hp->Prop) (hl:σt.length=2) (h:cBT 2 x H (fun vals H2=>Q (vals.map some++cs) H2)) :
  Fz K 2 (Y5 (t9 0) (Y5 (t9 1) Ga)) x (σt++cs) H fun σ2 H2=>(∃vals:List V,vals.length=2/\σ2=vals.map some++cs)/\Q σ2 H2:=by
 cases x<;>first | exact h.elim | skip
 rename_i a
 unfold cBT at h
 dsimp only at h
 split at h
 . rename_i xs e;obtain ⟨hn,h⟩:=h
   match σt,hl,xs,hn with
   | [t,t'],_,[v,v'],_=>exact ⟨a,[v,v'],rfl,.of e,rfl,v,[v'],rfl,v',[],rfl,rfl,⟨[v,v'],rfl,rfl⟩,h⟩
 . exact h.elim
theorem Bz (hN:(tgs++caps).Nodup) (hi:(tgs++caps)[i]?=some x) (hx:sc.names.lookup x=some .local) (fp:List Addr) (s:Shared) (H:Hp):PG (j6 X sc (tgs++caps) fp s H) (.Name x px) (t9 i):=
 Dp (X:=j6 X sc (tgs++caps) fp s H) hN hi (.inl (lookup_relabel_local hx)) (.inr (lookup_relabel_local hx))
theorem xT (C:CompOk X sc caps ix) (hN:([x]++caps).Nodup) (hx:sc.names.lookup x=some .local) (hi:PI X (.Name x px) iter wi) (ht:∀fp s H,PTs (j6 X sc ([x]++caps) fp s H) ifs tt) (he:∀fp s H,PE (j6 X sc ([x]++caps) fp s H) elt te)
  (hs:∀x,foldedSetIterable iter X.env x=pure x:=by intro _;rfl):PE X (.ListComp elt [⟨.Name x px,iter,ifs,0⟩] sc pos) (P4 wi cB1 ix tt te):=
 Tf (tgs:=[x]) C hi (fun fp s H=>Bz hN rfl hx fp s H) Zb ht he hs
theorem xS {v:Str} {k:Nat} {spos pv:Pos} (hNX:X.N.Nodup) (hk:X.N[k]?=some v) (hv:X.env.scope.names.lookup v=some .local) (C:CompOk X sc caps ix) (hN:([x]++caps).Nodup) (hx:sc.names.lookup x=some .local) (hi:PI X (.Name x px) iter wi)
  (ht:∀fp s H,PTs (j6 X sc ([x]++caps) fp s H) ifs tt) (he:∀fp s H,PE (j6 X sc ([x]++caps) fp s H) elt te)
  (hsw:swapsWith (.ListComp elt [⟨.Name x px,iter,ifs,0⟩] sc pos) (some (.Name v pv)) spos.line X.env=pure true:=by rfl) (hs:∀x,foldedSetIterable iter X.env x=pure x:=by intro _;rfl) :
  PS X (.Assign [.Name v pv] (.ListComp elt [⟨.Name x px,iter,ifs,0⟩] sc pos) spos) (C3 (P4 wi cB1 ix tt te) (t9 k)):=
 wK (tgs:=[x]) hNX hk hv C hi (fun fp s H=>Bz hN rfl hx fp s H) Zb ht he hsw hs
theorem jE (hc:X.calm=true) (hN:([x,y]++caps).Nodup) (hx:sc.names.lookup x=some .local) (hy:sc.names.lookup y=some .local) (fp:List Addr) (s:Shared) (H:Hp) :
  PG (j6 X sc ([x,y]++caps) fp s H) (.Tuple [.Name x px,.Name y py] kt tpos) (Fz X.K 2 (Y5 (t9 0) (Y5 (t9 1) Ga))):=
 Qw (X:=j6 X sc ([x,y]++caps) fp s H) hc (Lc (Bz hN rfl hx fp s H) (Lc (Bz hN rfl hy fp s H) pgs_nil))
theorem xR (C:CompOk X sc caps ix) (hN:([x,y]++caps).Nodup) (hx:sc.names.lookup x=some .local) (hy:sc.names.lookup y=some .local) (hi:PI X (.Tuple [.Name x px,.Name y py] kt tpos) iter wi) (ht:∀fp s H,PTs (j6 X sc ([x,y]++caps) fp s H) ifs tt)
  (he:∀fp s H,PE (j6 X sc ([x,y]++caps) fp s H) elt te) (hs:∀x,foldedSetIterable iter X.env x=pure x:=by intro _;rfl):PE X (.ListComp elt [⟨.Tuple [.Name x px,.Name y py] kt tpos,iter,ifs,0⟩] sc pos) (P4 wi (cBT 2) ix tt te):=
 Tf (tgs:=[x,y]) C hi (fun fp s H=>jE C.calm hN hx hy fp s H) y23 ht he hs
noncomputable def Gv (n:Nat) (t:TGs):TG:=fun v σ H Q=>match v with
 | .ref a=>(match H a with | some (.tup xs)=>xs.length=n/\t xs σ H Q | _=>False)
 | _=>False
noncomputable def Qo (t:TG) (u:TGs):TGs:=fun vs σ H Q=>match vs with | v::r=>t v σ H fun σ' H'=>u r σ' H' Q | []=>False
noncomputable def Oj:TGs:=fun vs σ H Q=>match vs with | []=>Q σ H | _=>False
theorem PGs.imp (h:PGs X es t) (hi:∀vs σ H Q,t' vs σ H Q->t vs σ H Q):PGs X es t':=fun pins s σ H vs us Q I r q=>h pins s σ H vs us Q I r (hi vs σ H Q q)
theorem PG.imp (h:PG X e t) (hi:∀v σ H Q,t' v σ H Q->t v σ H Q):PG X e t':=fun pins s σ H v u Q I r q=>h pins s σ H v u Q I r (hi v σ H Q q)
theorem xQ:PGs X [] Oj:=pgs_nil.imp fun vs σ H Q q=>by
 cases vs with
 | nil=>exact ⟨rfl,q⟩
 | cons _ _=>exact q.elim
theorem yC (h1:PG X e t) (h2:PGs X es u) (hs:(assignEach (e::es) X.env).map (·.2)=assign e X.env::(assignEach es X.env).map (·.2):=by rfl):PGs X (e::es) (Qo t u):=(Lc h1 h2 hs).imp fun vs σ H Q q=>by
 cases vs with
 | nil=>exact q.elim
 | cons v r=>exact ⟨v,r,rfl,q⟩
theorem wE (hc:X.calm=true) (h:PGs X es t)
  (hn:(assignEach es X.env).length=n:=by rfl) (hst:(assignEach es X.env).findIdx? (·.1)=none:=by rfl):PG X (.Tuple es k pos) (Gv n t):=(Qw hc h hn hst).imp fun v σ H Q q=>by
 cases v<;>first | exact q.elim | skip
 rename_i a
 unfold Gv at q
 dsimp only at q
 split at q
 . rename_i xs e;exact ⟨a,xs,rfl,.of e,q.1,q.2⟩
 . exact q.elim
end
theorem y24 (a:α) (r:List α):atI (a::r) 0=some a:=Ke (j:=0) rfl
theorem y25 (a b:α) (r:List α):atI (a::b::r) 1=some b:=Ke (j:=1) rfl
section
variable {prog:Program} {w:World} {A:Around} {E:Value->Shared->Prop} {s:Shared}
theorem Uh (hne:t≠it):∀(n i:Nat) (s:Shared) (Q:List Value->Shared->Prop),s.heap.IsListIter it t i->s.heap.IsList t items->i+n<=items.size ->
  (∀h',h'.IsListIter it t (i+n)->Heap.SameBut it s.heap h'->Q ((items.toList.drop i).take n) { s with heap:=h' })->wpAny (model prog w) A (draw (.ref it) n) Q E s
 | 0,i,s,Q,hit,_,_,k=>by show wpAny _ _ (pure []) Q E s;exact ω (by simpa using k s.heap hit (Heap.SameBut.refl ..))
 | n+1,i,s,Q,hit,ht,hle,k=>by
  have hlt:i<items.size:=by lia
  show wpAny _ _ (pyNext (.ref it) >>= _) Q E s;refine χ (wpAny_pyNext_list_item hit ht (x:=items[i]) (by simp [hlt]) fun g1 it1 sb1=>?_);refine χ (wpAny_holding (Uh hne n (i+1) _ _ it1 (ht.extBut sb1.extBut hne) (by lia) fun g2 it2 sb2=>ω ?_));have hd:items.toList.drop i=items[i]::items.toList.drop (i+1):=by simp [List.drop_eq_getElem_cons,hlt]
  have z:=k g2 (by rw [show i+(n+1)=i+1+n by lia];exact it2) (sb1.trans sb2);rw [hd,List.take_succ_cons] at z;exact z
theorem yB (hh:A.handled=none) (ht:s.heap.IsList t items)
  (k:∀h',(∀b o,s.heap.get? b=some o->h'.get? b=some o)->Q items.toList { s with heap:=h' }):wpAny (model prog w) A (unpackItems (.ref t) items.size none) Q E s:=by
 have hlt:t≠s.heap.objs.size:=by obtain ⟨o,ho,_⟩:=ht;exact Nat.ne_of_lt (Φ ho)
 have old:∀{b:Addr} {o:Obj},s.heap.get? b=some o->b≠s.heap.objs.size:=fun e=>Nat.ne_of_lt (Φ e)
 unfold unpackItems
 refine χ ?_
 . unfold notIterableAtAll;refine χ (wpAny_specialOf ht.typeIs slot_list_iter.lookup ?_);refine ω ?_;simp only [Bool.false_eq_true,if_false];refine χ (wpAny_holding (wpAny_pyIter_list ht ?_));refine χ (wpAny_holding (Uh hlt items.size 0 _ _ ⟨_,Ξ _ rfl,rfl,rfl⟩ (ht.push _) (by lia) fun g1 it1 sb1=>?_));have hall:List.take items.size (List.drop 0 items.toList)=items.toList:=by rw [List.drop_zero];exact List.take_of_length_le (by simp)
   rw [hall];rw [ψ (by simp)];have ht1:g1.IsList t items:=(ht.push _).extBut sb1.extBut hlt;refine χ (wpAny_holding (wpAny_pyNext_list_end hh it1 ht1 (by simp) fun g2 eb2=>?_));simp only [Option.isSome_none,Bool.false_eq_true,if_false];exact ω (k g2 fun b o e=>eb2 b o (old e) (sb1.extBut b o (old e) (Ψ _ e)))
theorem zh (hh:A.handled=none) (ht:s.heap.IsList t items)
  (hn:(assignEach elts env).length=items.size) (hstar:(assignEach elts env).findIdx? (·.1)=none)
  (h:∀h',(∀b o,s.heap.get? b=some o->h'.get? b=some o)->wpAny (model prog w) A (assignInOrder ((assignEach elts env).map (·.2)) items.toList) Q E { s with heap:=h' }) :
  wpAny (model prog w) A (assign (.Tuple elts x1 pos) env (.ref t)) Q E s:=by
 rw [assign_Tuple]
 refine χ (wpAny_standAt ?_)
 unfold unpack
 rw [hn,hstar]
 exact χ (wpAny_holding (yB hh ht h))
end
section
variable {X:Cx} {pos:Pos}
noncomputable def Y2 (n:Nat) (t:TGs):TG:=fun v σ H Q=>match v with
 | .ref a=>(match H a with
  | some (.tup xs)=>xs.length=n/\t xs σ H Q
  | some (.lst xs)=>xs.length=n/\t xs σ H Q
  | _=>False)
 | _=>False
theorem wD (hc:X.calm=true) (h:PGs X es t)
  (hn:(assignEach es X.env).length=n:=by rfl) (hst:(assignEach es X.env).findIdx? (·.1)=none:=by rfl):PG X (.Tuple es k pos) (Y2 n t):=by
 intro pins s σ H v u Q I r hw
 cases v<;>first | exact hw.elim | skip
 rename_i a
 unfold Y2 at hw
 dsimp only at hw
 split at hw
 . rename_i xs e;exact wE hc h hn hst pins s σ H (.ref a) u Q I r (by unfold Gv;dsimp only;rw [e];exact hw)
 . rename_i xs e;obtain ⟨hl,hw⟩:=hw;cases r;obtain ⟨its,rv,ht,hz⟩:=I.list (.of e);refine zh (I.ok.hd hc) ht.isList (by simp [hn,<-hl,rv.length]) hst fun h' hx=>?_
   exact h pins _ σ H xs _ Q (I.kept (t':=s.toks) hx) (by simpa using rv) hw
 . exact hw.elim
def By:List V->Hp->VK->Prop:=fun xs H Q=>match xs with
 | [x,.ty c]=>E3 c=true/\(match J1 H x with | some t=>Q (.bl (D9 t c)) H | none=>False)
 | _=>False
def Gu:List V->Hp->VK->Prop:=fun xs H Q=>match xs with
 | [.ref p]=>∃ns:List Int,B8 H p=some (ns.map V.int)/\Q (.int ns.sum) H
 | _=>False
def Gs:List V->Hp->VK->Prop:=fun xs H Q=>match xs with
 | [.ref p]=>∃bs:List Bool,Rd H p (.lst (bs.map V.bl))/\Q (.bl (bs.all id)) H
 | _=>False
section
variable {H:Hp} {Q:VK} {p:Addr} {x:V} {cs:String}
theorem qP:By [x,.ty cs] H Q=(E3 cs=true/\(match J1 H x with | some t=>Q (.bl (D9 t cs)) H | none=>False)):=rfl
theorem Tc:Gu [.ref p] H Q=∃ns:List Int,B8 H p=some (ns.map V.int)/\Q (.int ns.sum) H:=rfl
theorem wC:Gs [.ref p] H Q=∃bs:List Bool,Rd H p (.lst (bs.map V.bl))/\Q (.bl (bs.all id)) H:=rfl
end
theorem jD:CallR X (.builtin "isinstance") By:=xW
theorem Oi (hc:X.calm=true):CallR X (.builtin "sum") Gu:=yF hc
theorem jC (hc:X.calm=true):CallR X (.builtin "all") Gs:=yE hc
end
inductive NK where
 | i (n:Int)
 | t (ks:List NK)
noncomputable instance:DecidableEq NK:=fun a b=>Classical.propDecidable (a=b)
mutual
noncomputable def NK.dep:NK->Nat
 | .i _=>0
 | .t ks=>y6 ks+1
noncomputable def y6:List NK->Nat
 | []=>0
 | k::ks=>max k.dep (y6 ks)
end
mutual
noncomputable def NK.hs:NK->Int
 | .i n=>hashInt n
 | .t ks=>reduceHash (Builtin.Tuple.tupleHashOf (X1 ks))
noncomputable def X1:List NK->List Int
 | []=>[]
 | k::ks=>k.hs::X1 ks
end
mutual
noncomputable def NK.dr:NK->Nat
 | .i _=>1
 | .t ks=>Bx ks+1
noncomputable def Bx:List NK->Nat
 | []=>0
 | k::ks=>k.dr+Bx ks
end
mutual
def NKv (h:Heap):NK->Value->Prop
 | .i n,v=>∃t,v=.int n t
 | .t ks,v=>∃a its,v=.ref a/\h.IsTuple a its/\NKvs h ks its.toList
def NKvs (h:Heap):List NK->List Value->Prop
 | [],vs=>vs=[]
 | k::ks,vs=>∃v r,vs=v::r/\NKv h k v/\NKvs h ks r
end
theorem NKvs.len:∀{ks:List NK} {vs:List Value},NKvs h ks vs->ks.length=vs.length
 | [],_,q=>by simp only [NKvs] at q;rw [q];rfl
 | k::ks,_,q=>by simp only [NKvs] at q;obtain ⟨v,r,rfl,_,q⟩:=q;simp only [List.length_cons,NKvs.len q]
theorem yA {h:Heap} {a:Addr} {x y:Array Value} (p:h.IsTuple a x) (q:h.IsTuple a y):x=y:=by obtain ⟨o,e,c,n,d⟩:=p;obtain ⟨o',e',c',n',d'⟩:=q;rw [e] at e';cases e';rw [d] at d';cases d';rfl
mutual
theorem NKv.inj:∀{k j:NK} {v:Value},NKv h k v->NKv h j v->k=j
 | .i n,.i m,v,p,q=>by simp only [NKv] at p q;obtain ⟨t,rfl⟩:=p;obtain ⟨t',e⟩:=q;cases e;rfl
 | .i n,.t ks,v,p,q=>by simp only [NKv] at p q;obtain ⟨t,rfl⟩:=p;obtain ⟨_,_,e,_⟩:=q;cases e
 | .t ks,.i m,v,p,q=>by simp only [NKv] at p q;obtain ⟨t,rfl⟩:=q;obtain ⟨_,_,e,_⟩:=p;cases e
 | .t ks,.t js,v,p,q=>by simp only [NKv] at p q;obtain ⟨a,its,rfl,p1,p2⟩:=p;obtain ⟨b,its',e,q1,q2⟩:=q;cases e;cases yA p1 q1;rw [NKvs.inj p2 q2]
theorem NKvs.inj:∀{ks js:List NK} {vs:List Value},NKvs h ks vs->NKvs h js vs->ks=js
 | [],[],_,_,_=>rfl
 | [],j::js,_,p,q=>by simp only [NKvs] at p q;subst p;obtain ⟨_,_,e,_⟩:=q;cases e
 | k::ks,[],_,p,q=>by simp only [NKvs] at p q;subst q;obtain ⟨_,_,e,_⟩:=p;cases e
 | k::ks,j::js,_,p,q=>by simp only [NKvs] at p q;obtain ⟨v,r,rfl,p1,p2⟩:=p;obtain ⟨_,_,e,q1,q2⟩:=q;cases e;rw [NKv.inj p1 q1,NKvs.inj p2 q2]
end
mutual
theorem NKv.stay (st:∀a its,h.IsTuple a its->h'.IsTuple a its):∀{k:NK} {v:Value},NKv h k v->NKv h' k v
 | .i n,v,p=>by simp only [NKv] at p ⊢;exact p
 | .t ks,v,p=>by simp only [NKv] at p ⊢;obtain ⟨a,its,e,p1,p2⟩:=p;exact ⟨a,its,e,st _ _ p1,NKvs.stay st p2⟩
theorem NKvs.stay (st:∀a its,h.IsTuple a its->h'.IsTuple a its):∀{ks:List NK} {vs:List Value},NKvs h ks vs->NKvs h' ks vs
 | [],_,p=>by simp only [NKvs] at p ⊢;exact p
 | k::ks,_,p=>by simp only [NKvs] at p ⊢;obtain ⟨v,r,e,p1,p2⟩:=p;exact ⟨v,r,e,NKv.stay st p1,NKvs.stay st p2⟩
end
section
variable {prog:Program} {w:World}
theorem Ta:∀(m:Nat) {k:NK} {v:Value} {A:Around} {E:Value->Shared->Prop} {s:Shared} {Q:Int->Shared->Prop},k.dep<=m->A.units+m<cLine->NKv s.heap k v->Q k.hs { s with toks:=s.toks+k.dr }->wpAny (model prog w) A (pyHash v) Q E s
 | m,.i n,v,A,E,s,Q,hd,hu,p,q=>by simp only [NKv] at p;obtain ⟨t,rfl⟩:=p;exact wpAny_pyHash_int q
 | 0,.t ks,v,A,E,s,Q,hd,hu,p,q=>by simp only [NK.dep] at hd;lia
 | m+1,.t ks,v,A,E,s,Q,hd,hu,p,q=>by
  simp only [NKv] at p;obtain ⟨a,its,rfl,⟨o,e,c,n,d⟩,p2⟩:=p;simp only [NK.dep] at hd;show wpAny (model prog w) A (pyHashByItsType (.ref a)) Q E s;refine W.pyHash_slot (T:="tuple") ⟨o,e,c⟩ F.slot_tuple_hash F.entry_tuple_hash (F.args_tuple_hash_1 _) rfl (.inr (by lia)) ?_;refine χ (wpAny_of_eq (show slotArgs "__hash__" 0 ⟨[.ref a],[]⟩=pure (.ref a,[]) from rfl) ?_);show wpAny (model prog w) A.in1 (Builtin.Tuple.tupleItemsOf (.ref a) >>= _) _ _ s;refine χ (wpAny_tupleItemsOf e d ?_);refine χ ?_;have go:∀(ks:List NK) (vs:List Value) (b:Array Int) (s':Shared) (Q':Array Int->Shared->Prop),y6 ks<=m->NKvs s'.heap ks vs->(∀b':Array Int,b'.toList=b.toList++X1 ks->Q' b' { s' with toks:=s'.toks+Bx ks }) ->
    wpAny (model prog w) A.in1 (forIn vs b fun x r=>do
     let h <-pyHash x
     pure (ForInStep.yield (r.push h))) Q' E s':=by
   intro ks
   induction ks with
   | nil=>
    intro vs b s' Q' _ p hq
    simp only [NKvs] at p;subst p
    exact ω (hq b (by simp [X1]))
   | cons k ks ih=>
    intro vs b s' Q' hd p hq
    simp only [NKvs] at p
    obtain ⟨v,r,rfl,p1,p2⟩:=p
    simp only [y6] at hd
    rw [List.forIn_cons]
    refine χ (χ (Ta m (by lia) (by show A.units+1+m<cLine;lia) p1 ?_))
    refine ω ?_
    refine ih r (b.push k.hs) _ Q' (by lia) p2 fun b' hb'=>?_
    have:=hq b' (by rw [hb'];simp [X1])
    simpa only [Bx,Nat.add_assoc] using this
  rw [<-Array.forIn_toList];refine go ks its.toList #[] s _ (by lia) p2 fun b' hb'=>?_
  show wpAny (model prog w) A.in1 (retInt (Builtin.Tuple.tupleHashOf b'.toList)) _ _ _;refine wpAny_mono (wpAny_ret_mkInt (Q:=fun v s'=>∃n t,v=Value.int n t/\Q (reduceHash n) s') ⟨_,_,rfl,?_⟩) (fun fin s' h=>?_) fun _ _ h=>h
  . rw [hb'];simpa only [NK.hs,NK.dr,Nat.add_assoc,List.nil_append] using q
  . obtain ⟨v,rfl,n,t,rfl,hq⟩:=h;exact ⟨n,t,rfl,hq⟩
theorem Oh:∀(m:Nat) {k j:NK} {u v:Value} {A:Around},k.dep<=m->A.units+m<cLine->NKv s.heap k u->NKv s.heap j v->SeqAt.EqAt A s u v (decide (k=j))
 | m,.i n,.i n',u,v,A,hd,hu,p,q=>by
  simp only [NKv] at p q;obtain ⟨t,rfl⟩:=p;obtain ⟨t',rfl⟩:=q;have:decide (NK.i n=NK.i n')=(n==n'):=by
   by_cases h:n=n'
   . rw [h];simp
   . rw [decide_eq_false (fun e=>h (NK.i.inj e))];simp [h]
  rw [this];exact .int_int _ _ _ _
 | m,.i n,.t js,u,v,A,hd,hu,p,q=>by simp only [NKv] at p q;obtain ⟨t,rfl⟩:=p;obtain ⟨a,its,rfl,q1,_⟩:=q;rw [decide_eq_false (fun e=>by cases e)];exact .int_tuple _ _ q1 (by lia)
 | m,.t ks,.i n',u,v,A,hd,hu,p,q=>by simp only [NKv] at p q;obtain ⟨t,rfl⟩:=q;obtain ⟨a,its,rfl,q1,_⟩:=p;rw [decide_eq_false (fun e=>by cases e)];exact .tuple_int _ _ q1 (by lia)
 | 0,.t ks,.t js,u,v,A,hd,hu,p,q=>by simp only [NK.dep] at hd;lia
 | m+1,.t ks,.t js,u,v,A,hd,hu,p,q=>by
  have p0:=p;have q0:=q;simp only [NKv] at p q;obtain ⟨a,its,rfl,p1,p2⟩:=p;obtain ⟨b,its2,rfl,q1,q2⟩:=q;simp only [NK.dep] at hd;by_cases hab:a=b
  . subst hab;rw [decide_eq_true (NKv.inj p0 q0)];exact .same _
  . have l1:=p2.len;have l2:=q2.len;simp only [Array.length_toList] at l1 l2;have at':∀(ks:List NK) (vs:List Value),NKvs s.heap ks vs->∀j v,vs[j]?=some v->NKv s.heap (ks.getD j (.i 0)) v/\(ks.getD j (.i 0)).dep<=y6 ks:=by
     intro ks;induction ks with
     | nil=>intro vs p j v e;simp only [NKvs] at p;subst p;simp at e
     | cons k ks ih=>
      intro vs p j v e
      simp only [NKvs] at p
      obtain ⟨v0,r,rfl,r1,r2⟩:=p
      cases j with
      | zero=>simp at e;subst e;exact ⟨r1,by simp only [List.getD_cons_zero,y6];lia⟩
      | succ j=>
       simp only [List.getElem?_cons_succ] at e
       obtain ⟨x1,x2⟩:=ih r r2 j v e
       exact ⟨x1,by simp only [List.getD_cons_succ,y6];lia⟩
    have q:=SeqAt.RcAt.tuples (A:=A) p1 q1 (by lia) (e:=fun j=>decide (ks.getD j (.i 0)=js.getD j (.i 0))) fun j h1 h2=>by obtain ⟨x1,x2⟩:=at' ks _ p2 j its[j] (by simp [h1]);obtain ⟨y1,y2⟩:=at' js _ q2 j its2[j] (by simp [h2]);exact Oh m (by lia) (by show A.units+1+m<cLine;lia) x1 y1
    have eb:((List.range (min its.size its2.size)).all (fun j=>decide (ks.getD j (.i 0)=js.getD j (.i 0)))&&its.size==its2.size)=decide (NK.t ks=NK.t js):=by
     rw [Bool.eq_iff_iff,Bool.and_eq_true,List.all_eq_true,decide_eq_true_eq,beq_iff_eq];constructor
     . rintro ⟨h1,h2⟩;congr 1;refine List.ext_getElem (by lia) fun j hj hj'=>?_
       have:=h1 j (List.mem_range.mpr (by lia));rw [decide_eq_true_eq,List.getD_eq_getElem?_getD,List.getD_eq_getElem?_getD,List.getElem?_eq_getElem hj,List.getElem?_eq_getElem hj'] at this;exact this
     . intro e;cases e;exact ⟨fun j _=>decide_eq_true rfl,by lia⟩
    rw [eb] at q;exact .of_refs hab q
end
section
variable {prog:Program} {w:World}
theorem Ug:∀(m:Nat) {k:NK} {v:Value} {Q:Bool->Shared->Prop},k.dep<=m->NKv s.heap k v->Q true s->wpAny (model prog w) A (eqIsQuiet m v) Q E s
 | m,.i n,v,Q,hd,p,q=>by simp only [NKv] at p;obtain ⟨t,rfl⟩:=p;rw [eqIsQuiet.eq_3 _ _ (fun a e=>by cases e)];exact ω q
 | 0,.t ks,v,Q,hd,p,q=>by simp only [NK.dep] at hd;lia
 | m+1,.t ks,v,Q,hd,p,q=>by
  simp only [NKv] at p;obtain ⟨a,its,rfl,⟨o,e,c,n,d⟩,p2⟩:=p;simp only [NK.dep] at hd;rw [eqIsQuiet.eq_2];refine χ (wpAny_specialOf (T:="tuple") ⟨o,e,c⟩ F.slot_tuple_eq.lookup ?_);show wpAny (model prog w) A (isInstance (.ref a) (.type "tuple") >>= _) _ _ s;refine χ (wpAny_isInstance (T:="tuple") (b:=true) ⟨o,e,c⟩ (by rfl) ?_);show wpAny (model prog w) A (seqItems? (.ref a) >>= _) _ _ s;refine χ (wpAny_seqItems e d ?_);refine χ ?_;have go:∀(ks:List NK) (vs:List Value) (Q':Option Bool×Unit->Shared->Prop),y6 ks<=m->NKvs s.heap ks vs->Q' (none,()) s ->
    wpAny (model prog w) A (forIn vs ((none,()):Option Bool×Unit) fun y __s=>do
     let __do_lift <-eqIsQuiet m y
     if (!__do_lift)=true then pure (ForInStep.done (some false,()))
      else pure (ForInStep.yield (none,()))) Q' E s:=by
   intro ks
   induction ks with
   | nil=>
    intro vs Q' _ p hq
    simp only [NKvs] at p;subst p
    exact ω hq
   | cons k ks ih=>
    intro vs Q' hd p hq
    simp only [NKvs] at p
    obtain ⟨v,r,rfl,p1,p2⟩:=p
    simp only [y6] at hd
    rw [List.forIn_cons]
    refine χ (χ (Ug m (by lia) p1 ?_))
    refine ω ?_
    exact ih r Q' (by lia) p2 hq
  show wpAny (model prog w) A (forIn its ((none,()):Option Bool×Unit) _) _ _ s;rw [<-Array.forIn_toList];refine go ks its.toList _ (by lia) p2 ?_;exact ω q
def deepKind (prog:Program) (w:World):HeapKind prog w NK where
 is:=fun h k a=>NKv h k (.ref a)/\k.dep<=8
 hash:=NK.hs
 draws:=NK.dr
 room:=fun A=>A.units+8<cLine
 inj:=fun p q=>NKv.inj p.1 q.1
 keeps:=fun {h h' k a d o es ep} p e eo sb=>⟨NKv.stay (fun b its t=>by
  obtain ⟨ob,eb,cb,n,db⟩:=t;have hne:b≠d:=fun z=>by subst z;rw [e] at eb;cases eb;rw [eo] at db;cases db
  exact ⟨ob,(sb.2 b hne).trans eb,cb,n,db⟩) p.1,p.2⟩
 pyHash:=fun {A E s k a Q} hr p q=>Ta 8 p.2 hr p.1 q
 eqBool:=fun {A E s x y a b Q} hr p p' q=>Oh 8 p.2 hr p.1 p'.1 prog w E Q q
 quiet:=fun {A E s k a Q} p q=>Ug 8 p.2 p.1 q
end
def dnE (x:NK×Addr×Value):DictEntry:={ hash:=x.1.hs,key:=.ref x.2.1,val:=x.2.2 }
def dnP (a:Addr) (ks:List (NK×Addr)) (xs:List V) (o:Obj) (h:Heap):Prop:=
 h.get? a=some o/\∃(vs:List Value) (es:Array DictEntry) (ep:Nat),Vals xs vs/\ks.length=vs.length/\o.ExactDict/\o.data=.dict es ep/\es.toList=((ks.zip vs).map fun q=>(q.1.1,q.1.2,q.2)).map dnE
theorem dnP.stay:∀h1 h2:Heap,dnP a ks xs o h1->(∀o,h1.get? a=some o->h2.get? a=some o)->dnP a ks xs o h2:=fun _ _ p k=>⟨k _ p.1,p.2⟩
mutual
def NKr (H:Hp):NK->V->Prop
 | .i n,v=>v=.int n
 | .t ks,v=>∃a ys,v=.ref a/\H a=some (.tup ys)/\NKrs H ks ys
def NKrs (H:Hp):List NK->List V->Prop
 | [],vs=>vs=[]
 | k::ks,vs=>∃v r,vs=v::r/\NKr H k v/\NKrs H ks r
end
mutual
theorem NKr.mono (st:∀a ys,H a=some (.tup ys)->H' a=some (.tup ys)):∀{k:NK} {v:V},NKr H k v->NKr H' k v
 | .i n,v,p=>by simp only [NKr] at p ⊢;exact p
 | .t ks,v,p=>by simp only [NKr] at p ⊢;obtain ⟨a,ys,e,p1,p2⟩:=p;exact ⟨a,ys,e,st _ _ p1,NKrs.mono st p2⟩
theorem NKrs.mono (st:∀a ys,H a=some (.tup ys)->H' a=some (.tup ys)):∀{ks:List NK} {vs:List V},NKrs H ks vs->NKrs H' ks vs
 | [],_,p=>by simp only [NKrs] at p ⊢;exact p
 | k::ks,_,p=>by simp only [NKrs] at p ⊢;obtain ⟨v,r,e,p1,p2⟩:=p;exact ⟨v,r,e,NKr.mono st p1,NKrs.mono st p2⟩
end
section
variable {X:Cx} {pins:List (Addr×Obj)} {σ:St} {H:Hp} {s:Shared}
mutual
theorem T5 (I:Inv X pins σ H s):∀{k:NK} {x:V} {u:Value},NKr H k x->RelV x u->NKv s.heap k u
 | .i n,x,u,p,r=>by simp only [NKr] at p;subst p;obtain ⟨t,rfl⟩:=r;simp only [NKv];exact ⟨t,rfl⟩
 | .t ks,x,u,p,r=>by simp only [NKr] at p;obtain ⟨a,ys,rfl,p1,p2⟩:=p;cases r;obtain ⟨its,r1,t1,_⟩:=I.tuple (.of p1);simp only [NKv];exact ⟨a,its.toArray,rfl,t1,Qn I p2 r1⟩
theorem Qn (I:Inv X pins σ H s):∀{ks:List NK} {xs:List V} {us:List Value},NKrs H ks xs->Vals xs us->NKvs s.heap ks us
 | [],_,_,p,r=>by simp only [NKrs] at p;subst p;cases r;simp only [NKvs]
 | k::ks,_,_,p,r=>by
  simp only [NKrs] at p;obtain ⟨v,q,rfl,p1,p2⟩:=p;cases r with
  | cons a1 a2=>
   simp only [NKvs]
   exact ⟨_,_,rfl,T5 I p1 a1,Qn I p2 a2⟩
end
end
def KL (K:Frag) (a:Addr) (xs:List V):Prop:=∃(o:Obj) (its:Array Value) (n:Nat),K.lookup a=some o/\o.cls=.type "list"/\o.dict=none/\o.data=.seq its n/\its.size<=sizeLine/\Vals xs its.toList
def XO (K:Frag) (c:String) (a:Addr) (od:Option Addr) (o:HO):Prop:=∃C:Addr,nsIn K mainGlobals (c:Str)=some (some (.ref C))/\o=.ext fun h=>∃ob,h.get? a=some ob/\ob.cls=.ref C/\(∃vs,ob.data=.fields vs)/\ob.dict=od
noncomputable def Fx (c:String):List Str:=if c="Fallen" then ["corner"] else if c="Crossed" then ["one","other"] else if c="NotFull" then ["line"] else []
inductive D where
 | non | bl (b:Bool) | int (i:Int) | str (x:Str) | tup (ds:List D) | lst (ds:List D)
 | dk (ks:List Key) (ds:List D) | dt (ks:List (List Key)) (ds:List D) | dn (ks:List NK) (ds:List D) | scr (ns:List Int) | exc (c:String) (fs:List D)
def DN (H:Hp) (a:Addr) (qs:List (NK×Addr)):Prop:=(qs.map (·.1)).Nodup/\(∀q∈qs,NKr H q.1 (.ref q.2)/\q.1.dep<=8)/\(a==sysModules)=false/\qs.length<=sizeLine
theorem DN.tk (h:DN H a qs) (st:∀a ys,H a=some (.tup ys)->H' a=some (.tup ys)):DN H' a qs:=
 ⟨h.1,fun q hq=>⟨NKr.mono st (h.2.1 q hq).1,(h.2.1 q hq).2⟩,h.2.2⟩
mutual
def RD (K:Frag) (H:Hp):D->V->Prop
 | .non,v=>v=.non
 | .bl b,v=>v=.bl b
 | .int i,v=>v=.int i
 | .str x,v=>v=.str x
 | .tup ds,v=>∃a xs,v=.ref a/\H a=some (.tup xs)/\RDs K H ds xs
 | .lst ds,v=>∃a xs,v=.ref a/\H a=some (.lst xs)/\RDs K H ds xs
 | .dk ks ds,v=>∃a xs,v=.ref a/\H a=some (.dK (ks.zip xs))/\ks.length=xs.length/\RDs K H ds xs
 | .dt ks ds,v=>∃a xs,v=.ref a/\H a=some (.dT (ks.zip xs))/\ks.length=xs.length/\RDs K H ds xs
 | .dn ks ds,v=>∃a qs xs o,v=.ref a/\H a=some (.ext (dnP a qs xs o))/\qs.map (·.1)=ks/\DN H a qs/\RDs K H ds xs
 | .scr ns,v=>∃a,v=.ref a/\((∃o,H a=some (.frz o (.lst (ns.map V.int))))\/KL K a (ns.map V.int))
 | .exc c fs,v=>∃a od o,v=.ref a/\XO K c a od o/\H a=some o/\(fs=[]\/∃(dx:Addr) (ns:List Int) (ob:Obj),od=some dx/\H dx=some (.frz ob (.xd ((Fx c).zip (ns.map V.int))))/\fs=ns.map D.int)
def RDs (K:Frag) (H:Hp):List D->List V->Prop
 | [],xs=>xs=[]
 | d::ds,xs=>∃x r,xs=x::r/\RD K H d x/\RDs K H ds r
end
mutual
noncomputable def D.noL:D->Bool
 | .lst _=>false
 | .dk _ _=>false
 | .dt _ _=>false
 | .dn _ _=>false
 | .tup ds=>i7 ds
 | _=>true
noncomputable def i7:List D->Bool
 | []=>true
 | d::ds=>d.noL&&i7 ds
end
mutual
noncomputable def D.pl:D->Bool
 | .dk _ _=>false
 | .dt _ _=>false
 | .dn _ _=>false
 | .scr _=>false
 | .exc _ _=>false
 | .tup ds=>pls ds
 | .lst ds=>pls ds
 | _=>true
noncomputable def pls:List D->Bool
 | []=>true
 | d::ds=>d.pl&&pls ds
end
def D.shal:D->Bool
 | .lst ds=>i7 ds
 | .dk _ ds=>i7 ds
 | .dt _ ds=>i7 ds
 | .dn _ ds=>i7 ds
 | d=>d.noL
def Imm:HO->Prop
 | .tup _=>True
 | .frz _ _=>True
 | .ext φ=>∀a qs xs o,φ≠dnP a qs xs o
 | _=>False
theorem XO.imm {K:Frag} {c:String} {a:Addr} {od:Option Addr} {o:HO} (h:XO K c a od o):Imm o:=by
 obtain ⟨C,_,rfl⟩:=h;intro b qs xs o0 e;obtain ⟨ob,hob⟩:∃ob:Obj,ob={ cls:=.ref C,dict:=od,data:=.fields #[] }:=⟨_,rfl⟩;have hg:∀(i:Nat) (o:Obj),({ objs:=Array.replicate (a+1) ob }:Heap).get? i=some o->o=ob:=fun i o q=>by
  by_cases hi:i<a+1
  . have z:({ objs:=Array.replicate (a+1) ob }:Heap).get? i=some ob:=by
     unfold Heap.get?
     rw [Array.getElem?_replicate,ξ hi,hob]
    rw [z] at q;cases q;rfl
  . unfold Heap.get? at q;rw [Array.getElem?_replicate,ψ hi] at q;cases q
 have h1:(fun h:Heap=>∃ob,h.get? a=some ob/\ob.cls=.ref C/\(∃vs,ob.data=.fields vs)/\ob.dict=od) { objs:=Array.replicate (a+1) ob }:=by refine ⟨ob,?_,by rw [hob],⟨#[],by rw [hob]⟩,by rw [hob]⟩;unfold Heap.get?;rw [Array.getElem?_replicate,ξ (Nat.lt_succ_self a),hob]
 rw [e] at h1;obtain ⟨g,vs,es,ep,_,_,_,d,_⟩:=h1;rw [hg _ _ g,hob] at d;cases d
def TK (H H':Hp):Prop:=∀a o,Imm o->H a=some o->H' a=some o
section
variable {K:Frag} {H H':Hp}
mutual
theorem RD.tk (hs:TK H H'):∀{d:D} {v:V},d.noL=true->RD K H d v->RD K H' d v
 | .non,_,_,h=>by simp only [RD] at h ⊢;exact h
 | .bl _,_,_,h=>by simp only [RD] at h ⊢;exact h
 | .int _,_,_,h=>by simp only [RD] at h ⊢;exact h
 | .str _,_,_,h=>by simp only [RD] at h ⊢;exact h
 | .tup ds,_,n,h=>by simp only [RD] at h ⊢;obtain ⟨a,xs,e,h1,h2⟩:=h;exact ⟨a,xs,e,hs _ _ trivial h1,RDs.tk hs (by simpa only [D.noL] using n) h2⟩
 | .lst ds,_,n,h=>by simp [D.noL] at n
 | .dk _ ds,_,n,h=>by simp [D.noL] at n
 | .dt _ ds,_,n,h=>by simp [D.noL] at n
 | .dn _ ds,_,n,h=>by simp [D.noL] at n
 | .exc c fs,_,n,h=>by
  simp only [RD] at h ⊢;obtain ⟨a,od,o,e,h1,h2,h3⟩:=h;refine ⟨a,od,o,e,h1,hs _ _ h1.imm h2,?_⟩;rcases h3 with h3 | ⟨dx,xs,ob,q1,q2,q3⟩
  . exact .inl h3
  . exact .inr ⟨dx,xs,ob,q1,hs _ _ trivial q2,q3⟩
 | .scr ns,_,n,h=>by
  simp only [RD] at h ⊢;obtain ⟨a,e,h1⟩:=h;refine ⟨a,e,?_⟩;rcases h1 with ⟨o,h1⟩ | h1
  . exact .inl ⟨o,hs _ _ trivial h1⟩
  . exact .inr h1
theorem RDs.tk (hs:TK H H'):∀{ds:List D} {xs:List V},i7 ds=true->RDs K H ds xs->RDs K H' ds xs
 | [],_,_,h=>by simp only [RDs] at h ⊢;exact h
 | d::ds,_,n,h=>by simp only [RDs] at h ⊢;simp only [i7,Bool.and_eq_true] at n;obtain ⟨x,r,e,h1,h2⟩:=h;exact ⟨x,r,e,RD.tk hs n.1 h1,RDs.tk hs n.2 h2⟩
end
mutual
theorem RD.mono (hs:Same H H'):∀{d:D} {v:V},RD K H d v->RD K H' d v
 | .non,_,h=>by simp only [RD] at h ⊢;exact h
 | .bl _,_,h=>by simp only [RD] at h ⊢;exact h
 | .int _,_,h=>by simp only [RD] at h ⊢;exact h
 | .str _,_,h=>by simp only [RD] at h ⊢;exact h
 | .tup ds,_,h=>by simp only [RD] at h ⊢;obtain ⟨a,xs,e,h1,h2⟩:=h;exact ⟨a,xs,e,hs _ _ h1,RDs.mono hs h2⟩
 | .lst ds,_,h=>by simp only [RD] at h ⊢;obtain ⟨a,xs,e,h1,h2⟩:=h;exact ⟨a,xs,e,hs _ _ h1,RDs.mono hs h2⟩
 | .dk _ ds,_,h=>by simp only [RD] at h ⊢;obtain ⟨a,xs,e,h1,hl,h2⟩:=h;exact ⟨a,xs,e,hs _ _ h1,hl,RDs.mono hs h2⟩
 | .dn _ ds,_,h=>by simp only [RD] at h ⊢;obtain ⟨a,qs,xs,o,e,h1,hk,hd,h2⟩:=h;exact ⟨a,qs,xs,o,e,hs _ _ h1,hk,hd.tk fun b ys q=>hs _ _ q,RDs.mono hs h2⟩
 | .dt _ ds,_,h=>by simp only [RD] at h ⊢;obtain ⟨a,xs,e,h1,hl,h2⟩:=h;exact ⟨a,xs,e,hs _ _ h1,hl,RDs.mono hs h2⟩
 | .exc c fs,_,h=>by
  simp only [RD] at h ⊢;obtain ⟨a,od,o,e,h1,h2,h3⟩:=h;refine ⟨a,od,o,e,h1,hs _ _ h2,?_⟩;rcases h3 with h3 | ⟨dx,xs,ob,q1,q2,q3⟩
  . exact .inl h3
  . exact .inr ⟨dx,xs,ob,q1,hs _ _ q2,q3⟩
 | .scr ns,_,h=>by
  simp only [RD] at h ⊢;obtain ⟨a,e,h1⟩:=h;refine ⟨a,e,?_⟩;rcases h1 with ⟨o,h1⟩ | h1
  . exact .inl ⟨o,hs _ _ h1⟩
  . exact .inr h1
theorem RDs.mono (hs:Same H H'):∀{ds:List D} {xs:List V},RDs K H ds xs->RDs K H' ds xs
 | [],_,h=>by simp only [RDs] at h ⊢;exact h
 | d::ds,_,h=>by simp only [RDs] at h ⊢;obtain ⟨x,r,e,h1,h2⟩:=h;exact ⟨x,r,e,RD.mono hs h1,RDs.mono hs h2⟩
end
theorem RDs.length:∀{ds:List D} {xs:List V},RDs K H ds xs->ds.length=xs.length
 | [],_,h=>by simp only [RDs] at h;subst h;rfl
 | d::ds,_,h=>by simp only [RDs] at h;obtain ⟨x,r,rfl,_,h2⟩:=h;simp [RDs.length h2]
theorem RDs.get:∀{ds:List D} {xs:List V} {i:Nat} {x:V},RDs K H ds xs->xs[i]?=some x->∃d,ds[i]?=some d/\RD K H d x
 | [],_,i,x,h,e=>by simp only [RDs] at h;subst h;simp at e
 | d::ds,_,i,x,h,e=>by
  simp only [RDs] at h;obtain ⟨y,r,rfl,h1,h2⟩:=h;cases i with
  | zero=>simp at e;subst e;exact ⟨d,rfl,h1⟩
  | succ i=>simp at e;obtain ⟨d',e1,e2⟩:=RDs.get h2 e;exact ⟨d',by simpa using e1,e2⟩
theorem RDs.get':∀{ds:List D} {xs:List V} {i:Nat} {d:D},RDs K H ds xs->ds[i]?=some d->∃x,xs[i]?=some x/\RD K H d x
 | [],_,i,d,h,e=>by simp at e
 | d'::ds,_,i,d,h,e=>by
  simp only [RDs] at h;obtain ⟨y,r,rfl,h1,h2⟩:=h;cases i with
  | zero=>simp at e;subst e;exact ⟨y,rfl,h1⟩
  | succ i=>simp at e;obtain ⟨x',e1,e2⟩:=RDs.get' h2 e;exact ⟨x',by simpa using e1,e2⟩
theorem RDs.append:∀{ds es:List D} {xs ys:List V},RDs K H ds xs->RDs K H es ys->RDs K H (ds++es) (xs++ys)
 | [],_,_,_,h,h'=>by simp only [RDs] at h;subst h;exact h'
 | d::ds,es,_,ys,h,h'=>by simp only [RDs] at h;obtain ⟨x,r,rfl,h1,h2⟩:=h;simp only [List.cons_append,RDs];exact ⟨x,r++ys,rfl,h1,RDs.append h2 h'⟩
theorem RDs.nil:RDs K H [] []:=by simp only [RDs]
theorem RDs.cons (h:RD K H d x) (h':RDs K H ds xs):RDs K H (d::ds) (x::xs):=by simp only [RDs];exact ⟨x,xs,rfl,h,h'⟩
theorem RDs.one (h:RD K H d x):RDs K H [d] [x]:=.cons h .nil
theorem RDs.take:∀{ds:List D} {xs:List V} (n:Nat),RDs K H ds xs->RDs K H (ds.take n) (xs.take n)
 | _,_,0,_=>by simp [RDs]
 | [],_,n+1,h=>by simp only [RDs] at h;subst h;simp [RDs]
 | d::ds,_,n+1,h=>by simp only [RDs] at h;obtain ⟨x,r,rfl,h1,h2⟩:=h;simp only [List.take_succ_cons];exact .cons h1 (RDs.take n h2)
theorem RDs.drop:∀{ds:List D} {xs:List V} (n:Nat),RDs K H ds xs->RDs K H (ds.drop n) (xs.drop n)
 | _,_,0,h=>h
 | [],_,n+1,h=>by simp only [RDs] at h;subst h;simp [RDs]
 | d::ds,_,n+1,h=>by simp only [RDs] at h;obtain ⟨x,r,rfl,h1,h2⟩:=h;exact RDs.drop n h2
theorem RDs.set:∀{ds:List D} {xs:List V} (n:Nat) {d:D} {x:V},RDs K H ds xs->RD K H d x->RDs K H (ds.set n d) (xs.set n x)
 | [],_,n,_,_,h,_=>by simp only [RDs] at h;subst h;simp [RDs]
 | d::ds,_,0,_,_,h,h'=>by simp only [RDs] at h;obtain ⟨x,r,rfl,h1,h2⟩:=h;exact .cons h' h2
 | d::ds,_,n+1,_,_,h,h'=>by simp only [RDs] at h;obtain ⟨x,r,rfl,h1,h2⟩:=h;exact .cons h1 (RDs.set n h2 h')
theorem RDs.ofInts:∀(ns:List Int),RDs K H (ns.map D.int) (ns.map V.int)
 | []=>by simp only [List.map,RDs]
 | n::ns=>by simp only [List.map];exact RDs.cons (by simp only [RD]) (RDs.ofInts ns)
end
mutual
noncomputable def eqD:D->D->Bool
 | .non,.non=>true
 | .bl a,.bl b=>a==b
 | .bl a,.int j=>(if a then 1 else 0)==j
 | .int i,.bl b=>i==(if b then 1 else 0)
 | .int i,.int j=>i==j
 | .str a,.str b=>a==b
 | .tup ds,.tup es=>l7 ds es
 | .lst ds,.lst es=>l7 ds es
 | _,_=>false
noncomputable def l7:List D->List D->Bool
 | [],[]=>true
 | d::ds,e::es=>eqD d e&&l7 ds es
 | _,_=>false
end
mutual
noncomputable def D.dep:D->Nat
 | .tup ds=>h7 ds+1
 | .lst ds=>h7 ds+1
 | _=>0
noncomputable def h7:List D->Nat
 | []=>0
 | d::ds=>max d.dep (h7 ds)
end
mutual
theorem Ky:∀d:D,d.pl=true->eqD d d=true
 | .non,_=>rfl
 | .bl b,_=>by simp [eqD]
 | .int b,_=>by simp [eqD]
 | .str b,_=>by simp [eqD]
 | .tup ds,h=>by simp only [eqD];exact Lo ds (by simpa only [D.pl] using h)
 | .lst ds,h=>by simp only [eqD];exact Lo ds (by simpa only [D.pl] using h)
 | .dk _ _,h=>by simp [D.pl] at h
 | .dt _ _,h=>by simp [D.pl] at h
 | .dn _ _,h=>by simp [D.pl] at h
 | .scr _,h=>by simp [D.pl] at h
 | .exc _ _,h=>by simp [D.pl] at h
theorem Lo:∀ds:List D,pls ds=true->l7 ds ds=true
 | [],_=>rfl
 | d::ds,h=>by simp only [pls,Bool.and_eq_true] at h;simp only [l7,Ky d h.1,Lo ds h.2,Bool.and_self]
end
mutual
theorem RD.inj {K:Frag} {H:Hp}:∀{d e:D} {v:V},d.pl=true->e.pl=true->RD K H d v->RD K H e v->d=e
 | .non,e,v,_,p,h,h'=>by simp only [RD] at h;subst h;cases e<;>simp only [RD] at h'<;>first | (exfalso;simp [D.pl] at p;done) | rfl | (cases h';done) | (obtain ⟨a,xs,z,_⟩:=h';cases z)
 | .bl b,e,v,_,p,h,h'=>by simp only [RD] at h;subst h;cases e<;>simp only [RD] at h'<;>first | (exfalso;simp [D.pl] at p;done) | (cases h';rfl) | (cases h';done) | (obtain ⟨a,xs,z,_⟩:=h';cases z)
 | .int b,e,v,_,p,h,h'=>by simp only [RD] at h;subst h;cases e<;>simp only [RD] at h'<;>first | (exfalso;simp [D.pl] at p;done) | (cases h';rfl) | (cases h';done) | (obtain ⟨a,xs,z,_⟩:=h';cases z)
 | .str b,e,v,_,p,h,h'=>by simp only [RD] at h;subst h;cases e<;>simp only [RD] at h'<;>first | (exfalso;simp [D.pl] at p;done) | (cases h';rfl) | (cases h';done) | (obtain ⟨a,xs,z,_⟩:=h';cases z)
 | .dk _ _,e,v,p,_,h,h'=>by simp [D.pl] at p
 | .dt _ _,e,v,p,_,h,h'=>by simp [D.pl] at p
 | .dn _ _,e,v,p,_,h,h'=>by simp [D.pl] at p
 | .scr _,e,v,p,_,h,h'=>by simp [D.pl] at p
 | .exc _ _,e,v,p,_,h,h'=>by simp [D.pl] at p
 | .tup ds,e,v,p,p',h,h'=>by
  simp only [RD] at h;obtain ⟨a,xs,rfl,h1,h2⟩:=h;cases e<;>simp only [RD] at h'
  case tup es=>
   obtain ⟨b,ys,z,h3,h4⟩:=h'
   cases z
   rw [h1] at h3;cases h3
   rw [RDs.inj (by simpa only [D.pl] using p) (by simpa only [D.pl] using p') h2 h4]
  case lst es=>
   obtain ⟨b,ys,z,h3,h4⟩:=h'
   cases z
   rw [h1] at h3;cases h3
  all_goals first | (exfalso;simp [D.pl] at p';done) | cases h'
 | .lst ds,e,v,p,p',h,h'=>by
  simp only [RD] at h;obtain ⟨a,xs,rfl,h1,h2⟩:=h;cases e<;>simp only [RD] at h'
  case tup es=>
   obtain ⟨b,ys,z,h3,h4⟩:=h'
   cases z
   rw [h1] at h3;cases h3
  case lst es=>
   obtain ⟨b,ys,z,h3,h4⟩:=h'
   cases z
   rw [h1] at h3;cases h3
   rw [RDs.inj (by simpa only [D.pl] using p) (by simpa only [D.pl] using p') h2 h4]
  all_goals first | (exfalso;simp [D.pl] at p';done) | cases h'
theorem RDs.inj {K:Frag} {H:Hp}:∀{ds es:List D} {xs:List V},pls ds=true->pls es=true->RDs K H ds xs->RDs K H es xs->ds=es
 | [],es,xs,_,_,h,h'=>by
  simp only [RDs] at h;subst h;cases es<;>simp only [RDs] at h'
  . rfl
  . obtain ⟨x,r,z,_⟩:=h';cases z
 | d::ds,es,xs,p,p',h,h'=>by
  simp only [RDs] at h;obtain ⟨x,r,rfl,h1,h2⟩:=h;simp only [pls,Bool.and_eq_true] at p;cases es with
  | nil=>simp only [RDs] at h';cases h'
  | cons e es=>
   simp only [RDs] at h'
   obtain ⟨y,r',z,h3,h4⟩:=h'
   cases z
   simp only [pls,Bool.and_eq_true] at p'
   rw [RD.inj p.1 p'.1 h1 h3,RDs.inj p.2 p'.2 h2 h4]
end
theorem Kc:∀{ds:List D} {d:D},pls ds=true->d∈ds->d.pl=true
 | e::ds,d,h,m=>by
  simp only [pls,Bool.and_eq_true] at h;rcases List.mem_cons.mp m with rfl | m
  . exact h.1
  . exact Kc h.2 m
theorem Kx:∀{ds:List D} {d:D},d∈ds->d.dep<=h7 ds
 | d'::ds,d,h=>by
  simp only [h7];rcases List.mem_cons.mp h with rfl | h
  . lia
  . have:=Kx h;lia
theorem Kw:∀{ds es:List D},ds.length=es.length->l7 ds es=(List.range ds.length).all fun j=>eqD (ds.getD j .non) (es.getD j .non)
 | [],[],_=>rfl
 | [],_::_,h=>by simp at h
 | _::_,[],h=>by simp at h
 | d::ds,e::es,h=>by simp only [l7,List.length_cons];rw [Kw (by simpa using h),List.range_succ_eq_map,List.all_cons,List.all_map];rfl
theorem Kv:∀{ds es:List D},ds.length≠es.length->l7 ds es=false
 | [],[],h=>absurd rfl h
 | [],_::_,_=>rfl
 | _::_,[],_=>rfl
 | d::ds,e::es,h=>by simp only [l7];rw [Kv (by intro z;exact h (by simp [z])),Bool.and_false]
section
variable {X:Cx} {pins:List (Addr×Obj)} {σ:St} {H:Hp} {s:Shared}
theorem Inv.tupA (I:Inv X pins σ H s) (h:H a=some (.tup xs)):∃its:List Value,Vals xs its/\s.heap.IsTuple a its.toArray:=by obtain ⟨its,r,t,_⟩:=I.tuple (.of h);exact ⟨its,r,t⟩
theorem Inv.lstA (I:Inv X pins σ H s) (h:H a=some (.lst xs)):∃its:List Value,Vals xs its/\s.heap.IsList a its.toArray:=by obtain ⟨its,r,t,_⟩:=I.list (.of h);exact ⟨its,r,t.isList⟩
inductive Shp (X:Cx) (H:Hp) (s:Shared):D->V->Value->Prop
 | non:Shp X H s .non .non .none
 | bl (b:Bool):Shp X H s (.bl b) (.bl b) (.bool b)
 | int (i:Int) (t:Tok):Shp X H s (.int i) (.int i) (.int i t)
 | str (c:Str) (t:Tok):Shp X H s (.str c) (.str c) (.str c t)
 | tup {ds:List D} {a:Addr} {xs:List V} {its:List Value} (p:pls ds=true) (h:H a=some (.tup xs)) (q:RDs X.K H ds xs) (r:Vals xs its) (t:s.heap.IsTuple a its.toArray):Shp X H s (.tup ds) (.ref a) (.ref a)
 | lst {ds:List D} {a:Addr} {xs:List V} {its:List Value} (p:pls ds=true) (h:H a=some (.lst xs)) (q:RDs X.K H ds xs) (r:Vals xs its) (t:s.heap.IsList a its.toArray):Shp X H s (.lst ds) (.ref a) (.ref a)
theorem shp (I:Inv X pins σ H s) (p:d.pl=true) (h:RD X.K H d x) (r:RelV x u):Shp X H s d x u:=by
 cases d<;>simp only [RD] at h<;>first | (exfalso;simp [D.pl] at p;done) | skip
 . subst h;cases r;exact .non
 . subst h;cases r;exact .bl _
 . subst h;obtain ⟨t,rfl⟩:=r;exact .int _ _
 . subst h;obtain ⟨t,rfl⟩:=r;exact .str _ _
 . obtain ⟨a,xs,rfl,h1,h2⟩:=h;cases r;obtain ⟨its,v,t⟩:=I.tupA h1;exact .tup (by simpa only [D.pl] using p) h1 h2 v t
 . obtain ⟨a,xs,rfl,h1,h2⟩:=h;cases r;obtain ⟨its,v,t⟩:=I.lstA h1;exact .lst (by simpa only [D.pl] using p) h1 h2 v t
def Fw (X:Cx) (H:Hp) (s:Shared) (A:Around) (n:Nat):Prop:=∀{d e:D} {x y:V} {u v:Value},d.pl=true->e.pl=true->d.dep<=n->RD X.K H d x->RD X.K H e y->RelV x u->RelV y v->SeqAt.EqAt A s u v (eqD d e)
theorem Sy (ih:Fw X H s A n) (pd:pls ds=true) (pe:pls es=true) (hdn:h7 ds<=n) (hxs:RDs X.K H ds xs) (hys:RDs X.K H es ys) (r:Vals xs its) (r2:Vals ys its2) (j:Nat)
  (h1:j<its.toArray.size) (h2:j<its2.toArray.size):SeqAt.EqAt A s its.toArray[j] its2.toArray[j] (eqD (ds.getD j .non) (es.getD j .non)):=by
 have h1':j<its.length:=by simpa using h1
 have h2':j<its2.length:=by simpa using h2
 have l1:=r.length
 have l2:=r2.length
 obtain ⟨u1,e1,q1⟩:=r.get (i:=j) (x:=xs[j]'(by lia)) (by simp)
 obtain ⟨u2,e2,q2⟩:=r2.get (i:=j) (x:=ys[j]'(by lia)) (by simp)
 obtain ⟨d1,g1,w1⟩:=hxs.get (i:=j) (x:=xs[j]'(by lia)) (by simp)
 obtain ⟨d2,g2,w2⟩:=hys.get (i:=j) (x:=ys[j]'(by lia)) (by simp)
 have ea:its.toArray[j]=u1:=by rw [List.getElem?_eq_getElem h1'] at e1;simpa using e1
 have eb:its2.toArray[j]=u2:=by rw [List.getElem?_eq_getElem h2'] at e2;simpa using e2
 have ga:ds.getD j .non=d1:=by rw [List.getD_eq_getElem?_getD,g1];rfl
 have gb:es.getD j .non=d2:=by rw [List.getD_eq_getElem?_getD,g2];rfl
 rw [ea,eb,ga,gb]
 exact ih (Kc pd (List.mem_of_getElem? g1)) (Kc pe (List.mem_of_getElem? g2)) (Nat.le_trans (Kx (List.mem_of_getElem? g1)) hdn) w1 w2 q1 q2
theorem wB (hxs:RDs X.K H ds xs) (hys:RDs X.K H es ys) (r:Vals xs its) (r2:Vals ys its2) :
  ((List.range (min its.toArray.size its2.toArray.size)).all (fun j=>eqD (ds.getD j .non) (es.getD j .non))&&its.toArray.size==its2.toArray.size)=l7 ds es:=by
 have lx:=hxs.length;have ly:=hys.length;have l1:=r.length;have l2:=r2.length
 simp only [List.size_toArray]
 by_cases hl:ds.length=es.length
 . rw [Kw hl];have:its.length=its2.length:=by lia
   rw [this,Nat.min_self,show its2.length=ds.length by lia];simp
 . rw [Kv hl];have:(its.length==its2.length)=false:=by simp;lia
   rw [this,Bool.and_false]
theorem wA (hxs:RDs X.K H ds xs) (hys:RDs X.K H es ys) (r:Vals xs its) (r2:Vals ys its2) (hl:ds.length=es.length) :
  ((List.range its.toArray.size).all fun j=>eqD (ds.getD j .non) (es.getD j .non))=l7 ds es:=by
 have lx:=hxs.length;have ly:=hys.length;have l1:=r.length;have l2:=r2.length
 rw [Kw hl,List.size_toArray,show its.length=ds.length by lia]
theorem Za (hu:A.units<cLine) (ih:Fw X H s A.in1 n) (hn:d.dep<=n+1) (sx:Shp X H s d x u) (sy:Shp X H s e y v):SeqAt.RcAt A s u v (eqD d e)/\SeqAt.RcNeAt A s u v (!eqD d e):=by
 cases sx with
 | non=>cases sy with
  | non=>exact ⟨.none_none,.none_none⟩
  | bl _=>exact ⟨.none_bool _,.none_bool _⟩
  | int _ _=>exact ⟨.none_int _ _,.none_int _ _⟩
  | str _ _=>exact ⟨.none_str _ _,.none_str _ _⟩
  | tup p2 h2 q2 r2 t2=>exact ⟨.none_tuple t2 hu,.none_tuple t2 hu⟩
  | lst p2 h2 q2 r2 t2=>exact ⟨.none_list t2 hu,.none_list t2 hu⟩
 | bl _=>cases sy with
  | non=>exact ⟨.bool_none _,.bool_none _⟩
  | bl _=>exact ⟨.bool_bool _ _,.bool_bool _ _⟩
  | int _ _=>exact ⟨.bool_int _ _ _,.bool_int _ _ _⟩
  | str _ _=>exact ⟨.bool_str _ _ _,.bool_str _ _ _⟩
  | tup p2 h2 q2 r2 t2=>exact ⟨.bool_tuple _ t2 hu,.bool_tuple _ t2 hu⟩
  | lst p2 h2 q2 r2 t2=>exact ⟨.bool_list _ t2 hu,.bool_list _ t2 hu⟩
 | int _ _=>cases sy with
  | non=>exact ⟨.int_none _ _,.int_none _ _⟩
  | bl _=>exact ⟨.int_bool _ _ _,.int_bool _ _ _⟩
  | int _ _=>exact ⟨.int_int _ _ _ _,.int_int _ _ _ _⟩
  | str _ _=>exact ⟨.int_str _ _ _ _,.int_str _ _ _ _⟩
  | tup p2 h2 q2 r2 t2=>exact ⟨.int_tuple _ _ t2 hu,.int_tuple _ _ t2 hu⟩
  | lst p2 h2 q2 r2 t2=>exact ⟨.int_list _ _ t2 hu,.int_list _ _ t2 hu⟩
 | str _ _=>cases sy with
  | non=>exact ⟨.str_none _ _,.str_none _ _⟩
  | bl _=>exact ⟨.str_bool _ _ _,.str_bool _ _ _⟩
  | int _ _=>exact ⟨.str_int _ _ _ _,.str_int _ _ _ _⟩
  | str _ _=>exact ⟨.str_str _ _ _ _,.str_str _ _ _ _⟩
  | tup p2 h2 q2 r2 t2=>exact ⟨.str_tuple _ _ t2 hu,.str_tuple _ _ t2 hu⟩
  | lst p2 h2 q2 r2 t2=>exact ⟨.str_list _ _ t2 hu,.str_list _ _ t2 hu⟩
 | tup p h q r t=>cases sy with
  | non=>exact ⟨.tuple_none t hu,.tuple_none t hu⟩
  | bl _=>exact ⟨.tuple_bool _ t hu,.tuple_bool _ t hu⟩
  | int _ _=>exact ⟨.tuple_int _ _ t hu,.tuple_int _ _ t hu⟩
  | str _ _=>exact ⟨.tuple_str _ _ t hu,.tuple_str _ _ t hu⟩
  | tup p2 h2 q2 r2 t2 => 
   simp only [D.dep] at hn
   have z:=Sy ih p p2 (Nat.le_of_succ_le_succ hn) q q2 r r2
   simp only [eqD]
   rw [<-wB q q2 r r2]
   exact ⟨.tuples t t2 hu z,.tuples t t2 hu z⟩
  | lst p2 h2 q2 r2 t2=>exact ⟨.tuple_list t t2 hu,.tuple_list t t2 hu⟩
 | lst p h q r t=>cases sy with
  | non=>exact ⟨.list_none t hu,.list_none t hu⟩
  | bl _=>exact ⟨.list_bool _ t hu,.list_bool _ t hu⟩
  | int _ _=>exact ⟨.list_int _ _ t hu,.list_int _ _ t hu⟩
  | str _ _=>exact ⟨.list_str _ _ t hu,.list_str _ _ t hu⟩
  | tup p2 h2 q2 r2 t2=>exact ⟨.list_tuple t t2 hu,.list_tuple t t2 hu⟩
  | lst p2 h2 q2 r2 t2 => 
   rename_i ds _ xs its es _ ys its2
   simp only [D.dep] at hn
   have z:=Sy ih p p2 (Nat.le_of_succ_le_succ hn) q q2 r r2
   have lx:=q.length;have ly:=q2.length;have l1:=r.length;have l2:=r2.length
   simp only [eqD]
   by_cases hl:ds.length=es.length
   . have hsz:its.toArray.size=its2.toArray.size:=by simp;lia
     rw [<-wA q q2 r r2 hl];exact ⟨.lists t t2 hsz hu z,.lists t t2 hsz hu z⟩
   . have hsz:(its.toArray.size != its2.toArray.size)=true:=by simp;lia
     rw [Kv hl];exact ⟨.lists_lengths t t2 hsz hu,.lists_lengths t t2 hsz hu⟩
theorem Z1 (I:Inv X pins σ H s):∀(n:Nat) {A:Around} {d e:D} {x y:V} {u v:Value},d.pl=true->e.pl=true->d.dep<=n->A.units+n<cLine->RD X.K H d x->RD X.K H e y->RelV x u->RelV y v->SeqAt.EqAt A s u v (eqD d e):=by
 have key:∀(n:Nat) {A:Around} {d e:D} {x y:V} {u v:Value},A.units<cLine->(∀m,m+1=n->Fw X H s A.in1 m)->d.pl=true->e.pl=true->d.dep<=n->RD X.K H d x->RD X.K H e y->RelV x u->RelV y v->SeqAt.EqAt A s u v (eqD d e):=by
  intro n A d e x y u v hu ih hpd hpe hn hx hy ru rv;have sx:=shp I hpd hx ru;have sy:=shp I hpe hy rv;have back:∀{a b:Addr},u=.ref a->v=.ref b->x=.ref a->y=.ref b->1<=d.dep->SeqAt.EqAt A s u v (eqD d e):=fun {a b} eu ev ex ey h1=>by
   subst eu ev ex ey;by_cases hab:a=b
   . subst hab;rw [RD.inj hpd hpe hx hy,Ky _ hpe];exact .same _
   . exact .of_refs hab (Za (n:=n - 1) hu (ih (n - 1) (by lia)) (by lia) sx sy).1
  cases sx with
  | non=>cases sy with
   | non=>exact .same _
   | bl _=>exact .none_bool _
   | int _ _=>exact .none_int _ _
   | str _ _=>exact .none_str _ _
   | tup p2 h2 q2 r2 t2=>exact .none_tuple t2 hu
   | lst p2 h2 q2 r2 t2=>exact .none_list t2 hu
  | bl _=>cases sy with
   | non=>exact .bool_none _
   | bl _=>exact .bool_bool _ _
   | int _ _=>exact .bool_int _ _ _
   | str _ _=>exact .bool_str _ _ _
   | tup p2 h2 q2 r2 t2=>exact .bool_tuple _ t2 hu
   | lst p2 h2 q2 r2 t2=>exact .bool_list _ t2 hu
  | int _ _=>cases sy with
   | non=>exact .int_none _ _
   | bl _=>exact .int_bool _ _ _
   | int _ _=>exact .int_int _ _ _ _
   | str _ _=>exact .int_str _ _ _ _
   | tup p2 h2 q2 r2 t2=>exact .int_tuple _ _ t2 hu
   | lst p2 h2 q2 r2 t2=>exact .int_list _ _ t2 hu
  | str _ _=>cases sy with
   | non=>exact .str_none _ _
   | bl _=>exact .str_bool _ _ _
   | int _ _=>exact .str_int _ _ _ _
   | str _ _=>exact .str_str _ _ _ _
   | tup p2 h2 q2 r2 t2=>exact .str_tuple _ _ t2 hu
   | lst p2 h2 q2 r2 t2=>exact .str_list _ _ t2 hu
  | tup p h q r t=>cases sy with
   | non=>exact .tuple_none t hu
   | bl _=>exact .tuple_bool _ t hu
   | int _ _=>exact .tuple_int _ _ t hu
   | str _ _=>exact .tuple_str _ _ t hu
   | tup p2 h2 q2 r2 t2=>exact back rfl rfl rfl rfl (by simp only [D.dep];exact Nat.succ_pos _)
   | lst p2 h2 q2 r2 t2=>exact .tuple_list t t2 hu
  | lst p h q r t=>cases sy with
   | non=>exact .list_none t hu
   | bl _=>exact .list_bool _ t hu
   | int _ _=>exact .list_int _ _ t hu
   | str _ _=>exact .list_str _ _ t hu
   | tup p2 h2 q2 r2 t2=>exact .list_tuple t t2 hu
   | lst p2 h2 q2 r2 t2=>exact back rfl rfl rfl rfl (by simp only [D.dep];exact Nat.succ_pos _)
 intro n;induction n with
 | zero=>exact fun p q hn hu=>key 0 (by lia) (fun m z=>nomatch z) p q hn
 | succ n ih=>exact fun {A d e x y u v} p q hn hu=>key (n+1) (by lia) (fun m z=>by cases z;exact fun p q hn=>ih p q hn (by show A.units+1+n<cLine;lia)) p q hn
theorem Qm (I:Inv X pins σ H s) (hpd:d.pl=true) (hpe:e.pl=true) (hn:d.dep<=n) (hu:A.units+1+n<cLine) (hx:RD X.K H d x) (hy:RD X.K H e y) (ru:RelV x u) (rv:RelV y v):SeqAt.RcAt A s u v (eqD d e)/\SeqAt.RcNeAt A s u v (!eqD d e):=
 Za (n:=n) (by lia) (fun p q h=>Z1 I n p q h (by show A.units+1+n<cLine;lia)) (by lia) (shp I hpd hx ru) (shp I hpe hy rv)
end
section
variable {X:Cx}
open Classical in
def hitD (K:Frag) (H:Hp) (d:D) (u:Value):Bool:=match Zp u with
 | some v=>decide (∃e,e.pl=true/\RD K H e v/\eqD e d=true)
 | none=>false
open Classical in
theorem Sx {K:Frag} {H:Hp} {d e:D} {y:V} {u:Value} (pe:e.pl=true) (r:RelV y u) (h:RD K H e y):hitD K H d u=eqD e d:=by unfold hitD;rw [r.abs];dsimp only;rw [Bool.eq_iff_iff];rw [decide_eq_true_iff];exact ⟨fun ⟨e',p',h',q⟩=>by rw [RD.inj pe p' h h'];exact q,fun q=>⟨e,pe,h,q⟩⟩
theorem Ak {K:Frag} {H:Hp} {d:D}:∀{es:List D} {xs:List V} {us:List Value},pls es=true->RDs K H es xs->Vals xs us->us.any (hitD K H d)=es.any fun e=>eqD e d
 | [],_,_,_,h,r=>by simp only [RDs] at h;subst h;cases r;rfl
 | e::es,_,_,p,h,r=>by
  simp only [RDs] at h;simp only [pls,Bool.and_eq_true] at p;obtain ⟨x,xs,rfl,h1,h2⟩:=h;cases r with
  | cons r1 r2=>rw [List.any_cons,List.any_cons,Sx p.1 r1 h1,Ak p.2 h2 r2]
theorem Ag {A:Around} {pins:List (Addr×Obj)} {σ:St} {H:Hp} {s:Shared} (I:Inv X pins σ H s) (hu:A.units+1+20<cLine) {d:D} {x:V} {v:Value} (pd:d.pl=true) (hx:RD X.K H d x) (rx:RelV x v):∀{es:List D} {xs:List V} {us:List Value},
  pls es=true->RDs X.K H es xs->Vals xs us->h7 es<=20->∀u∈us,SeqAt.EqAt A.in1 s u v (hitD X.K H d u)
 | [],_,_,_,h,r,_=>by simp only [RDs] at h;subst h;cases r;intro u hu;cases hu
 | e::es,_,_,p,h,r,hd=>by
  simp only [RDs] at h;simp only [pls,Bool.and_eq_true] at p;obtain ⟨y,xs,rfl,h1,h2⟩:=h;simp only [h7] at hd;cases r with
  | cons r1 r2=>
   intro u hm
   rcases List.mem_cons.mp hm with z | hm
   . subst z;rw [Sx p.1 r1 h1];exact Z1 I 20 p.1 pd (by lia) (by show A.units+1+20<cLine;lia) h1 hx r1 rx
   . exact Ag I hu pd hx rx p.2 h2 r2 (by lia) u hm
end
structure Ex where
 cls:String
 fs:List D
inductive R (α:Type) where
 | ok (a:α) | er (x:Ex) | st
noncomputable def R.bind {α β:Type} (r:R α) (f:α->R β):R β:=match r with
 | .ok a=>f a
 | .er x=>.er x
 | .st=>.st
def Rk {α:Type} (EX:Ex->Prop) (r:R α) (k:α->Prop):Prop:=match r with
 | .ok a=>k a
 | .er x=>EX x
 | .st=>False
section
variable {α β:Type} {EX:Ex->Prop}
noncomputable def R.of (o:Option α):R α:=match o with
 | some a=>.ok a
 | none=>.st
theorem R.of_some (a:α):R.of (some a)=R.ok a:=rfl
theorem Rk.of (h:Rk EX (R.of o) k):∃a,o=some a/\k a:=by
 cases o with
 | none=>exact h.elim
 | some a=>exact ⟨a,rfl,h⟩
theorem R.bind_ok (a:α) (f:α->R β):(R.ok a).bind f=f a:=rfl
theorem Rk.bind:Rk EX (r.bind f) k=Rk EX r fun a=>Rk EX (f a) k:=by cases r<;>rfl
theorem Rk.mono (h:Rk EX r k) (hk:∀a,k a->k' a):Rk EX r k':=by
 cases r with
 | ok a=>exact hk a h
 | er x=>exact h
 | st=>exact h
end
def Ext (H0 H H0' H':Hp):Prop:=Same H0 H0'/\Same H0' H'/\∀a,H a≠none->H0 a=none->H0' a=none
theorem Ext.refl (h:Same H0 H):Ext H0 H H0 H:=⟨Same.refl _,h,fun _ _ e=>e⟩
theorem Af (h:o=some x):o≠none:=by rw [h];exact fun z=>nomatch z
theorem Same.ne (h:Same H H') (n:H a≠none):H' a≠none:=by
 cases e:H a with
 | none=>exact absurd e n
 | some o=>exact Af (h a o e)
theorem Ext.trans (s:Same H H') (a:Ext H0 H H0' H') (b:Ext H0' H' H0'' H''):Ext H0 H H0'' H'':=
 ⟨a.1.trans b.1,b.2.1,fun c h1 h2=>b.2.2 c (s.ne h1) (a.2.2 c h1 h2)⟩
theorem Ext.grow (a:Ext H0 H H0' H') (s:Same H' H''):Ext H0 H H0' H'':=⟨a.1,a.2.1.trans s,a.2.2⟩
theorem Ext.new (h:Same H0 H) (hp:H p=none):Ext H0 H (upd H0 p o) (upd H p o):=by
 have h0:H0 p=none:=by
  cases e:H0 p with
  | none=>rfl
  | some u=>rw [h p u e] at hp;cases hp
 refine ⟨Same.upd_new h0,fun b u e=>?_,fun a h1 h2=>?_⟩
 . by_cases hb:b=p
   . subst hb;rw [i9] at e ⊢;exact e
   . rw [d7 hb] at e ⊢;exact h b u e
 . have ha:a≠p:=fun z=>h1 (by rw [z];exact hp)
   rw [d7 ha];exact h2
def OB (K:Frag) (H0 H:Hp) (a:Addr):D->Prop
 | .lst ds=>∃xs,H a=some (.lst xs)/\RDs K H0 ds xs
 | .dk ks ds=>∃xs,H a=some (.dK (ks.zip xs))/\ks.length=xs.length/\RDs K H0 ds xs
 | .dt ks ds=>∃xs,H a=some (.dT (ks.zip xs))/\ks.length=xs.length/\RDs K H0 ds xs
 | .dn ks ds=>∃qs xs o,H a=some (.ext (dnP a qs xs o))/\qs.map (·.1)=ks/\DN H0 a qs/\RDs K H0 ds xs
 | _=>False
section
variable {K:Frag} {H0 H H0' H':Hp} {a:Addr} {d:D}
theorem OB.some (h:OB K H0 H a d):∃o,H a=some o/\¬Imm o:=by
 cases d<;>simp only [OB] at h
 . obtain ⟨xs,h,_⟩:=h;exact ⟨_,h,fun z=>z⟩
 . obtain ⟨xs,h,_⟩:=h;exact ⟨_,h,fun z=>z⟩
 . obtain ⟨xs,h,_⟩:=h;exact ⟨_,h,fun z=>z⟩
 . obtain ⟨qs,xs,o,h,_⟩:=h;exact ⟨_,h,fun z=>z _ _ _ _ rfl⟩
theorem OB.mono (h:OB K H0 H a d) (s0:Same H0 H0') (s:Same H H'):OB K H0' H' a d:=by
 cases d<;>simp only [OB] at h ⊢
 . obtain ⟨xs,h,r⟩:=h;exact ⟨_,s _ _ h,r.mono s0⟩
 . obtain ⟨xs,h,l,r⟩:=h;exact ⟨_,s _ _ h,l,r.mono s0⟩
 . obtain ⟨xs,h,l,r⟩:=h;exact ⟨_,s _ _ h,l,r.mono s0⟩
 . obtain ⟨qs,xs,o,h,k,n,r⟩:=h;exact ⟨qs,xs,o,s _ _ h,k,n.tk fun b ys q=>s0 _ _ q,r.mono s0⟩
theorem OB.at (h:OB K H0 H a d) (e:H' a=H a):OB K H0 H' a d:=by
 cases d<;>simp only [OB] at h ⊢
 . obtain ⟨xs,h,r⟩:=h;exact ⟨_,e.trans h,r⟩
 . obtain ⟨xs,h,l,r⟩:=h;exact ⟨_,e.trans h,l,r⟩
 . obtain ⟨xs,h,l,r⟩:=h;exact ⟨_,e.trans h,l,r⟩
 . obtain ⟨qs,xs,o,h,k,n,r⟩:=h;exact ⟨qs,xs,o,e.trans h,k,n,r⟩
theorem OB.tk (h:OB K H0 H a d) (n:d.shal=true) (t:TK H0 H0'):OB K H0' H a d:=by
 cases d<;>simp only [OB,D.shal] at h n ⊢
 . obtain ⟨xs,h,r⟩:=h;exact ⟨_,h,r.tk t n⟩
 . obtain ⟨xs,h,l,r⟩:=h;exact ⟨_,h,l,r.tk t n⟩
 . obtain ⟨xs,h,l,r⟩:=h;exact ⟨_,h,l,r.tk t n⟩
 . obtain ⟨qs,xs,o,h,k,m,r⟩:=h;exact ⟨qs,xs,o,h,k,m.tk fun b ys q=>t _ _ trivial q,r.tk t n⟩
theorem OB.rd (h:OB K H0 H a d) (s0:Same H0 H0') (e:H0' a=H a):RD K H0' d (.ref a):=by
 cases d<;>simp only [OB,RD] at h ⊢
 . obtain ⟨xs,h,r⟩:=h;exact ⟨_,_,rfl,e.trans h,r.mono s0⟩
 . obtain ⟨xs,h,l,r⟩:=h;exact ⟨_,_,rfl,e.trans h,l,r.mono s0⟩
 . obtain ⟨xs,h,l,r⟩:=h;exact ⟨_,_,rfl,e.trans h,l,r.mono s0⟩
 . obtain ⟨qs,xs,o,h,k,n,r⟩:=h;exact ⟨_,qs,xs,o,rfl,e.trans h,k,n.tk fun b ys q=>s0 _ _ q,r.mono s0⟩
end
def Out (K:Frag) (fr:Bool) (H0 H:Hp) (d:D) (v:V) (H':Hp):Prop:=
 Same H H'/\∃H0',Ext H0 H H0' H'/\(if fr=true then ∃p,v=.ref p/\H p=none/\H0' p=none/\OB K H0' H' p d else RD K H0' d v)
section
variable {K:Frag} {fr:Bool} {H0 H H0' H':Hp} {d:D} {v:V}
theorem Out.val (s:Same H H') (e:Ext H0 H H0' H') (r:RD K H0' d v):Out K false H0 H d v H':=⟨s,H0',e,by rw [ψ η];exact r⟩
theorem Out.pure (s:Same H0 H) (r:RD K H0 d v):Out K false H0 H d v H:=.val (Same.refl _) (.refl s) r
theorem Out.fresh (s:Same H H') (e:Ext H0 H H0' H') (hp:H p=none) (hp0:H0' p=none) (o:OB K H0' H' p d):Out K true H0 H d (.ref p) H':=⟨s,H0',e,by rw [ξ rfl];exact ⟨p,rfl,hp,hp0,o⟩⟩
theorem Out.rd (o:Out K false H0 H d v H'):Same H H'/\∃H0',Ext H0 H H0' H'/\RD K H0' d v:=by obtain ⟨s,H0',e,r⟩:=o;rw [ψ η] at r;exact ⟨s,H0',e,r⟩
theorem Out.weak (o:Out K fr H0 H d v H'):Out K false H0 H d v H':=by
 cases fr with
 | false=>exact o
 | true=>
  obtain ⟨s,H0',e,r⟩:=o
  rw [ξ rfl] at r
  obtain ⟨p,rfl,hp,hp0,ob⟩:=r
  obtain ⟨u,hu,_⟩:=ob.some
  have e2:Ext H0 H (upd H0' p u) H':=by
   refine ⟨e.1.trans (Same.upd_new hp0),fun b w q=>?_,fun a h1 h2=>?_⟩
   . by_cases hb:b=p
     . subst hb;rw [i9] at q;cases q;exact hu
     . rw [d7 hb] at q;exact e.2.1 b w q
   . rw [d7 (fun z=>h1 (by rw [z];exact hp))];exact e.2.2 a h1 h2
  exact .val s e2 (ob.rd (Same.upd_new hp0) (by rw [i9,hu]))
theorem Out.after (s:Same H H1) (e:Ext H0 H H1' H1) (o:Out K fr H1' H1 d v H'):Out K fr H0 H d v H':=by
 obtain ⟨s',H0',e',r⟩:=o;refine ⟨s.trans s',H0',e.trans s e',?_⟩;cases fr with
 | false=>exact r
 | true=>
  rw [ξ rfl] at r ⊢
  obtain ⟨p,rfl,hp,r⟩:=r
  refine ⟨p,rfl,?_,r⟩
  cases q:H p with
  | none=>rfl
  | some u=>rw [s p u q] at hp;cases hp
end
abbrev DE:=List (Option D)
def RE (K:Frag) (H:Hp) (ρ:DE) (σ:St):Prop:=ρ.length=σ.length/\∀(i:Nat) d,ρ[i]?=some (some d)->∃v,σ[i]?=some (some v)/\RD K H d v
theorem RE.mono {K:Frag} {H H':Hp} {ρ:DE} {σ:St} (h:RE K H ρ σ) (s:Same H H'):RE K H' ρ σ:=⟨h.1,fun i d e=>by obtain ⟨v,h1,h2⟩:=h.2 i d e;exact ⟨v,h1,h2.mono s⟩⟩
structure XW where
 hb:Hp
 p:Ex->Hp->Prop
abbrev F0:XW:=⟨fun _=>none,fun _ _=>False⟩
theorem F0.same (H:Hp):Same F0.hb H:=fun _ _ z=>nomatch z
def XW.at (W:XW) (x:Ex):Prop:=∀H',Same W.hb H'->W.p x H'
noncomputable def TEd (K:Frag) (EX:XW) (fr:Bool) (f:DE->R D):TE:=fun σ H Q=>Same EX.hb H/\∃ρ H0,Same H0 H/\RE K H0 ρ σ/\Rk EX.at (f ρ) fun d=>∀v H',Out K fr H0 H d v H'->Q v H'
noncomputable def TAd (K:Frag) (EX:XW) (f:DE->R (List D)):TA:=fun σ H Q=>Same EX.hb H/\∃ρ H0,Same H0 H/\RE K H0 ρ σ/\Rk EX.at (f ρ) fun ds=>∀vs H' H0',Same H H'->Ext H0 H H0' H'->RDs K H0' ds vs->Q vs H'
noncomputable def TTd (K:Frag) (EX:XW) (f:DE->R Bool):TT:=fun σ H Q=>Same EX.hb H/\∃ρ H0,Same H0 H/\RE K H0 ρ σ/\Rk EX.at (f ρ) fun b=>∀H',Same H H'->Q b H'
noncomputable def a7 (i:Nat):DE->R D:=fun ρ=>match ρ[i]? with | some (some d)=>.ok d | _=>.st
noncomputable def eC (d:D):DE->R D:=fun _=>.ok d
def eOp (o:D->D->Option D) (fa fb:DE->R D):DE->R D:=fun ρ=>(fa ρ).bind fun x=>(fb ρ).bind fun y=>R.of (o x y)
def eUn (o:D->Option D) (fa:DE->R D):DE->R D:=fun ρ=>(fa ρ).bind fun x=>R.of (o x)
noncomputable def b8:DE->R (List D):=fun _=>.ok []
def a8 (f:DE->R D) (fs:DE->R (List D)):DE->R (List D):=fun ρ=>(f ρ).bind fun d=>(fs ρ).bind fun ds=>.ok (d::ds)
def e8 (m:List D->R D) (fs:DE->R (List D)):DE->R D:=fun ρ=>(fs ρ).bind m
def eCB (m:List D->Option D) (fs:DE->R (List D)):DE->R D:=fun ρ=>(fs ρ).bind fun ds=>R.of (m ds)
def v8 (fs:DE->R (List D)):DE->R D:=fun ρ=>(fs ρ).bind fun ds=>if ds.length<=1000 then .ok (.tup ds) else .st
def o8 (fs:DE->R (List D)):DE->R D:=fun ρ=>(fs ρ).bind fun ds=>if ds.length<=1000 then .ok (.lst ds) else .st
def L5 (t u:DE->R Bool):DE->R Bool:=fun ρ=>(t ρ).bind fun b=>if b=true then u ρ else .ok false
def bOr (t u:DE->R Bool):DE->R Bool:=fun ρ=>(t ρ).bind fun b=>if b=true then .ok true else u ρ
def o7 (t:DE->R Bool):DE->R Bool:=fun ρ=>(t ρ).bind fun b=>.ok (!b)
noncomputable def asB:D->Option Bool
 | .bl b=>some b
 | _=>none
def c9 (tr:D->Option Bool) (f:DE->R D):DE->R Bool:=fun ρ=>(f ρ).bind fun d=>R.of (tr d)
def m7 (fa fb:DE->R D):DE->R D:=fun ρ=>(fa ρ).bind fun x=>(R.of (asB x)).bind fun b=>if b=true then fb ρ else .ok (.bl false)
def eOr (fa fb:DE->R D):DE->R D:=fun ρ=>(fa ρ).bind fun x=>(R.of (asB x)).bind fun b=>if b=true then .ok (.bl true) else fb ρ
def OpD (K:Frag) (fr:Bool) (o:D->D->Option D) (r:R2):Prop:=∀(H0 H:Hp) (x y:V) (d e z:D) (Q:VK),Same H0 H->RD K H0 d x->RD K H0 e y->o d e=some z->(∀v H',Out K fr H0 H z v H'->Q v H')->r x y H Q
def UnD (K:Frag) (fr:Bool) (o:D->Option D) (r:V->Hp->VK->Prop):Prop:=∀(H0 H:Hp) (x:V) (d z:D) (Q:VK),Same H0 H->RD K H0 d x->o d=some z->(∀v H',Out K fr H0 H z v H'->Q v H')->r x H Q
def E2 (K:Frag) (fr:Bool) (m:List D->Option D) (r:List V->Hp->VK->Prop):Prop:=∀(H0 H:Hp) (xs:List V) (ds:List D) (z:D) (Q:VK),Same H0 H->RDs K H0 ds xs->m ds=some z->(∀v H',Out K fr H0 H z v H'->Q v H')->r xs H Q
def Fv (K:Frag) (tr:D->Option Bool) (r:V->Hp->(Bool->Hp->Prop)->Prop):Prop:=∀(H0 H:Hp) (x:V) (d:D) (b:Bool) (Q:Bool->Hp->Prop),Same H0 H->RD K H0 d x->tr d=some b->Q b H->r x H Q
section
variable {K:Frag} {EX:XW} {fr:Bool} {σ:St} {H:Hp} {Q:VK}
theorem TEd.go (sx:Same EX.hb H) (s:Same H0 H) (e:RE K H0 ρ σ) (h:Rk EX.at (f ρ) k) (hk:∀d,k d->∀v H' H0',Same H H'->Ext H0 H H0' H'->RD K H0' d v->Q v H'):TEd K EX false f σ H Q:=
 ⟨sx,ρ,H0,s,e,h.mono fun d z v H' o=>by obtain ⟨s',H0',e',r⟩:=o.rd;exact hk d z v H' H0' s' e' r⟩
theorem TAd.go {f:DE->R (List D)} {ρ:DE} {H0:Hp} {k:List D->Prop} {Q:List V->Hp->Prop} (sx:Same EX.hb H) (s:Same H0 H) (e:RE K H0 ρ σ) (h:Rk EX.at (f ρ) k) (hk:∀d,k d->∀v H' H0',Same H H'->Ext H0 H H0' H'->RDs K H0' d v->Q v H'):TAd K EX f σ H Q:=
 ⟨sx,ρ,H0,s,e,h.mono fun d z v H' H0' s' e' r=>hk d z v H' H0' s' e' r⟩
theorem TTd.go {f:DE->R Bool} {ρ:DE} {H0:Hp} {k:Bool->Prop} {Q:Bool->Hp->Prop} (sx:Same EX.hb H) (s:Same H0 H) (e:RE K H0 ρ σ) (h:Rk EX.at (f ρ) k) (hk:∀b,k b->∀H',Same H H'->Q b H'):TTd K EX f σ H Q:=
 ⟨sx,ρ,H0,s,e,h.mono fun b z H' s'=>hk b z H' s'⟩
theorem TEd.weak (h:TEd K EX false f σ H Q):TEd K EX fr f σ H Q:=by obtain ⟨sx,ρ,H0,s,e,h⟩:=h;exact ⟨sx,ρ,H0,s,e,h.mono fun d z v H' o=>z v H' o.weak⟩
theorem jB (h:TEd K EX false (a7 i) σ H Q):∃v,σ[i]?=some (some v)/\Q v H:=by
 obtain ⟨sx,ρ,H0,s,e,h⟩:=h;unfold a7 at h;split at h
 . rename_i d q;obtain ⟨v,h1,h2⟩:=e.2 i d q;exact ⟨v,h1,h v H (.pure s h2)⟩
 . exact h.elim
theorem Dn (hd:∀H0,RD K H0 d v) (h:TEd K EX false (eC d) σ H Q):tC v σ H Q:=by obtain ⟨sx,ρ,H0,s,e,h⟩:=h;exact h v H (.pure s (hd _))
theorem Bw (ho:OpD K fr o r) (h:TEd K EX fr (eOp o fa fb) σ H Q):tOp r (TEd K EX false fa) (TEd K EX false fb) σ H Q:=by
 obtain ⟨sx,ρ,H0,s,e,h⟩:=h;unfold eOp at h;rw [Rk.bind] at h;refine TEd.go sx s e h fun d h v H1 H1' s1 e1 r1=>?_
 rw [Rk.bind] at h;refine TEd.go (sx.trans s1) e1.2.1 (e.mono e1.1) h fun d2 h v2 H2 H2' s2 e2 r2=>?_
 obtain ⟨z,hz,h⟩:=h.of;exact ho H2' H2 v v2 d d2 z Q e2.2.1 (r1.mono e2.1) r2 hz fun w H3 o=>h w H3 (o.after (s1.trans s2) (e1.trans s1 e2))
theorem y26 (ho:UnD K fr o r) (h:TEd K EX fr (eUn o fa) σ H Q):tUn r (TEd K EX false fa) σ H Q:=by
 obtain ⟨sx,ρ,H0,s,e,h⟩:=h;unfold eUn at h;rw [Rk.bind] at h;refine TEd.go sx s e h fun d h v H1 H1' s1 e1 r1=>?_
 obtain ⟨z,hz,h⟩:=h.of;exact ho H1' H1 v d z Q e1.2.1 r1 hz fun w H3 o=>h w H3 (o.after s1 e1)
theorem Og {Q:List V->Hp->Prop} (h:TAd K EX b8 σ H Q):R9 σ H Q:=by obtain ⟨sx,ρ,H0,s,e,h⟩:=h;exact h [] H H0 (Same.refl _) (.refl s) .nil
theorem Hx {Q:List V->Hp->Prop} {f:DE->R D} {fs:DE->R (List D)} (h:TAd K EX (a8 f fs) σ H Q):D3 (TEd K EX false f) (TAd K EX fs) σ H Q:=by
 obtain ⟨sx,ρ,H0,s,e,h⟩:=h;unfold a8 at h;rw [Rk.bind] at h;refine TEd.go sx s e h fun d h v H1 H1' s1 e1 r1=>?_
 rw [Rk.bind] at h;refine TAd.go (sx.trans s1) e1.2.1 (e.mono e1.1) h fun ds h vs H2 H2' s2 e2 r2=>?_
 exact h (v::vs) H2 H2' (s1.trans s2) (e1.trans s1 e2) (.cons (r1.mono e2.1) r2)
theorem Fu (hm:E2 K fr m r) (h:TEd K EX fr (eCB m fs) σ H Q):tCB r (TAd K EX fs) σ H Q:=by
 obtain ⟨sx,ρ,H0,s,e,h⟩:=h;unfold eCB at h;rw [Rk.bind] at h;refine TAd.go sx s e h fun ds h vs H1 H1' s1 e1 r1=>?_
 obtain ⟨z,hz,h⟩:=h.of;exact hm H1' H1 vs ds z Q e1.2.1 r1 hz fun w H3 o=>h w H3 (o.after s1 e1)
theorem Kb (h:n<=1000):n<=sizeLine:=Nat.le_trans h (by decide)
theorem jA (h:TEd K EX false (v8 fs) σ H Q):Zl (TAd K EX fs) σ H Q:=by
 obtain ⟨sx,ρ,H0,s,e,h⟩:=h;unfold v8 at h;rw [Rk.bind] at h;refine TAd.go sx s e h fun ds h vs H1 H1' s1 e1 r1=>?_
 split at h
 . rename_i hl;refine ⟨Kb (by rw [<-r1.length];exact hl),fun p hp=>h _ _ (.val (s1.trans (Same.upd_new hp)) (e1.trans s1 (.new e1.2.1 hp)) ?_)⟩;have h1p:H1' p=none:=by
    cases q:H1' p with
    | none=>rfl
    | some u=>rw [e1.2.1 p u q] at hp;cases hp
   simp only [RD];exact ⟨p,vs,rfl,i9,r1.mono (Same.upd_new h1p)⟩
 . exact h.elim
theorem Same.none (s:Same H H') (h:H' p=none):H p=none:=by
 cases q:H p with
 | none=>rfl
 | some u=>rw [s p u q] at h;cases h
theorem Out.new (s:Same H0 H) (hp:H p=none) (hob:∀H',H' p=some o->OB K H0 H' p d):Out K true H0 H d (.ref p) (upd H p o):=
 .fresh (Same.upd_new hp) ((Ext.refl s).grow (Same.upd_new hp)) hp (s.none hp) (hob _ i9)
theorem jz (h:TEd K EX true (o8 fs) σ H Q):Zk (TAd K EX fs) σ H Q:=by
 obtain ⟨sx,ρ,H0,s,e,h⟩:=h;unfold o8 at h;rw [Rk.bind] at h;refine TAd.go sx s e h fun ds h vs H1 H1' s1 e1 r1=>?_
 split at h
 . rename_i hl;refine ⟨Kb (by rw [<-r1.length];exact hl),fun p hp=>h _ _ (Out.after s1 e1 (.new e1.2.1 hp fun H' hH=>?_))⟩;simp only [OB];exact ⟨vs,hH,r1⟩
 . exact h.elim
theorem qO {t u:DE->R Bool} {Q:Bool->Hp->Prop} (h:TTd K EX (L5 t u) σ H Q):Zr (TTd K EX t) (TTd K EX u) σ H Q:=by
 obtain ⟨sx,ρ,H0,s,e,h⟩:=h;unfold L5 at h;rw [Rk.bind] at h;refine TTd.go sx s e h fun b h H1 s1=>?_
 cases b with
 | true=>exact TTd.go (sx.trans s1) (s.trans s1) e h fun b h H' s'=>h H' (s1.trans s')
 | false=>exact h H1 s1
theorem jy {t u:DE->R Bool} {Q:Bool->Hp->Prop} (h:TTd K EX (bOr t u) σ H Q):tOr (TTd K EX t) (TTd K EX u) σ H Q:=by
 obtain ⟨sx,ρ,H0,s,e,h⟩:=h;unfold bOr at h;rw [Rk.bind] at h;refine TTd.go sx s e h fun b h H1 s1=>?_
 cases b with
 | true=>exact h H1 s1
 | false=>exact TTd.go (sx.trans s1) (s.trans s1) e h fun b h H' s'=>h H' (s1.trans s')
theorem qN {t:DE->R Bool} {Q:Bool->Hp->Prop} (h:TTd K EX (o7 t) σ H Q):Zq (TTd K EX t) σ H Q:=by obtain ⟨sx,ρ,H0,s,e,h⟩:=h;unfold o7 at h;rw [Rk.bind] at h;exact TTd.go sx s e h fun b h H1 s1=>h H1 s1
end
noncomputable def y27 (r:V->Hp->(Bool->Hp->Prop)->Prop) (t:TE):TT:=fun σ H Q=>t σ H fun x H'=>r x H' Q
noncomputable def Y1 (K:Frag) (EX:XW) (g:D->DE->R Bool):V->TT:=fun x σ H Q=>Same EX.hb H/\∃d ρ H0,Same H0 H/\RE K H0 ρ σ/\RD K H0 d x/\Rk EX.at (g d ρ) fun b=>∀H',Same H H'->Q b H'
def Z6 (o:D->D->Option D) (fb:DE->R D):D->DE->R Bool:=fun d ρ=>(fb ρ).bind fun y=>(R.of (o d y)).bind fun z=>R.of (asB z)
def U7 (o:D->D->Option D) (fb:DE->R D) (g:D->DE->R Bool):D->DE->R Bool:=fun d ρ=>(fb ρ).bind fun y=>(R.of (o d y)).bind fun z=>(R.of (asB z)).bind fun b=>if b=true then g y ρ else .ok false
def X2 (fa:DE->R D) (g:D->DE->R Bool):DE->R Bool:=fun ρ=>(fa ρ).bind fun x=>g x ρ
theorem Aj (h:asB d=some b):d=.bl b:=by cases d<;>simp [asB] at h;subst h;rfl
theorem RD.bl {K:Frag} {H:Hp} {b:Bool} {v:V} (h:RD K H (.bl b) v):v=.bl b:=by simpa only [RD] using h
section
variable {K:Frag} {EX:XW} {σ:St} {H:Hp} {Q:VK} {QB:Bool->Hp->Prop}
theorem jx (h:TEd K EX false (m7 fa fb) σ H Q):Om (TEd K EX false fa) (TEd K EX false fb) σ H Q:=by
 obtain ⟨sx,ρ,H0,s,e,h⟩:=h;unfold m7 at h;rw [Rk.bind] at h;refine TEd.go sx s e h fun d h v H1 H1' s1 e1 r1=>?_
 rw [Rk.bind] at h;obtain ⟨b,hb,h⟩:=h.of;cases Aj hb;cases r1.bl;cases b with
 | true=>exact TEd.go (sx.trans s1) e1.2.1 (e.mono e1.1) h fun d h v H2 H2' s2 e2 r2=>h v H2 (.val (s1.trans s2) (e1.trans s1 e2) r2)
 | false=>exact h _ H1 (.val s1 e1 (by simp only [RD]))
theorem y28 (h:TEd K EX false (eOr fa fb) σ H Q):Zd (TEd K EX false fa) (TEd K EX false fb) σ H Q:=by
 obtain ⟨sx,ρ,H0,s,e,h⟩:=h;unfold eOr at h;rw [Rk.bind] at h;refine TEd.go sx s e h fun d h v H1 H1' s1 e1 r1=>?_
 rw [Rk.bind] at h;obtain ⟨b,hb,h⟩:=h.of;cases Aj hb;cases r1.bl;cases b with
 | true=>exact h _ H1 (.val s1 e1 (by simp only [RD]))
 | false=>exact TEd.go (sx.trans s1) e1.2.1 (e.mono e1.1) h fun d h v H2 H2' s2 e2 r2=>h v H2 (.val (s1.trans s2) (e1.trans s1 e2) r2)
theorem jw (ht:Fv K tr r) (h:TTd K EX (c9 tr fa) σ H QB):y27 r (TEd K EX false fa) σ H QB:=by
 obtain ⟨sx,ρ,H0,s,e,h⟩:=h;unfold c9 at h;rw [Rk.bind] at h;refine TEd.go sx s e h fun d h v H1 H1' s1 e1 r1=>?_
 obtain ⟨b,hb,h⟩:=h.of;exact ht H1' H1 v d b QB e1.2.1 r1 hb (h H1 s1)
theorem qM (ht:Fv K tr r) (h:TEd K EX false (eUn (fun d=>(tr d).map fun b=>.bl (!b)) fa) σ H Q) :
  (fun σ H Q=>(TEd K EX false fa) σ H fun x H1=>r x H1 fun k H2=>Q (.bl (!k)) H2) σ H Q:=by
 obtain ⟨sx,ρ,H0,s,e,h⟩:=h
 unfold eUn at h
 rw [Rk.bind] at h
 refine TEd.go sx s e h fun d h v H1 H1' s1 e1 r1=>?_
 obtain ⟨z,hz,h⟩:=h.of
 have hz:(tr d).map (fun b=>D.bl (!b))=some z:=hz
 cases hb:tr d with
 | none=>rw [hb] at hz;cases hz
 | some b=>
  rw [hb] at hz;cases hz
  exact ht H1' H1 v d b _ e1.2.1 r1 hb (h _ H1 (.val s1 e1 (by simp only [RD])))
theorem jv (ho:OpD K false o r) (h:TTd K EX (c9 asB (eOp o fa fb)) σ H QB):Gx (tOp r (TEd K EX false fa) (TEd K EX false fb)) σ H QB:=by obtain ⟨sx,ρ,H0,s,e,h⟩:=h;unfold c9 at h;rw [Rk.bind] at h;unfold Gx;refine Bw (EX:=EX) ho ⟨sx,ρ,H0,s,e,h.mono fun d h v H' o=>?_⟩;obtain ⟨b,hb,h⟩:=h.of;obtain ⟨s',H0',e',r'⟩:=o.rd;cases Aj hb;cases r'.bl;exact h H' s'
theorem wz (ho:OpD K false o r) (h:Y1 K EX (Z6 o fb) x σ H QB):Qq r (TEd K EX false fb) x σ H QB:=by
 obtain ⟨sx,d,ρ,H0,s,e,rx,h⟩:=h;unfold Z6 at h;rw [Rk.bind] at h;refine TEd.go sx s e h fun d2 h v2 H2 H2' s2 e2 r2=>?_
 rw [Rk.bind] at h;obtain ⟨z,hz,h⟩:=h.of;obtain ⟨b,hb,h⟩:=h.of;cases Aj hb;refine ho H2' H2 x v2 d d2 _ _ e2.2.1 (rx.mono e2.1) r2 hz fun w H3 o=>?_
 obtain ⟨s3,H3',e3,r3⟩:=o.rd;cases r3.bl;exact h H3 (s2.trans s3)
theorem wy (ho:OpD K false o r) (h:Y1 K EX (U7 o fb g) x σ H QB):Qp r (TEd K EX false fb) (Y1 K EX g) x σ H QB:=by
 obtain ⟨sx,d,ρ,H0,s,e,rx,h⟩:=h;unfold U7 at h;rw [Rk.bind] at h;refine TEd.go sx s e h fun d2 h v2 H2 H2' s2 e2 r2=>?_
 rw [Rk.bind] at h;obtain ⟨z,hz,h⟩:=h.of;rw [Rk.bind] at h;obtain ⟨b,hb,h9⟩:=h.of;cases Aj hb;refine ho H2' H2 x v2 d d2 _ _ e2.2.1 (rx.mono e2.1) r2 hz fun w H3 o=>?_
 obtain ⟨s3,H3',e3,r3⟩:=o.rd;cases r3.bl;clear h;have h:=h9;cases b with
 | true=>exact ⟨(sx.trans s2).trans s3,d2,ρ,H3',e3.2.1,e.mono (e2.1.trans e3.1),r2.mono e3.1,h.mono fun z h H' s'=>h H' (s2.trans (s3.trans s'))⟩
 | false=>exact h H3 (s2.trans s3)
theorem qK (h:TTd K EX (X2 fa g) σ H QB):On (TEd K EX false fa) (Y1 K EX g) σ H QB:=by obtain ⟨sx,ρ,H0,s,e,h⟩:=h;unfold X2 at h;rw [Rk.bind] at h;exact TEd.go sx s e h fun d h v H1 H1' s1 e1 r1=>⟨sx.trans s1,d,ρ,H1',e1.2.1,e.mono e1.1,r1,h.mono fun z h H' s'=>h H' (s1.trans s')⟩
end
inductive Sl where
 | em | im (d:D) | ow (d:D)
abbrev DS:=List Sl
noncomputable def Sl.see (b:Bool):Sl->Option D
 | .em=>none
 | .im d=>some d
 | .ow d=>if b=true then some d else none
noncomputable def Sl.frz (b:Bool):Sl->Sl
 | .ow d=>if b=true then .im d else .ow d
 | s=>s
def vis:List Bool->DS->DE
 | _,[]=>[]
 | [],s::r=>s.see false::vis [] r
 | b::m,s::r=>s.see b::vis m r
noncomputable def frz:List Bool->DS->DS
 | _,[]=>[]
 | [],s::r=>s::r
 | b::m,s::r=>s.frz b::frz m r
theorem Ka:∀(m:List Bool) (ρ:DS) (i:Nat),(vis m ρ)[i]?=(ρ[i]?).map (Sl.see (m.getD i false))
 | [],[],i=>by simp [vis]
 | _::_,[],i=>by simp [vis]
 | [],s::r,0=>by simp [vis]
 | b::m,s::r,0=>by simp [vis]
 | [],s::r,i+1=>by simpa [vis] using Ka [] r i
 | b::m,s::r,i+1=>by simpa [vis] using Ka m r i
theorem Lu:∀(m:List Bool) (ρ:DS),(vis m ρ).length=ρ.length
 | [],[]=>rfl
 | _::_,[]=>rfl
 | [],s::r=>by simp [vis,Lu [] r]
 | b::m,s::r=>by simp [vis,Lu m r]
theorem Sl.frz_false (s:Sl):s.frz false=s:=by cases s<;>simp [Sl.frz]
theorem Jz:∀(m:List Bool) (ρ:DS) (i:Nat),(L2.frz m ρ)[i]?=(ρ[i]?).map (Sl.frz (m.getD i false))
 | [],[],i=>by simp [frz]
 | _::_,[],i=>by simp [frz]
 | [],s::r,i=>by
  simp only [frz,List.getD_nil];cases h:(s::r)[i]? with
  | none=>rfl
  | some x=>simp [Sl.frz_false]
 | b::m,s::r,0=>by simp [frz]
 | b::m,s::r,i+1=>by simpa [frz] using Jz m r i
theorem Wf:∀(m:List Bool) (ρ:DS),(L2.frz m ρ).length=ρ.length
 | [],[]=>rfl
 | _::_,[]=>rfl
 | [],s::r=>rfl
 | b::m,s::r=>by simp [frz,Wf m r]
structure RS (K:Frag) (Hc Hb H0:Hp) (ρ:DS) (σ:St) (H:Hp):Prop where
 sb:Same Hb H
 ext:Ext Hc Hb H0 H
 len:ρ.length=σ.length
 im:∀(i:Nat) d,ρ[i]?=some (.im d)->∃v,σ[i]?=some (some v)/\RD K H0 d v
 ow:∀(i:Nat) d,ρ[i]?=some (.ow d)->∃a,σ[i]?=some (some (.ref a))/\H0 a=none/\Hb a=none/\OB K H0 H a d
 ap:∀(i j:Nat) d e a,ρ[i]?=some (.ow d)->ρ[j]?=some (.ow e)->σ[i]?=some (some (.ref a))->σ[j]?=some (some (.ref a))->i=j
theorem RS.grow {K:Frag} {Hc Hb H0 H H':Hp} {ρ:DS} {σ:St} (R:RS K Hc Hb H0 ρ σ H) (s:Same H H'):RS K Hc Hb H0 ρ σ H':=
 ⟨R.sb.trans s,R.ext.grow s,R.len,R.im,fun i d e=>by obtain ⟨a,h1,h2,h3,h4⟩:=R.ow i d e;exact ⟨a,h1,h2,h3,h4.mono (Same.refl _) s⟩,R.ap⟩
def Msk (m:List Bool) (ρ:DS) (σ:St) (a:Addr):Prop:=∃i d,m.getD i false=true/\ρ[i]?=some (.ow d)/\σ[i]?=some (some (.ref a))
open Classical in
noncomputable def HeOf (m:List Bool) (ρ:DS) (σ:St) (H0 H:Hp):Hp:=fun a=>if Msk m ρ σ a then H a else H0 a
open Classical in
noncomputable def HdOf (m:List Bool) (ρ:DS) (σ:St) (H0:Hp):Hp:=fun a=>if Msk m ρ σ a then none else H0 a
section
variable {K:Frag} {Hc Hb H0 H H':Hp} {ρ:DS} {σ:St} {m:List Bool}
theorem RS.msk (R:RS K Hc Hb H0 ρ σ H) (h:Msk m ρ σ a):H0 a=none/\Hb a=none/\∃o,H a=some o/\¬Imm o:=by obtain ⟨i,d,_,h1,h2⟩:=h;obtain ⟨a',q1,q2,q3,q4⟩:=R.ow i d h1;rw [h2] at q1;cases q1;exact ⟨q2,q3,q4.some⟩
theorem Dm (h:Msk m ρ σ a):HeOf m ρ σ H0 H a=H a:=by unfold HeOf;exact ξ h
theorem V8 (h:¬Msk m ρ σ a):HeOf m ρ σ H0 H a=H0 a:=by unfold HeOf;exact ψ h
theorem Dl (h:Msk m ρ σ a):HdOf m ρ σ H0 a=none:=by unfold HdOf;exact ξ h
theorem V7 (h:¬Msk m ρ σ a):HdOf m ρ σ H0 a=H0 a:=by unfold HdOf;exact ψ h
theorem RS.he0 (R:RS K Hc Hb H0 ρ σ H) (m:List Bool):Same H0 (HeOf m ρ σ H0 H):=fun b o e=>by
 by_cases h:Msk m ρ σ b
 . rw [(R.msk h).1] at e;cases e
 . rw [V8 h];exact e
theorem RS.heH (R:RS K Hc Hb H0 ρ σ H) (m:List Bool):Same (HeOf m ρ σ H0 H) H:=fun b o e=>by
 by_cases h:Msk m ρ σ b
 . rw [Dm h] at e;exact e
 . rw [V8 h] at e;exact R.ext.2.1 b o e
theorem RS.re (R:RS K Hc Hb H0 ρ σ H) (m:List Bool):RE K (HeOf m ρ σ H0 H) (vis m ρ) σ:=by
 refine ⟨by rw [Lu];exact R.len,fun i d e=>?_⟩;rw [Ka] at e;cases q:ρ[i]? with
 | none=>rw [q] at e;cases e
 | some s=>
  rw [q] at e
  simp only [Option.map_some,Option.some.injEq] at e
  cases s with
  | em=>cases e
  | im d'=>
   cases e
   obtain ⟨v,h1,h2⟩:=R.im i d q
   exact ⟨v,h1,h2.mono (R.he0 m)⟩
  | ow d'=>
   simp only [Sl.see] at e
   split at e
   . rename_i hm;cases e;obtain ⟨a,h1,h2,h3,h4⟩:=R.ow i d q;exact ⟨_,h1,h4.rd (R.he0 m) (Dm ⟨i,d,hm,q,h1⟩)⟩
   . cases e
def j7 (keep:Bool) (m:List Bool) (ρ:DS):DS:=if keep=true then ρ else frz m ρ
def keeps (fr:Bool) (d:D):Bool:=if fr=true then d.shal else d.noL
def Apt (K:Frag) (fr:Bool) (Hb H0:Hp) (ρ:DS) (σ:St) (H:Hp) (d:D) (v:V):Prop:=
 if fr=true then ∃p,v=.ref p/\H0 p=none/\Hb p=none/\OB K H0 H p d/\∀(i:Nat) e,ρ[i]?=some (.ow e)->σ[i]?≠some (some (.ref p)) else RD K H0 d v
theorem Dk (h:(j7 keep m ρ)[i]?=some (.ow d)):ρ[i]?=some (.ow d)/\(keep=false->m.getD i false=false):=by
 unfold j7 at h;cases keep with
 | true=>exact ⟨h,fun z=>nomatch z⟩
 | false=>
  rw [ψ η,Jz] at h
  cases q:ρ[i]? with
  | none=>rw [q] at h;cases h
  | some s=>
   rw [q] at h
   simp only [Option.map_some,Option.some.injEq] at h
   cases s with
   | em=>cases h
   | im d'=>cases h
   | ow d'=>
    simp only [Sl.frz] at h
    split at h
    . cases h
    . rename_i hm;cases h;exact ⟨rfl,fun _=>by simpa using hm⟩
theorem RS.frame (R:RS K Hc Hb H0 ρ σ H) (s:Same H H') (e:Ext (HeOf m ρ σ H0 H) H H0' H') (keep:Bool) :
  ∃H0n,RS K Hc Hb H0n (j7 keep m ρ) σ H'/\TK H0' H0n/\(keep=false->H0n=H0')/\(∀p,H0' p=none->H0n p=none)/\Same H0 H0n:=by
 have hunm:∀(i:Nat) d' a,ρ[i]?=some (.ow d')->σ[i]?=some (some (.ref a))->¬Msk m ρ σ a->H0' a=none:=fun i d' a h1 h2 h3=>by obtain ⟨a',q1,q2,q3,q4⟩:=R.ow i d' h1;rw [h2] at q1;cases q1;obtain ⟨u,hu,_⟩:=q4.some;exact e.2.2 a (Af hu) (by rw [V8 h3];exact q2)
 have nmsk:∀{i:Nat} {d':D} {a:Addr},ρ[i]?=some (.ow d')->σ[i]?=some (some (.ref a))->m.getD i false=false->¬Msk m ρ σ a:=fun {i d' a} h1 h2 h3 ⟨j,e',q1,q2,q3⟩=>by have:=R.ap i j d' e' a h1 q2 h2 q3;subst this;rw [h3] at q1;cases q1
 cases keep with
 | true=>
  have hth:j7 true m ρ=ρ:=rfl
  have s0:Same H0 (HdOf m ρ σ H0'):=fun b u q=>by
   have hb:¬Msk m ρ σ b:=fun z=>by rw [(R.msk z).1] at q;cases q
   rw [V7 hb];exact e.1 b u (R.he0 m b u q)
  have tk:TK H0' (HdOf m ρ σ H0'):=fun b u hi q=>by
   have hb:¬Msk m ρ σ b:=fun z=>by obtain ⟨_,_,w,hw,hn⟩:=R.msk z;have:=e.1 b w (by rw [Dm z];exact hw);rw [q] at this;cases this;exact hn hi
   rw [V7 hb];exact q
  refine ⟨HdOf m ρ σ H0',⟨R.sb.trans s,⟨R.ext.1.trans s0,fun b u q=>?_,fun a h1 h2=>?_⟩,R.len,fun i d' q=>?_,fun i d' q=>?_,R.ap⟩,tk,(fun z=>nomatch z),fun p hp=>?_,s0⟩
  . by_cases hb:Msk m ρ σ b
    . rw [Dl hb] at q;cases q
    . rw [V7 hb] at q;exact e.2.1 b u q
  . by_cases hb:Msk m ρ σ a
    . exact Dl hb
    . rw [V7 hb];exact e.2.2 a (R.sb.ne h1) (by rw [V8 hb];exact R.ext.2.2 a h1 h2)
  . obtain ⟨w,h1,h2⟩:=R.im i d' q;exact ⟨w,h1,h2.mono s0⟩
  . obtain ⟨a,h1,h2,h3,h4⟩:=R.ow i d' q;refine ⟨a,h1,?_,h3,h4.mono s0 s⟩;by_cases hb:Msk m ρ σ a
    . exact Dl hb
    . rw [V7 hb];exact hunm i d' a q h1 hb
  . by_cases hb:Msk m ρ σ p
    . exact Dl hb
    . rw [V7 hb];exact hp
 | false=>
  refine ⟨H0',⟨R.sb.trans s,?_,?_,fun i d' q=>?_,fun i d' q=>?_,fun i j d1 d2 a q1 q2=>?_⟩,fun _ _ _ z=>z,fun _=>rfl,fun _ z=>z,(R.he0 m).trans e.1⟩
  . refine ⟨R.ext.1.trans ((R.he0 m).trans e.1),e.2.1,fun a h1 h2=>e.2.2 a (R.sb.ne h1) ?_⟩;have hb:¬Msk m ρ σ a:=fun z=>h1 (R.msk z).2.1
    rw [V8 hb];exact R.ext.2.2 a h1 h2
  . show (L2.frz m ρ).length=_;rw [Wf];exact R.len
  . have q':(L2.frz m ρ)[i]?=some (.im d'):=q;rw [Jz] at q';cases hs:ρ[i]? with
    | none=>rw [hs] at q';cases q'
    | some sl=>
     rw [hs] at q'
     simp only [Option.map_some,Option.some.injEq] at q'
     cases sl with
     | em=>cases q'
     | im d2=>
      cases q'
      obtain ⟨w,h1,h2⟩:=R.im i d' hs
      exact ⟨w,h1,h2.mono ((R.he0 m).trans e.1)⟩
     | ow d2=>
      simp only [Sl.frz] at q'
      split at q'
      . rename_i hm;cases q';obtain ⟨a,h1,h2,h3,h4⟩:=R.ow i d' hs;obtain ⟨u,hu,_⟩:=h4.some;refine ⟨_,h1,h4.rd ((R.he0 m).trans e.1) ?_⟩;rw [hu];exact e.1 a u (by rw [Dm ⟨i,d',hm,hs,h1⟩];exact hu)
      . cases q'
  . obtain ⟨q1,q2⟩:=Dk q;obtain ⟨a,h1,h2,h3,h4⟩:=R.ow i d' q1;exact ⟨a,h1,hunm i d' a q1 h1 (nmsk q1 h1 (q2 rfl)),h3,h4.mono ((R.he0 m).trans e.1) s⟩
  . exact R.ap i j d1 d2 a (Dk q1).1 (Dk q2).1
theorem RS.out (R:RS K Hc Hb H0 ρ σ H) (o:Out K fr (HeOf m ρ σ H0 H) H d v H') :
  ∃H0n,RS K Hc Hb H0n (j7 (keeps fr d) m ρ) σ H'/\Apt K fr Hb H0n (j7 (keeps fr d) m ρ) σ H' d v:=by
 obtain ⟨s,H0',e,r⟩:=o
 obtain ⟨H0n,R',tk,eq,hn,_⟩:=R.frame s e (keeps fr d)
 refine ⟨H0n,R',?_⟩
 unfold Apt
 cases fr with
 | false=>
  rw [ψ η] at r ⊢
  cases hk:keeps false d with
  | true=>exact r.tk tk (by simpa [keeps] using hk)
  | false=>rw [eq hk];exact r
 | true=>
  rw [ξ rfl] at r ⊢
  obtain ⟨p,rfl,hp,hp0,ob⟩:=r
  refine ⟨p,rfl,hn p hp0,R.sb.none hp,?_,fun i e' q z=>?_⟩
  . cases hk:keeps true d with
    | true=>exact ob.tk (by simpa [keeps] using hk) tk
    | false=>rw [eq hk];exact ob
  . obtain ⟨a,h1,_,_,h4⟩:=R.ow i e' (Dk q).1;rw [z] at h1;cases h1;obtain ⟨u,hu,_⟩:=h4.some;rw [hp] at hu;cases hu
theorem RS.outs (R:RS K Hc Hb H0 ρ σ H) (s:Same H H') (e:Ext (HeOf m ρ σ H0 H) H H0' H') (r:RDs K H0' ds vs) :
  ∃H0n,RS K Hc Hb H0n (j7 (i7 ds) m ρ) σ H'/\RDs K H0n ds vs:=by
 obtain ⟨H0n,R',tk,eq,hn,_⟩:=R.frame s e (i7 ds)
 refine ⟨H0n,R',?_⟩
 cases hk:i7 ds with
 | true=>exact r.tk tk hk
 | false=>rw [eq hk];exact r
noncomputable def F8 (fr:Bool) (i:Nat) (d:D) (ρ:DS):DS:=ρ.set i (if fr=true then .ow d else .im d)
theorem RS.put (R:RS K Hc Hb H0 ρ σ H) (a:Apt K fr Hb H0 ρ σ H d v) (i:Nat):RS K Hc Hb H0 (F8 fr i d ρ) (σ.set i (some v)) H:=by
 unfold F8;have other:∀{j:Nat} {s:Sl},j≠i->(ρ.set i s)[j]?=ρ[j]?:=fun {j s} h=>by rw [List.getElem?_set_ne (Ne.symm h)]
 have otherσ:∀{j:Nat},j≠i->(σ.set i (some v))[j]?=σ[j]?:=fun {j} h=>by rw [List.getElem?_set_ne (Ne.symm h)]
 have here:∀{s s':Sl},(ρ.set i s)[i]?=some s'->s'=s/\(σ.set i (some v))[i]?=some (some v):=fun {s s'} h=>by
  have hi:i<ρ.length:=by have:=(List.getElem?_eq_some_iff.mp h).1;simpa using this
  rw [List.getElem?_set_self hi] at h;cases h;exact ⟨rfl,by rw [List.getElem?_set_self (by rw [<-R.len];exact hi)]⟩
 refine ⟨R.sb,R.ext,by rw [List.length_set,List.length_set];exact R.len,fun j d' q=>?_,fun j d' q=>?_,fun j k d1 d2 b q1 q2 z1 z2=>?_⟩
 . by_cases hj:j=i
   . subst hj;obtain ⟨h1,h2⟩:=here q;refine ⟨v,h2,?_⟩;cases fr with
     | false=>
      rw [ψ η] at h1;cases h1
      unfold Apt at a
      rw [ψ η] at a;exact a
     | true=>rw [ξ rfl] at h1;cases h1
   . rw [other hj] at q;rw [otherσ hj];exact R.im j d' q
 . by_cases hj:j=i
   . subst hj;obtain ⟨h1,h2⟩:=here q;cases fr with
     | false=>rw [ψ η] at h1;cases h1
     | true=>
      rw [ξ rfl] at h1;cases h1
      unfold Apt at a
      rw [ξ rfl] at a
      obtain ⟨p,rfl,a1,a2,a3,_⟩:=a
      exact ⟨p,h2,a1,a2,a3⟩
   . rw [other hj] at q;rw [otherσ hj];exact R.ow j d' q
 . by_cases hj:j=i
   . by_cases hk:k=i
     . rw [hj,hk]
     . subst hj;obtain ⟨h1,h2⟩:=here q1;rw [other hk] at q2;rw [otherσ hk] at z2;rw [h2] at z1;cases fr with
       | false=>rw [ψ η] at h1;cases h1
       | true=>
        unfold Apt at a
        rw [ξ rfl] at a
        obtain ⟨p,rfl,_,_,_,a4⟩:=a
        cases z1
        exact absurd z2 (a4 k d2 q2)
   . by_cases hk:k=i
     . subst hk;obtain ⟨h1,h2⟩:=here q2;rw [other hj] at q1;rw [otherσ hj] at z1;rw [h2] at z2;cases fr with
       | false=>rw [ψ η] at h1;cases h1
       | true=>
        unfold Apt at a
        rw [ξ rfl] at a
        obtain ⟨p,rfl,_,_,_,a4⟩:=a
        cases z2
        exact absurd z1 (a4 j d1 q1)
     . rw [other hj] at q1;rw [other hk] at q2;rw [otherσ hj] at z1;rw [otherσ hk] at z2;exact R.ap j k d1 d2 b q1 q2 z1 z2
end
inductive SR where
 | nx (ρ:DS) | bk (ρ:DS) | ct (ρ:DS) | rt (d:D) | er (x:Ex) | st
def SK (K:Frag) (EX:XW) (fr:Bool) (Hc Hb:Hp) (De:Ends):SR->Prop
 | .nx ρ=>∀σ H H0,RS K Hc Hb H0 ρ σ H->De.nx σ H
 | .bk ρ=>∀σ H H0,RS K Hc Hb H0 ρ σ H->De.bk σ H
 | .ct ρ=>∀σ H H0,RS K Hc Hb H0 ρ σ H->De.ct σ H
 | .rt d=>∀v H,Out K fr Hc Hb d v H->De.rt v H
 | .er x=>EX.at x
 | .st=>False
noncomputable def TSd (K:Frag) (EX:XW) (fr:Bool) (g:DS->SR):TS:=fun De σ H=>∃Hc Hb H0 ρ,Same EX.hb Hb/\RS K Hc Hb H0 ρ σ H/\SK K EX fr Hc Hb De (g ρ)
noncomputable def R.toS {α:Type} (r:R α) (k:α->SR):SR:=match r with
 | .ok a=>k a
 | .er x=>.er x
 | .st=>.st
noncomputable def sNx:DS->SR:=fun ρ=>.nx ρ
noncomputable def c7 (g1 g2:DS->SR):DS->SR:=fun ρ=>match g1 ρ with
 | .nx ρ'=>g2 ρ'
 | r=>r
noncomputable def see (ρ:DS):DE:=ρ.map (Sl.see true)
def sIf (t:DE->R Bool) (g1 g2:DS->SR):DS->SR:=fun ρ=>(t (see ρ)).toS fun b=>if b=true then g1 ρ else g2 ρ
def i4 (fr:Bool) (i:Nat) (m:List Bool) (f:DE->R D):DS->SR:=fun ρ=>(f (vis m ρ)).toS fun d=>.nx (F8 fr i d (j7 (keeps fr d) m ρ))
def e7 (m:List Bool) (f:DE->R D):DS->SR:=fun ρ=>(f (vis m ρ)).toS fun d=>.rt d
noncomputable def N4 (i:Nat):DS->SR:=fun ρ=>match ρ[i]? with
 | some (.ow d)=>.rt d
 | _=>.st
def J3 (f:DE->R D):DS->SR:=fun ρ=>(f (see ρ)).toS fun _=>.nx ρ
section
variable {K:Frag} {EX:XW} {fr:Bool} {Hc Hb H0 H H':Hp} {ρ:DS} {σ:St} {De:Ends} {m:List Bool}
theorem SK.toS:SK K EX fr Hc Hb De (r.toS k)=Rk EX.at r fun a=>SK K EX fr Hc Hb De (k a):=by cases r<;>rfl
theorem Ae:∀(ρ:DS),vis (List.replicate ρ.length true) ρ=see ρ
 | []=>rfl
 | s::r=>by show s.see true::vis (List.replicate r.length true) r=_;rw [Ae r];rfl
theorem RS.extE (R:RS K Hc Hb H0 ρ σ H) (m:List Bool):Ext Hc Hb (HeOf m ρ σ H0 H) H:=
 ⟨R.ext.1.trans (R.he0 m),R.heH m,fun a h1 h2=>by
  have hb:¬Msk m ρ σ a:=fun z=>h1 (R.msk z).2.1
  rw [V8 hb];exact R.ext.2.2 a h1 h2⟩
theorem RS.te (I:RS K Hc Hb H0 ρ σ H) (sb:Same EX.hb Hb) (h:Rk EX.at (f (vis m ρ)) k)
  (hk:∀d,k d->∀v H' H0n,RS K Hc Hb H0n (j7 (keeps fr' d) m ρ) σ H'->Apt K fr' Hb H0n (j7 (keeps fr' d) m ρ) σ H' d v->Q v H'):TEd K EX fr' f σ H Q:=
 ⟨sb.trans I.sb,vis m ρ,HeOf m ρ σ H0 H,I.heH m,I.re m,h.mono fun d z v H' o=>by obtain ⟨H0n,R',a⟩:=I.out o;exact hk d z v H' H0n R' a⟩
theorem RS.tt (I:RS K Hc Hb H0 ρ σ H) (sb:Same EX.hb Hb) (h:Rk EX.at (f (see ρ)) k) (hk:∀b,k b->∀H',RS K Hc Hb H0 ρ σ H'->Q b H'):TTd K EX f σ H Q:=by refine ⟨sb.trans I.sb,see ρ,HeOf (List.replicate ρ.length true) ρ σ H0 H,I.heH _,?_,h.mono fun b z H' s=>hk b z H' (I.grow s)⟩;rw [<-Ae];exact I.re _
theorem Ft (h:TSd K EX fr sNx De σ H):Ow De σ H:=by obtain ⟨Hc,Hb,H0,ρ,sb,R,h⟩:=h;exact h σ H H0 R
theorem Gr (h:TSd K EX fr (c7 g1 g2) De σ H):Cf (TSd K EX fr g1) (TSd K EX fr g2) De σ H:=by
 obtain ⟨Hc,Hb,H0,ρ,sb,R,h⟩:=h;refine ⟨Hc,Hb,H0,ρ,sb,R,?_⟩;unfold c7 at h;cases q:g1 ρ with
 | nx ρ'=>rw [q] at h;exact fun σ' H' H0' R'=>⟨Hc,Hb,H0',ρ',sb,R',h⟩
 | bk ρ'=>rw [q] at h;exact h
 | ct ρ'=>rw [q] at h;exact h
 | rt d=>rw [q] at h;exact h
 | er x=>rw [q] at h;exact h
 | st=>rw [q] at h;exact h
theorem Of (h:TSd K EX fr (sIf t g1 g2) De σ H):Zo (TTd K EX t) (TSd K EX fr g1) (TSd K EX fr g2) De σ H:=by
 obtain ⟨Hc,Hb,H0,ρ,sb,R,h⟩:=h;unfold sIf at h;rw [SK.toS] at h;refine R.tt sb h fun b h H' R'=>?_
 cases b with
 | true=>exact ⟨Hc,Hb,H0,ρ,sb,R',h⟩
 | false=>exact ⟨Hc,Hb,H0,ρ,sb,R',h⟩
theorem Gq (h:TSd K EX fr (i4 fr' i m f) De σ H):C3 (TEd K EX fr' f) (t9 i) De σ H:=by obtain ⟨Hc,Hb,H0,ρ,sb,R,h⟩:=h;unfold i4 at h;rw [SK.toS] at h;exact R.te sb h fun d h v H' H0n R' a=>h _ H' H0n (R'.put a i)
theorem ju (h:TSd K EX fr (e7 m f) De σ H):Gb (TEd K EX fr f) De σ H:=by obtain ⟨Hc,Hb,H0,ρ,sb,R,h⟩:=h;unfold e7 at h;rw [SK.toS] at h;exact ⟨sb.trans R.sb,vis m ρ,HeOf m ρ σ H0 H,R.heH m,R.re m,h.mono fun d z v H' o=>z v H' (o.after R.sb (R.extE m))⟩
theorem qJ (h:TSd K EX true (N4 i) De σ H):Gb (l8 i) De σ H:=by
 obtain ⟨Hc,Hb,H0,ρ,sb,R,h⟩:=h;unfold N4 at h;split at h
 . rename_i d q;obtain ⟨a,h1,h2,h3,h4⟩:=R.ow i d q;show l8 i σ H De.rt;unfold l8;rw [h1];exact h _ H (.fresh R.sb R.ext h3 h2 h4)
 . exact h.elim
theorem qH (h:TSd K EX fr (J3 f) De σ H):T7 (TEd K EX false f) De σ H:=by obtain ⟨Hc,Hb,H0,ρ,sb,R,h⟩:=h;unfold J3 at h;rw [SK.toS] at h;refine ⟨sb.trans R.sb,see ρ,HeOf (List.replicate ρ.length true) ρ σ H0 H,R.heH _,by rw [<-Ae];exact R.re _,h.mono fun d z v H' o=>?_⟩;exact z σ H' H0 (R.grow o.1)
theorem RS.mutate (R:RS K Hc Hb H0 ρ σ H) (h:ρ[i]?=some (.ow d)) (ha:σ[i]?=some (some (.ref a))) (ob:OB K H0 (upd H a o) a d'):RS K Hc Hb H0 (ρ.set i (.ow d')) σ (upd H a o):=by
 obtain ⟨a',q1,q2,q3,q4⟩:=R.ow i d h;rw [ha] at q1;cases q1;have hi:i<ρ.length:=(List.getElem?_eq_some_iff.mp h).1;have other:∀{j:Nat} {s:Sl},j≠i->(ρ.set i s)[j]?=ρ[j]?:=fun {j s} h=>by rw [List.getElem?_set_ne (Ne.symm h)]
 have here:(ρ.set i (.ow d'))[i]?=some (.ow d'):=by rw [List.getElem?_set_self hi]
 have sm:∀{H1:Hp},Same H1 H->H1 a=none->Same H1 (upd H a o):=fun s n=>s.upd_at n
 refine ⟨sm R.sb q3,⟨R.ext.1,sm R.ext.2.1 q2,R.ext.2.2⟩,by rw [List.length_set];exact R.len,fun j d2 q=>?_,fun j d2 q=>?_,fun j k d1 d2 b z1 z2=>?_⟩
 . have hj:j≠i:=fun z=>by subst z;rw [here] at q;cases q
   rw [other hj] at q;exact R.im j d2 q
 . by_cases hj:j=i
   . subst hj;rw [here] at q;cases q;exact ⟨a,ha,q2,q3,ob⟩
   . rw [other hj] at q;obtain ⟨b,h1,h2,h3,h4⟩:=R.ow j d2 q;have hb:b≠a:=fun z=>hj (R.ap j i d2 d b q h h1 (by rw [z];exact ha))
     exact ⟨b,h1,h2,h3,h4.at (d7 hb)⟩
 . have back:∀{j:Nat} {d1:D},(ρ.set i (.ow d'))[j]?=some (.ow d1)->∃d0,ρ[j]?=some (.ow d0):=fun {j d1} z=>by
    by_cases hj:j=i
    . subst hj;exact ⟨d,h⟩
    . rw [other hj] at z;exact ⟨_,z⟩
   obtain ⟨e1,z1⟩:=back z1
   obtain ⟨e2,z2⟩:=back z2
   exact R.ap j k e1 e2 b z1 z2
def X0 (K:Frag) (mt:D->List D->Option D) (r:V->List V->Hp->VK->Prop):Prop:=∀(H0 H:Hp) (a:Addr) (d d':D) (ds:List D) (vs:List V) (Q:VK),Same H0 H->H0 a=none->OB K H0 H a d->RDs K H0 ds vs->mt d ds=some d' ->
 (∀v o,OB K H0 (upd H a o) a d'->Q v (upd H a o))->r (.ref a) vs H Q
noncomputable def isT (T:String):D->Bool
 | .lst _=>T=="list"
 | .dk _ _=>T=="dict"
 | .dt _ _=>T=="dict"
 | _=>false
def TyD (K:Frag) (T:String):Prop:=∀(H0 H:Hp) (a:Addr) (d:D),OB K H0 H a d->isT T d=true->tyV K T (.ref a) H
def C5 (T:String) (mt:D->List D->Option D) (i:Nat) (m:List Bool) (fs:DE->R (List D)):DS->SR:=fun ρ=>match ρ[i]? with
 | some (.ow d0)=>if isT T d0=true then (fs (vis m ρ)).toS fun ds=>match (j7 (i7 ds) m ρ)[i]? with
  | some (.ow d)=>(R.of (mt d ds)).toS fun d'=>.nx ((j7 (i7 ds) m ρ).set i (.ow d'))
  | _=>.st
  else .st
 | _=>.st
theorem Oe {T:String} {mt:D->List D->Option D} {r:V->List V->Hp->VK->Prop} {i:Nat} {fs:DE->R (List D)} (hm:X0 K mt r) (hT:TyD K T) (h:TSd K EX fr (C5 T mt i m fs) De σ H) :
  T7 (tBM K T r (l8 i) (TAd K EX fs)) De σ H:=by
 obtain ⟨Hc,Hb,H0,ρ,sb,R,h⟩:=h
 unfold C5 at h
 split at h
 . rename_i d0 q0;split at h
   . rename_i hty;rw [SK.toS] at h;obtain ⟨a,h1,h2,h3,h4⟩:=R.ow i d0 q0;unfold T7 tBM l8;rw [h1];refine ⟨hT H0 H a d0 h4 hty,sb.trans R.sb,vis m ρ,HeOf m ρ σ H0 H,R.heH m,R.re m,h.mono fun ds h vs H' H0' s e rds=>?_⟩;obtain ⟨H0n,R',rd'⟩:=R.outs s e rds;split at h
     . rename_i d q;rw [SK.toS] at h;obtain ⟨d',hd',h⟩:=h.of;obtain ⟨a',z1,z2,z3,z4⟩:=R'.ow i d q;rw [h1] at z1;cases z1;exact hm H0n H' a d d' ds vs _ R'.ext.2.1 z2 z4 rd' hd' fun v o ob=>h σ _ H0n (R'.mutate q h1 ob)
     . exact h.elim
   . exact h.elim
 . exact h.elim
def Fs (K:Frag) (st:D->D->D->Option D) (r:S3):Prop:=∀(H0 H:Hp) (a:Addr) (d d' dk dv:D) (y v:V) (Q:Hp->Prop),Same H0 H->H0 a=none->OB K H0 H a d->RD K H0 dk y->RD K H0 dv v->st d dk dv=some d' ->
 (∀o,OB K H0 (upd H a o) a d'->Q (upd H a o))->r (.ref a) y v H Q
def G4 (st:D->D->D->Option D) (i:Nat) (m:List Bool) (fk fv:DE->R D):DS->SR:=fun ρ=>(fv (vis m ρ)).toS fun dv=>match (j7 (keeps false dv) m ρ)[i]? with
 | some (.ow _)=>(fk (vis m (j7 (keeps false dv) m ρ))).toS fun dk=>(match (j7 (keeps false dk) m (j7 (keeps false dv) m ρ))[i]? with
  | some (.ow d)=>(R.of (st d dk dv)).toS fun d'=>.nx ((j7 (keeps false dk) m (j7 (keeps false dv) m ρ)).set i (.ow d'))
  | _=>.st)
 | _=>.st
theorem Apt.rd (a:Apt K false Hb H0 ρ σ H d v):RD K H0 d v:=by unfold Apt at a;rw [ψ η] at a;exact a
end
section
variable {K:Frag} {EX:XW} {fr:Bool} {Hc Hb H0 H H':Hp} {ρ:DS} {σ:St} {De:Ends} {m:List Bool}
theorem Gp {st:D->D->D->Option D} {r:S3} {i:Nat} {fk fv:DE->R D} (hs:Fs K st r) (h:TSd K EX fr (G4 st i m fk fv) De σ H) :
  C3 (TEd K EX false fv) (Cd (l8 i) (TEd K EX false fk) r) De σ H:=by
 obtain ⟨Hc,Hb,H0,ρ,sb,I,h⟩:=h
 unfold G4 at h
 rw [SK.toS] at h
 refine I.te sb h fun dv h v H1 H1n I1 a1=>?_
 split at h
 . rename_i d0 q0;rw [SK.toS] at h;obtain ⟨a,h1,h2,h3,h4⟩:=I1.ow i d0 q0;unfold Cd l8;rw [h1];refine ⟨sb.trans I1.sb,vis m _,HeOf m _ σ H1n H1,I1.heH m,I1.re m,h.mono fun dk h y H2 o2=>?_⟩;obtain ⟨s2,H2',e2,r2⟩:=o2.rd;obtain ⟨H2n,I2,tk,eq,hn,sub⟩:=I1.frame s2 e2 (keeps false dk);have r2':RD K H2n dk y:=by
    cases hk:keeps false dk with
    | true=>exact r2.tk tk (by simpa [keeps] using hk)
    | false=>rw [eq hk];exact r2
   split at h
   . rename_i d q;rw [SK.toS] at h;obtain ⟨d',hd',h⟩:=h.of;obtain ⟨a',z1,z2,z3,z4⟩:=I2.ow i d q;rw [h1] at z1;cases z1;exact hs H2n H2 a d d' dk dv y v _ I2.ext.2.1 z2 z4 r2' (a1.rd.mono sub) hd' fun o ob=>h σ _ H2n (I2.mutate q h1 ob)
   . exact h.elim
 . exact h.elim
inductive Tg where
 | n (i:Nat) | t (is:List Nat)
def Ji:List Nat->List D->DS->DS
 | i::is,d::ds,ρ=>Ji is ds (F8 false i d ρ)
 | _,_,ρ=>ρ
noncomputable def items:D->Option (List D)
 | .tup ds=>some ds
 | .lst ds=>some ds
 | _=>none
def S5:Tg->D->DS->Option DS
 | .n i,d,ρ=>some (F8 false i d ρ)
 | .t is,d,ρ=>(items d).bind fun ds=>if ds.length=is.length then some (Ji is ds ρ) else none
def TGd (K:Frag) (tg:Tg):TG:=fun v σ H Q=>∃Hc Hb H0 ρ d ρ',RS K Hc Hb H0 ρ σ H/\RD K H0 d v/\S5 tg d ρ=some ρ'/\∀σ',RS K Hc Hb H0 ρ' σ' H->Q σ' H
theorem RS.putI (I:RS K Hc Hb H0 ρ σ H) (r:RD K H0 d v) (i:Nat):RS K Hc Hb H0 (F8 false i d ρ) (σ.set i (some v)) H:=
 I.put (fr:=false) (by unfold Apt;rw [ψ η];exact r) i
theorem Yz (h:TGd K (.n i) v σ H Q):t9 i v σ H Q:=by obtain ⟨Hc,Hb,H0,ρ,d,ρ',I,r,e,q⟩:=h;simp only [S5,Option.some.injEq] at e;subst e;exact q _ (I.putI r i)
def Ct:List Nat->TGs
 | []=>Oj
 | i::is=>Qo (t9 i) (Ct is)
theorem Ln:∀(is:List Nat) {ds:List D} {xs:List V} {ρ:DS} {σ:St} {Q:St->Hp->Prop},RS K Hc Hb H0 ρ σ H->RDs K H0 ds xs->ds.length=is.length->(∀σ',RS K Hc Hb H0 (Ji is ds ρ) σ' H->Q σ' H)->Ct is xs σ H Q
 | [],[],_,ρ,σ,Q,I,r,_,q=>by simp only [RDs] at r;subst r;exact q σ I
 | [],_::_,_,_,_,_,_,_,hl,_=>by simp at hl
 | _::_,[],_,_,_,_,_,_,hl,_=>by simp at hl
 | i::is,d::ds,_,ρ,σ,Q,I,r,hl,q=>by simp only [RDs] at r;obtain ⟨x,xs,rfl,r1,r2⟩:=r;exact Ln is (I.putI r1 i) r2 (by simpa using hl) q
theorem y29 (h:TGd K (.t is) v σ H Q):Y2 is.length (Ct is) v σ H Q:=by
 obtain ⟨Hc,Hb,H0,ρ,d,ρ',I,r,e,q⟩:=h;simp only [S5] at e;cases d<;>simp only [items,Option.bind_none,Option.bind_some] at e<;>first | cases e | skip
 . rename_i ds;split at e
   . rename_i hl;cases e;simp only [RD] at r;obtain ⟨a,xs,rfl,ha,rs⟩:=r;unfold Y2;simp only [I.ext.2.1 a _ ha];exact ⟨by rw [<-rs.length];exact hl,Ln is I rs hl q⟩
   . cases e
 . rename_i ds;split at e
   . rename_i hl;cases e;simp only [RD] at r;obtain ⟨a,xs,rfl,ha,rs⟩:=r;unfold Y2;simp only [I.ext.2.1 a _ ha];exact ⟨by rw [<-rs.length];exact hl,Ln is I rs hl q⟩
   . cases e
noncomputable def Hno:Hp:=fun _=>none
def R6 (K:Frag) (J:It) (H0:Hp) (ds:List D):Prop:=
 (∀(i:Nat) d,ds[i]?=some d->∀H H1,Same H0 H1->Same H1 H->J.go i H/\∀x H',J.yld i H x H'->Same H H'/\∃H1',Ext H1 H H1' H'/\RD K H1' d x)/\∀H,Same H0 H->J.stop ds.length H
def TId (K:Frag) (EX:XW) (kp:Bool) (f:DE->R (List D)):TI:=fun σ H Q=>Same EX.hb H/\∃ρ H0,Same H0 H/\RE K H0 ρ σ/\Rk EX.at (f ρ) fun ds=>∀J H' H0',Same H H'->Ext H0 H H0' H'->R6 K J (if kp=true then Hno else H0') ds->Q J H'
def z9 (tg:Tg) (g:DS->SR):List D->DS->SR
 | [],ρ=>.nx ρ
 | d::ds,ρ=>match S5 tg d ρ with
  | none=>.st
  | some ρ1=>match g ρ1 with
   | .nx ρ2=>z9 tg g ds ρ2
   | .ct ρ2=>z9 tg g ds ρ2
   | .bk ρ2=>.nx ρ2
   | .rt d=>.rt d
   | .er x=>.er x
   | .st=>.st
def r8 (kp:Bool) (m:List Bool) (f:DE->R (List D)) (tg:Tg) (g:DS->SR):DS->SR:=fun ρ=>(f (vis m ρ)).toS fun ds=>z9 tg g ds (j7 kp m ρ)
theorem Ext.base (a:Ext Hc Hb Hc' H) (b:Ext Hc' Hb H0 H'):Ext Hc Hb H0 H':=⟨a.1.trans b.1,b.2.1,fun c h1 h2=>b.2.2 c h1 (a.2.2 c h1 h2)⟩
theorem RS.base (a:Ext Hc Hb Hc' H1) (I:RS K Hc' Hb H0 ρ σ H):RS K Hc Hb H0 ρ σ H:=⟨I.sb,a.base I.ext,I.len,I.im,I.ow,I.ap⟩
theorem RS.self (I:RS K Hc Hb H0 ρ σ H):RS K H0 Hb H0 ρ σ H:=⟨I.sb,⟨Same.refl _,I.ext.2.1,fun _ _ z=>z⟩,I.len,I.im,I.ow,I.ap⟩
theorem Out.base (a:Ext Hc Hb Hc' H) (o:Out K fr Hc' Hb d v H'):Out K fr Hc Hb d v H':=by obtain ⟨s,H0',e,r⟩:=o;exact ⟨s,H0',a.base e,r⟩
theorem RS.sees (I:RS K Hc Hb H0 ρ σ H) (s:Same H H') (e:Ext H0 H H1' H'):RS K Hc Hb H1' ρ σ H':=
 ⟨I.sb.trans s,⟨I.ext.1.trans e.1,e.2.1,fun a h1 h2=>e.2.2 a (I.sb.ne h1) (I.ext.2.2 a h1 h2)⟩,I.len,fun i d q=>by
  obtain ⟨v,h1,h2⟩:=I.im i d q;exact ⟨v,h1,h2.mono e.1⟩,fun i d q=>by
  obtain ⟨a,h1,h2,h3,h4⟩:=I.ow i d q;obtain ⟨u,hu,_⟩:=h4.some;exact ⟨a,h1,e.2.2 a (Af hu) h2,h3,h4.mono e.1 s⟩,I.ap⟩
theorem y2a (sb:Same EX.hb Hb) (I1:RS K Hc Hb Hn ρ σ H1) (it':R6 K J Hn ds) (h:SK K EX fr Hc Hb De (z9 tg g ds ρ)):Zc J (TGd K tg) (TSd K EX fr g) De σ H1:=by
 have ex1:Ext Hc Hb Hn H1:=I1.ext;refine ⟨fun i mm σ H=>mm=ds.length - i/\i<=ds.length/\∃ρ H0,RS K Hn Hb H0 ρ σ H/\SK K EX fr Hc Hb De (z9 tg g (ds.drop i) ρ),⟨ds.length,by simp,Nat.zero_le _,_,Hn,I1.self,h⟩,?_⟩;rintro i mm σ H ⟨rfl,hi,ρ,H0,I2,h⟩;have sn:Same Hn H0:=I2.ext.1;by_cases hlt:i<ds.length
 . have hd:ds[i]?=some ds[i]:=by simp [hlt]
   obtain ⟨hgo,hy⟩:=it'.1 i _ hd H H0 sn I2.ext.2.1;have hdr:ds.drop i=ds[i]::ds.drop (i+1):=List.drop_eq_getElem_cons hlt;rw [hdr] at h;refine .inr ⟨hgo,fun σ' H'=>∃ρ' H0',RS K Hn Hb H0' ρ' σ' H'/\SK K EX fr Hc Hb De (z9 tg g (ds.drop (i+1)) ρ'),fun σ' H' ⟨ρ',H0',q⟩=>⟨ds.length - (i+1),by omega,rfl,hlt,ρ',H0',q⟩,fun x H' y=>?_⟩;obtain ⟨s3,H3,e3,r3⟩:=hy x H' y;have I3:=I2.sees s3 e3;unfold z9 at h;split at h
   . exact h.elim
   . rename_i ρ1 q1;refine ⟨Hn,Hb,H3,ρ,ds[i],ρ1,I3,r3,q1,fun σ' I4=>⟨Hn,Hb,H3,ρ1,sb,I4,?_⟩⟩;cases qg:g ρ1 with
     | nx ρ2=>rw [qg] at h;exact fun σ5 H5 H05 I5=>⟨ρ2,H05,I5,h⟩
     | ct ρ2=>rw [qg] at h;exact fun σ5 H5 H05 I5=>⟨ρ2,H05,I5,h⟩
     | bk ρ2=>rw [qg] at h;exact fun σ5 H5 H05 I5=>h σ5 H5 H05 (I5.base ex1)
     | rt d=>rw [qg] at h;exact fun v H5 o=>h v H5 (o.base ex1)
     | er x=>rw [qg] at h;exact h
     | st=>rw [qg] at h;exact h
 . have e:i=ds.length:=by omega
   subst e;rw [List.drop_length] at h;refine .inl ⟨it'.2 H (sn.trans I2.ext.2.1),?_⟩;exact h σ H H0 (I2.base ex1)
theorem Od (h:TSd K EX fr (r8 kp m f tg g) De σ H):Ol (TId K EX kp f) (TGd K tg) (TSd K EX fr g) De σ H:=by
 obtain ⟨Hc,Hb,H0,ρ,sb,I,h⟩:=h;unfold r8 at h;rw [SK.toS] at h;refine ⟨sb.trans I.sb,vis m ρ,HeOf m ρ σ H0 H,I.heH m,I.re m,h.mono fun ds h J H1 H1' s1 e1 it=>?_⟩;obtain ⟨Hn,I1,tk,eq,hn,sub⟩:=I.frame s1 e1 kp;have it':R6 K J Hn ds:=by
  cases kp with
  | true=>
   rw [ξ rfl] at it
   exact ⟨fun i d q H H1 a b=>it.1 i d q H H1 (fun _ _ z=>nomatch z) b,fun H a=>it.2 H fun _ _ z=>nomatch z⟩
  | false=>rw [ψ η,<-eq rfl] at it;exact it
 exact y2a sb I1 it' h
def E7 (t:DE->R Bool) (g:DS->SR):Nat->DS->SR
 | 0,_=>.st
 | n+1,ρ=>(t (see ρ)).toS fun b=>if b=true then (match g ρ with
  | .nx ρ2=>E7 t g n ρ2
  | .ct ρ2=>E7 t g n ρ2
  | .bk ρ2=>.nx ρ2
  | .rt d=>.rt d
  | .er x=>.er x
  | .st=>.st) else .nx ρ
def P7 (n:Nat) (t:DE->R Bool) (g:DS->SR):DS->SR:=E7 t g n
theorem wx (h:TSd K EX fr (P7 n t g) De σ H):Qv (TTd K EX t) (TSd K EX fr g) De σ H:=by
 obtain ⟨Hc,Hb,H0,ρ,sb,I,h⟩:=h;refine ⟨fun mm σ H=>∃ρ H0,RS K Hc Hb H0 ρ σ H/\SK K EX fr Hc Hb De (E7 t g mm ρ),⟨n,ρ,H0,I,h⟩,?_⟩;rintro mm σ H ⟨ρ,H0,I,h⟩;cases mm with
 | zero=>exact h.elim
 | succ mm=>
  unfold E7 at h
  rw [SK.toS] at h
  refine I.tt sb h fun b h H' I'=>?_
  cases b with
  | false=>exact h σ H' H0 I'
  | true=>
   rw [ξ rfl] at h ⊢
   refine ⟨fun σ' H'=>∃ρ' H0',RS K Hc Hb H0' ρ' σ' H'/\SK K EX fr Hc Hb De (E7 t g mm ρ'),fun σ' H' q=>⟨mm,Nat.lt_succ_self _,q⟩,Hc,Hb,H0,ρ,sb,I',?_⟩
   cases qg:g ρ with
   | nx ρ2=>rw [qg] at h;exact fun σ5 H5 H05 I5=>⟨ρ2,H05,I5,h⟩
   | ct ρ2=>rw [qg] at h;exact fun σ5 H5 H05 I5=>⟨ρ2,H05,I5,h⟩
   | bk ρ2=>rw [qg] at h;exact fun σ5 H5 H05 I5=>h σ5 H5 H05 I5
   | rt d=>rw [qg] at h;exact fun v H5 o=>h v H5 o
   | er x=>rw [qg] at h;exact h
   | st=>rw [qg] at h;exact h
noncomputable def R.noE {α:Type} (r:R α):R α:=match r with
 | .er _=>.st
 | r=>r
theorem Rk.noE {α:Type} {EX EX':Ex->Prop} {r:R α} {k:α->Prop} (h:Rk EX r.noE k):Rk EX' r k:=by
 cases r with
 | ok a=>exact h
 | er x=>exact h.elim
 | st=>exact h
def BD (K:Frag) (bn:D->Option (List D)) (B:V->Hp->(List V->Hp->Prop)->Prop):Prop:=∀(H0 H:Hp) (x:V) (d:D) (ds:List D) (Q:List V->Hp->Prop),Same H0 H->RD K H0 d x->bn d=some ds->(∀vs,RDs K H0 ds vs->Q vs H)->B x H Q
noncomputable def b1:D->Option (List D):=fun d=>some [d]
noncomputable def bT (n:Nat):D->Option (List D)
 | .tup ds=>if ds.length=n then some ds else none
 | _=>none
theorem Yy:BD K b1 cB1:=fun H0 H x d ds Q s r e q=>by simp only [b1,Option.some.injEq] at e;subst e;exact q [x] (.one r)
theorem y2b:BD K (bT n) (cBT n):=fun H0 H x d ds Q s r e q=>by
 cases d<;>simp only [bT] at e<;>first | cases e | skip
 rename_i es;split at e
 . rename_i hl;cases e;simp only [RD] at r;obtain ⟨a,xs,rfl,ha,rs⟩:=r;unfold cBT;simp only [s a _ ha];exact ⟨by rw [<-rs.length];exact hl,q xs rs⟩
 . cases e
noncomputable def sel (ix:List Nat) (ρ:DE):DE:=ix.map fun j=>(ρ[j]?).getD none
def J0 (bn:D->Option (List D)) (t:DE->R Bool) (f:DE->R D) (cs:DE):List D->R (List D)
 | []=>.ok []
 | d::ds=>(R.of (bn d)).bind fun bs=>(t (bs.map some++cs)).noE.bind fun b=>if b=true then (f (bs.map some++cs)).noE.bind fun y=>(J0 bn t f cs ds).bind fun ys=>.ok (y::ys) else J0 bn t f cs ds
def p7 (fi:DE->R (List D)) (bn:D->Option (List D)) (ix:List Nat) (t:DE->R Bool) (f:DE->R D):DE->R D:=fun ρ=>(fi ρ).bind fun ds=>if ds.length<=100000 then (J0 bn t f (sel ix ρ) ds).bind fun ys=>.ok (.lst ys) else .st
theorem RE.sel {ρ:DE} {vs:List V} {ds:List D} (h:RE K H0 ρ σ) (r:RDs K H0 ds vs) (ix:List Nat):RE K H0 (ds.map some++sel ix ρ) (vs.map some++E0 ix σ):=by
 have hl:=r.length;refine ⟨by simp [L2.sel,E0,hl],fun i d e=>?_⟩;by_cases hi:i<ds.length
 . rw [List.getElem?_append_left (by simpa using hi),List.getElem?_map] at e;rw [List.getElem?_append_left (by simpa [<-hl] using hi),List.getElem?_map];cases q:ds[i]? with
   | none=>rw [q] at e;cases e
   | some d'=>
    rw [q] at e;cases e
    obtain ⟨x,h1,h2⟩:=r.get' q
    exact ⟨x,by rw [h1];rfl,h2⟩
 . rw [List.getElem?_append_right (by simpa using hi)] at e;rw [List.getElem?_append_right (by simpa [<-hl] using hi)];simp only [List.length_map] at e ⊢;rw [<-hl];unfold L2.sel at e;unfold E0;rw [List.getElem?_map] at e ⊢;cases q:ix[i - ds.length]? with
   | none=>rw [q] at e;cases e
   | some j=>
    rw [q] at e
    simp only [Option.map_some,Option.some.injEq] at e ⊢
    cases qj:ρ[j]? with
    | none=>rw [qj] at e;cases e
    | some o=>
     rw [qj] at e
     simp only [Option.getD_some] at e
     subst e
     obtain ⟨v,h1,h2⟩:=h.2 j d qj
     exact ⟨v,by rw [h1];rfl,h2⟩
theorem Q6 (h:n<100000):n<sizeLine:=Nat.lt_of_lt_of_le h (by decide)
theorem ww (hW:Same W.hb EX.hb) (hB:BD K bn B) (htt:∀σ H Q,TTd K F0 t σ H Q->tt σ H Q)
  (h:TEd K EX true (p7 fi bn ix t f) σ H Q):P4 (TId K EX kp fi) B ix tt (TEd K W false f) σ H Q:=by
 obtain ⟨sx,ρ,H0,s,e,h⟩:=h
 unfold p7 at h
 rw [Rk.bind] at h
 refine ⟨sx,ρ,H0,s,e,h.mono fun ds h J H1 H1' s1 e1 it D hD=>?_⟩
 split at h
 . rename_i hsz;rw [Rk.bind] at h;have it':R6 K J H1' ds:=by
    cases kp with
    | true=>rw [ξ rfl] at it;exact ⟨fun i d q H H1 a b=>it.1 i d q H H1 (fun _ _ z=>nomatch z) b,fun H a=>it.2 H fun _ _ z=>nomatch z⟩
    | false=>rw [ψ η] at it;exact it
   have e':=e.mono e1.1;have hDn:H1' D=none:=e1.2.1.none hD;refine ⟨fun i mm ys H2=>mm=ds.length - i/\i<=ds.length/\ys.length<=i/\∃acc H2',Same H1 H2/\H2 D=some (.lst ys)/\Ext H1' H1 H2' H2/\H2' D=none/\RDs K H2' acc ys /\
    Rk EX.at (J0 bn t f (L2.sel ix ρ) (ds.drop i)) fun rest=>∀v H',Out K true H0 H (.lst (acc++rest)) v H'->Q v H',⟨ds.length,by simp,Nat.zero_le _,ζ _,[],H1',Same.upd_new hD,i9,(Ext.refl e1.2.1).grow (Same.upd_new hD),hDn,.nil,h⟩,?_⟩
   rintro i mm ys H2 ⟨rfl,hi,hys,acc,H2',s2,hd2,e2,hdn2,r2,h⟩;refine ⟨hd2,?_⟩;by_cases hlt:i<ds.length
   . have hd:ds[i]?=some ds[i]:=by simp [hlt]
     obtain ⟨hgo,hy⟩:=it'.1 i _ hd H2 H2' e2.1 e2.2.1;have hdr:ds.drop i=ds[i]::ds.drop (i+1):=List.drop_eq_getElem_cons hlt;rw [hdr] at h;unfold J0 at h;rw [Rk.bind] at h;obtain ⟨bs,hbs,h⟩:=h.of;rw [Rk.bind] at h;refine .inr ⟨hgo,fun x H3 y=>?_⟩;obtain ⟨s3,H3',e3,r3⟩:=hy x H3 y;refine hB H3' H3 x _ bs _ e3.2.1 r3 hbs fun vs rvs=>?_
     have en:=(e'.mono (e2.1.trans e3.1)).sel rvs ix;have e23:=e2.trans s2 e3;refine htt _ _ _ ⟨F0.same _,_,H3',e3.2.1,en,(Rk.noE h).mono fun b h H4 s4=>?_⟩;have s14:=s2.trans (s3.trans s4);have hd4:H4 D=some (.lst ys):=s4 _ _ (s3 _ _ hd2);have hdn3:H3' D=none:=e3.2.2 D (Af hd2) hdn2;have e14:Ext H1' H1 H3' H4:=e23.grow s4;cases b with
     | false=>
      rw [ψ η] at h
      dsimp only
      rw [ψ η]
      exact ⟨ds.length - (i+1),by lia,rfl,hlt,by lia,acc,H3',s14,hd4,e14,hdn3,r2.mono e3.1,h⟩
     | true=>
      rw [ξ rfl] at h
      dsimp only
      rw [ξ rfl]
      rw [Rk.bind] at h
      refine ⟨hW.trans (sx.trans (s1.trans s14)),_,H3',e14.2.1,en,(Rk.noE h).mono fun y h w H5 o5=>?_⟩
      obtain ⟨s5,H5',e5,r5⟩:=o5.rd
      have hd5:H5 D=some (.lst ys):=s5 _ _ hd4
      have hdn5:H5' D=none:=e5.2.2 D (Af hd4) hdn3
      have e15:=e14.trans s14 e5
      rw [Rk.bind] at h
      refine ⟨hd5,Q6 (by lia),ds.length - (i+1),by lia,rfl,hlt,by rw [θ];show ys.length+1<=i+1;lia,acc++[y],H5',(s14.trans s5).upd_at hD,i9,⟨e15.1,e15.2.1.upd_at hdn5,e15.2.2⟩,hdn5,((r2.mono (e3.1.trans e5.1))).append (.one r5),?_⟩
      exact h.mono fun rest h v H' o=>h v H' (by simpa using o)
   . have ei:i=ds.length:=by lia
     subst ei;rw [List.drop_length] at h;refine .inl ⟨it'.2 H2 (e2.1.trans e2.2.1),h _ H2 ?_⟩;rw [List.append_nil];refine Out.after s1 e1 (.fresh s2 e2 hD hdn2 ?_);simp only [OB];exact ⟨ys,hd2,r2⟩
 . exact h.elim
theorem Hw (hB:BD K bn B) (htt:∀σ H Q,TTd K F0 t σ H Q->tt σ H Q)
 (h:TEd K EX true (p7 fi bn ix t f) σ H Q):P4 (TId K EX kp fi) B ix tt (TEd K F0 false f) σ H Q:=ww (F0.same _) hB htt h
noncomputable def mOf (fr:Bool) (n k:Nat) (g:DS->SR):List D->R D:=fun ds=>if ds.length=n then (match g (ds.map .im++List.replicate k .em) with
 | .rt d=>.ok d
 | .nx _=>if fr=true then .st else .ok .non
 | .er x=>.er x
 | _=>.st) else .st
def XFs (K:Frag) (x:Ex) (od:Option Addr) (H:Hp):Prop:=x.fs=[]\/∃(dx:Addr) (ns:List Int) (ob:Obj),od=some dx/\H dx=some (.frz ob (.xd ((Fx x.cls).zip (ns.map V.int))))/\x.fs=ns.map D.int
def xNm (K:Frag) (mg:Str->Option Value) (E:XK) (x:Ex) (H:Hp):Prop:=∃C,mg (x.cls:Str)=some (.ref C)/\∀od,XFs K x od H->E (.ref C) od H
noncomputable def spD (K:Frag) (mg:Str->Option Value) (fr:Bool) (m:List D->R D) (n:Nat):Sp:=fun vs H Q E=>∃ds H0,Same H0 H/\RDs K H0 ds vs/\ds.length=n/\Rk (XW.at ⟨H,xNm K mg E⟩) (m ds) fun d=>∀v H',Out K fr H0 H d v H'->Q v H'
noncomputable def U6 (sp:Sp) (E:XK) (t:TA):TE:=fun σ H Q=>t σ H fun vs H1=>sp vs H1 Q E
theorem qG {mg:Str->Option Value} {E:XK} {m:List D->R D} {n:Nat} {fs:DE->R (List D)} {Q:VK} (hl:∀ds,ds.length≠n->m ds=.st) (hE:∀x H,EX.p x H->xNm K mg E x H) (h:TEd K EX fr (e8 m fs) σ H Q):U6 (spD K mg fr m n) E (TAd K EX fs) σ H Q:=by
 obtain ⟨sx,ρ,H0,s,e,h⟩:=h;unfold e8 at h;rw [Rk.bind] at h;refine TAd.go sx s e h fun ds h vs H1 H1' s1 e1 r1=>?_
 refine ⟨ds,H1',e1.2.1,r1,?_,?_⟩
 . apply Classical.byContradiction;intro hn;rw [hl ds hn] at h;exact h
 . cases q:m ds with
   | ok d=>rw [q] at h;exact fun v H' o=>h v H' (o.after s1 e1)
   | er x=>rw [q] at h;exact fun H' s'=>hE x H' (h H' ((sx.trans s1).trans s'))
   | st=>rw [q] at h;exact h
theorem Jy (ds:List D) (h:ds.length≠n):mOf fr n k g ds=.st:=by unfold mOf;rw [ψ h]
theorem Uf (s:Same H0 H) (r:RDs K H0 ds vs) (k:Nat):RS K H0 H H0 (ds.map .im++List.replicate k .em) (vs.map some++List.replicate k none) H:=by
 have hl:=r.length;have noow:∀(i:Nat) d,(ds.map Sl.im++List.replicate k Sl.em)[i]?≠some (.ow d):=fun i d q=>by
  rcases List.mem_append.mp (List.mem_of_getElem? q) with z | z
  . obtain ⟨_,_,z⟩:=List.mem_map.mp z;cases z
  . have:=(List.mem_replicate.mp z).2;cases this
 refine ⟨Same.refl _,.refl s,by simp [hl],fun i d q=>?_,fun i d q=>absurd q (noow i d),fun i j d e a q=>absurd q (noow i d)⟩;by_cases hi:i<ds.length
 . rw [List.getElem?_append_left (by simpa using hi),List.getElem?_map] at q;rw [List.getElem?_append_left (by simpa [<-hl] using hi),List.getElem?_map];cases qd:ds[i]? with
   | none=>rw [qd] at q;cases q
   | some d'=>
    rw [qd] at q
    simp only [Option.map_some,Option.some.injEq,Sl.im.injEq] at q
    subst q
    obtain ⟨x,h1,h2⟩:=r.get' qd
    exact ⟨x,by rw [h1];rfl,h2⟩
 . rw [List.getElem?_append_right (by simpa using hi)] at q;have:=(List.mem_replicate.mp (List.mem_of_getElem? q)).2;cases this
theorem qF (h:spD K mg fr (mOf fr n k g) n vs H Q E) :
  TSd K ⟨H,xNm K mg E⟩ fr g { nx:=fun _ H'=>Q .non H',rt:=Q } (vs.map some++List.replicate k none) H:=by
 obtain ⟨ds,H0,s,r,hn,h⟩:=h
 refine ⟨H0,H,H0,_,Same.refl _,Uf s r k,?_⟩
 unfold mOf at h
 rw [ξ hn] at h
 cases q:g (ds.map .im++List.replicate k .em) with
 | nx ρ=>
  rw [q] at h
  cases fr with
  | true=>exact h.elim
  | false=>exact fun σ H' H0' I=>h _ H' (.val I.sb I.ext (by simp only [RD]))
 | rt d=>rw [q] at h;exact h
 | er x=>rw [q] at h;exact h
 | bk ρ=>rw [q] at h;exact h.elim
 | ct ρ=>rw [q] at h;exact h.elim
 | st=>rw [q] at h;exact h.elim
end
structure Flt {α:Type} (t:Sem α):Prop where
 go:∀{M:Model} {Γ:PySem.Ctx} {Q Q':α->Pos->Shared->Prop} {E E':Value->Pos->Shared->Prop} {p:Pos} {s:Shared},
 t.wp M Γ Q E p s->t.wp M Γ Q' E' p s->t.wp M Γ (fun a p s=>Q a p s/\Q' a p s) (fun a p s=>E a p s/\E' a p s) p s
theorem Flt.bind (h:Flt t) (k:∀a,Flt (f a)):Flt (t >>= f):=by refine ⟨fun x y=>?_⟩;rw [Sem.wp_bind'] at x y ⊢;exact Sem.wp_mono _ _ _ (fun a _ _ z=>(k a).go z.1 z.2) (fun _ _ _ z=>z) _ _ (h.go x y)
theorem Flt.pure (a:α):Flt (Pure.pure a:Sem α):=⟨fun x y=>⟨x,y⟩⟩
theorem Flt.uns (w:String):Flt (unsupported w:Sem α):=⟨fun x _=>x.elim⟩
theorem Flt.stack:Flt PySem.stack:=⟨fun x y=>⟨x,y⟩⟩
theorem Flt.alloc (o:Obj):Flt (PySem.alloc o):=⟨fun x y=>⟨x,y⟩⟩
theorem Flt.update (a:Addr) (f:Obj->Obj):Flt (PySem.update a f):=⟨fun x y=>⟨x.1,x.2,y.2⟩⟩
theorem Flt.load (a:Addr):Flt (PySem.load a):=⟨fun ⟨o,e,x⟩ ⟨o',e',y⟩=>by rw [e] at e';cases e';exact ⟨o,e,x,y⟩⟩
theorem Flt.cells (v:Value):Flt (fieldsOf v):=by cases v<;>first | exact .uns _ | exact .bind (.load _) fun o=>by split<;>first | exact .pure _ | exact .uns _
theorem Flt.field (v:Value) (i:Nat):Flt (PySem.field v i):=.bind (.cells v) fun vs=>by split<;>first | exact .pure _ | exact .uns _
theorem Flt.put (v:Value) (i:Nat) (x:Value):Flt (setField v i x):=by cases v<;>first | exact .uns _ | exact .bind (.load _) fun o=>by split<;>first | exact .uns _ | (split<;>first | exact .update _ _ | exact .uns _)
theorem Flt.flight (e:Value) (f:Option Addr):Flt (setFlight e f):=.bind (.field e 1) fun tb=>by split<;>first | exact .put _ _ _ | exact .pure _
theorem Flt.ready:∀l:List Env,Flt (readyFrames l)
 | []=>.pure _
 | env::outer=>by
  unfold readyFrames;split<;>first | exact .uns _ | skip
  refine .bind (.load _) fun o=>?_
  split<;>first | exact .pure _ | skip
  refine .bind ?_ fun b=>.bind ?_ fun v=>.bind (.update _ _) fun _=>Flt.ready outer
  . unfold behindIsImport;split<;>first | exact .pure _ | skip
    split<;>first | exact .pure _ | exact .bind (.field _ _) fun _=>.pure _
  . unfold keptBack;split<;>first | exact .pure _ | skip
    split<;>first | exact .pure _ | exact .bind (.bind .stack fun _=>.pure _) fun _=>.pure _
theorem Flt.frame (env:Env):Flt (frameOf env):=.bind (.bind .stack fun _=>.pure _) fun es=>.bind (by
 unfold frameObject;split
 . exact .pure _
 . exact .bind (.ready _) fun _=>.pure _) fun f=>by split<;>first | exact .pure _ | exact .uns _
theorem Flt.fields (vs:List Value):Flt (newFields "traceback" vs):=by
 have h:Flt (newObjAsIs (.type "traceback") (.fields vs.toArray)):=.bind (.alloc _) fun a=>.pure _
 unfold newFields newObj;dsimp only;split
 . exact .bind (.uns _) fun _=>h
 . exact h
theorem Flt.entry (env:Env) (e head:Value) (L:Addr) (b:Bool):Flt (do let a <-frameOf env;let pl <-entryPlaceOf L b;let b <-EntryCells.newEntry head a .none (rawInt L) .none pl;setField e 1 b):=
 .bind (.frame env) fun _=>.bind (.bind .stack fun acts=>by split<;>exact .pure _) fun _=>.bind (.fields _) fun _=>.put _ _ _
theorem Flt.note (e:Value) (env:Env):Flt (noteFrame e env):=by
 unfold noteFrame;split<;>first | exact .uns _ | skip
 refine .bind (.field _ _) fun head=>?_
 split
 . refine .bind (.field _ _) fun x=>?_
   split
   . exact .pure _
   . exact .bind (.put _ _ _) fun _=>.entry _ _ _ _ _
 . exact .entry _ _ _ _ _
theorem Eg (f:Flt t) (h:wpAny M A t Q E s) (k:wpAny M A t Q' E' s):wpAny M A t (fun a s=>Q a s/\Q' a s) (fun a s=>E a s/\E' a s) s:=
 fun Γ p hΓ=>f.go (h Γ p hΓ) (k Γ p hΓ)
section
variable {M:Model} {A:Around} {E:Value->Shared->Prop} {s:Shared} {base:Heap} {env:Env} {outer:List Env} {L e:Addr} {cls a0 fl:Value} {od:Option Addr}
def l9 (e:Addr) (od:Option Addr) (h:Heap):Prop:=∀o,h.get? e=some o->o.dict=od
theorem xP (o:Obj) (f:Array Value->Array Value):(Obj.mapFields f o).dict=o.dict:=by unfold Obj.mapFields;split<;>rfl
theorem Ku (d:l9 e od h) (hb:∃o,h.get? b=some o/\∃vs,o.data=.fields vs):l9 e od (h.update b (Obj.mapFields f)):=by
 intro o ho;by_cases q:b=e
 . subst q;obtain ⟨ob,h1,vs,h2⟩:=hb;rw [Heap.get?_update_self _ h1 (Obj.isFreed_of_fields (Obj.data_mapFields h2 f))] at ho;cases ho;rw [xP];exact d _ h1
 . rw [Heap.get?_update_other _ _ q] at ho;exact d o ho
theorem Sw (T:Addr):(Value.ref T != Value.none)=true:=by simp
theorem qE (L:Addr):(Value.none==rawInt L)=false:=by simp [rawInt]
theorem Wv (ht:s.heap.TracedAtW base e cls a0 fl) (d:l9 e od s.heap):wpAny M A (setFlight (.ref e) none) (fun _ s'=>l9 e od s'.heap) E s:=by obtain ⟨oe,vs,T,oT,ts,he,-,hd,h1,-,-,hT,hdT,h3⟩:=ht;have in3:=(Array.getElem?_eq_some_iff.mp h3).1;unfold setFlight;exact χ (wpAny_field he hd h1 (by rw [ξ (Sw T)];exact wpAny_setField hT hdT in3 (Ku d ⟨_,hT,_,hdT⟩)))
theorem We (hfr:A.frames=some (env::outer)) (hl:s.heap.FunFrames base (env::outer)) (hf:env.frame=some L) (he:s.heap.get? e=some oe) (hd:oe.data=.fields vs) (hsz:1<vs.size) (d:l9 e od s.heap) :
  wpAny M A (do let a <-frameOf env;let pl <-entryPlaceOf L hadNext;let b <-EntryCells.newEntry head a .none (rawInt L) .none pl;setField (.ref e) 1 b) (fun _ s'=>l9 e od s'.heap) E s:=by
 have nf:e∉(env::outer).filterMap (·.frame):=fun hm=>by obtain ⟨_,o,ho,hnf⟩:=hl.mem hm;rw [he] at ho;cases ho;exact hnf vs hd
 refine χ (wpAny_frameOf_fun hfr hl hf fun h1 hs=>χ (wpAny_entryPlaceOf fun pl hpl=>?_))
 unfold EntryCells.newEntry newFields
 refine χ (wpAny_newObj_type ?_ (hpl.sizeOk5 _ _ _ _ _))
 have he1:h1.get? e=some oe:=(hs.2.1 e nf).trans he
 have he2:=Ψ (h:=h1) { cls:=.type "traceback",dict:=none,data:=.fields ([head,.ref L,.none,rawInt L,.none]++(if pl.isEmpty then List.replicate 6 Value.none else pl)).toArray } he1
 refine wpAny_setField he2 hd hsz (Ku (fun o ho=>?_) ⟨_,he2,_,hd⟩)
 rw [he2] at ho;cases ho
 exact d _ he
theorem yy (hfr:A.frames=some (env::outer)) (hl:s.heap.FunFrames base (env::outer)) (hf:env.frame=some L) (ht:s.heap.TracedW base e cls a0) (d:l9 e od s.heap) :
  wpAny M A (noteFrame (.ref e) env) (fun _ s'=>l9 e od s'.heap) E s:=by
 obtain ⟨oe,vs,T,oT,ts,he,-,hd,h1,-,hTe,hT,hdT,h3⟩:=ht
 have in1:=(Array.getElem?_eq_some_iff.mp h1).1
 have in3:=(Array.getElem?_eq_some_iff.mp h3).1
 have off:∀b,T≠b->(s.heap.update T (Obj.mapFields (·.setIfInBounds 3 Value.none))).get? b=s.heap.get? b:=fun b hb=>Heap.get?_update_other _ _ hb
 have fr:(s.heap.update T (Obj.mapFields (·.setIfInBounds 3 Value.none))).FunFrames base (env::outer):=hl.of_keeps fun b o hb nf=>⟨o,(off b fun z=>by rw [<-z,hT] at hb;cases hb;exact nf ts hdT).trans hb,rfl⟩
 unfold noteFrame
 simp only [hf]
 exact χ (wpAny_field he hd h1 (by rw [ξ (Sw T)];exact χ (wpAny_field hT hdT h3 (by rw [ψ (by rw [qE];exact η)];exact χ (wpAny_setField hT hdT in3 (We hfr fr hf ((off e hTe).trans he) hd in1 (Ku d ⟨_,hT,_,hdT⟩)))))))
end
section
variable {M:Model} {A:Around} {E:Value->Shared->Prop} {s:Shared} {base:Heap} {env:Env} {outer:List Env} {L e:Addr} {cls a0:Value} {od:Option Addr} {Q:Unit->Shared->Prop}
theorem Jx (hh:Heap.HeldW base (env::outer) e cls a0 L s.heap) (d:l9 e od s.heap) (hQ:∀h',Heap.FlyingW base (env::outer) e cls a0 h'->s.heap.UpToSlots h'->l9 e od h'->Q () { s with heap:=h' }):wpAny M A (setFlight (.ref e) none) Q E s:=
 wpAny_mono (Eg (E:=E) (E':=E) (.flight _ _) (wpAny_landsW hh (Q:=fun _ s'=>∃h',s'={ s with heap:=h' }/\Heap.FlyingW base (env::outer) e cls a0 h'/\s.heap.UpToSlots h') fun h' f u=>⟨h',rfl,f,u⟩) (Wv hh.2.2.2 d))
  (fun _ s' ⟨⟨h',e1,f,u⟩,d'⟩=>by subst e1;exact hQ h' f u d') fun _ _ z=>z.1
theorem Sv (hfr:A.frames=some (env::outer)) (hf:env.frame=some L) (hfl:Heap.FlyingW base (env::outer) e cls a0 s.heap) (d:l9 e od s.heap)
  (hQ:∀h',Heap.HeldW base (env::outer) e cls a0 L h'->s.heap.UpToSlots h'->l9 e od h'->Q () { s with heap:=h' }):wpAny M A (noteFrame (.ref e) env) Q E s:=
 wpAny_mono (Eg (E:=E) (E':=E) (.note _ _) (wpAny_looks_onW hfr hf hfl (Q:=fun _ s'=>∃h',s'={ s with heap:=h' }/\Heap.HeldW base (env::outer) e cls a0 L h'/\s.heap.UpToSlots h') fun h' f u=>⟨h',rfl,f,u⟩) (yy hfr hfl.2.2.1 hf hfl.2.2.2 d))
  (fun _ s' ⟨⟨h',e1,f,u⟩,d'⟩=>by subst e1;exact hQ h' f u d') fun _ _ z=>z.1
theorem xO (hfr:A.frames=some (env::outer)) (hf:env.frame=some L) (hfl:Heap.FlyingW base (env::outer) e cls a0 s.heap) (d:l9 e od s.heap)
  (hQ:∀h',Heap.FlyingW base outer e cls a0 h'->s.heap.UpToSlots h'->l9 e od h'->Q () { s with heap:=h' }):wpAny M A (leaving env (.ref e)) Q E s:=by
 unfold leaving
 refine χ (Sv hfr hf hfl d fun h1 hh u1 d1=>Jx (s:={ s with heap:=h1 }) hh d1 fun h2 f u2 d2=>hQ h2 ?_ (u1.trans u2) d2)
 obtain ⟨k1,k2,⟨_,_,k3⟩,k4⟩:=f
 exact ⟨k1,k2,k3,k4⟩
theorem wv (hfr:A.frames=some (env::outer)) (hl:s.heap.FunFrames base (env::outer)) (hf:env.frame=some L) (he:s.heap.get? e=some oe) (hkb:base.StaysIn s.heap) (hen:base.get? e=none) (hd:oe.data=.fields vs) (h1:vs[1]?=some .none) (h0:vs[0]?=some a0) (d:l9 e od s.heap)
  (hQ:∀h',Heap.FlyingW base outer e oe.cls a0 h'->s.heap.UpToSlots h'->l9 e od h'->Q () { s with heap:=h' }):wpAny M A (leaving env (.ref e)) Q E s:=by
 have hsz:=(Array.getElem?_eq_some_iff.mp h1).1
 unfold leaving noteFrame
 simp only [hf]
 refine χ (χ (wpAny_field he hd h1 ?_))
 rw [ψ (by decide)]
 refine wpAny_mono (Eg (E:=E) (E':=E) (.entry _ _ _ _ _) (wpAny_entryW hfr hl hf he hkb hen hd hsz h0 (Q:=fun _ s'=>∃h',s'={ s with heap:=h' }/\Heap.NotedW base (env::outer) e oe.cls a0 (rawInt L) s.heap h') fun h' n=>⟨h',rfl,n⟩) (We hfr hl hf he hd hsz d)) (fun _ s' z=>?_) fun _ _ z=>z.1
 obtain ⟨⟨h',e1,n1,n2,n3,n4⟩,d1⟩:=z
 subst e1
 refine Jx (s:={ s with heap:=h' }) ⟨n1,hen,n2,n3⟩ d1 fun h2 f u2 d2=>hQ h2 ?_ (Heap.UpToSlots.trans n4 u2) d2
 obtain ⟨k1,k2,⟨_,_,k3⟩,k4⟩:=f
 exact ⟨k1,k2,k3,k4⟩
end
theorem ObjOk.there (x:ObjOk P w H h a o):∃ob,h.get? a=some ob:=by
 induction o with
 | lst xs=>obtain ⟨_,_,_,_,e⟩:=x;exact ⟨_,e⟩
 | tup xs=>obtain ⟨_,_,_,ob,e,_⟩:=x;exact ⟨_,e⟩
 | dK kvs=>obtain ⟨_,_,_,_,o,_,_,e,_⟩:=x;exact ⟨_,e⟩
 | dT kvs=>obtain ⟨_,_,_,_,o,_,_,e,_⟩:=x;exact ⟨_,e⟩
 | set S n=>obtain ⟨o,_,_,_,e,_⟩:=x;exact ⟨_,e⟩
 | ins C dx fs=>obtain ⟨_,_,_,e,_⟩:=x;exact ⟨_,e⟩
 | own y=>exact x
 | xd fs=>obtain ⟨_,⟨_,_,_,e,_⟩,_⟩:=x;exact ⟨_,e⟩
 | rng lo hi=>obtain ⟨_,_,_,e⟩:=x;exact ⟨_,e⟩
 | frz ob u ih=>exact ⟨_,x.1⟩
 | tbl ps=>exact ⟨_,x⟩
 | ctb q=>obtain ⟨_,e,_⟩:=x;exact ⟨_,e⟩
 | met f y=>exact ⟨_,x⟩
 | ext φ=>exact x.2.1
theorem HOk.none (x:HOk P w H h) (e:h.get? a=Option.none):H a=Option.none:=by
 cases q:H a with
 | none=>rfl
 | some o=>
  obtain ⟨ob,z⟩:=(x a o q).there
  rw [e] at z;cases z
def Fly (h0:Heap) (H':Hp) (C a:Addr) (od:Option Addr) (h:Heap):Prop:=∃oe vs T oT ts a0,h.get? a=some oe/\oe.cls=.ref C/\vs[0]?=some a0/\oe.data=.fields vs/\vs[1]?=some (.ref T)/\T≠a/\h.get? T=some oT/\oT.data=.fields ts/\ts[3]?=some Value.none /\
 h0.get? a=none/\h0.get? T=none/\H' a=none/\H' T=none/\oe.dict=od/\∀dx,od=some dx->h0.get? dx=none
structure XOut (P:Program) (w:World) (outer:List Env) (H:Hp) (s:Shared) (C a:Addr) (od:Option Addr) (H':Hp) (s':Shared):Prop where
 os:s'.os=s.os
 bare:AllBare s'.gens
 un:Un (frs outer) [] H H' s.heap s'.heap
 hok:HOk P w H' s'.heap
 fly:Fly s.heap H' C a od s'.heap
noncomputable def CX1 (P:Program) (w:World):CXT:=fun outer H s E e s'=>∃C a od H',e=.ref a/\XOut P w outer H s C a od H' s'/\E (.ref C) od H'
theorem Uw (e:(hideAll h l).get? b=none):b∈l\/h.get? b=none:=by
 by_cases hb:b∈l
 . exact .inl hb
 . cases q:h.get? b with
   | none=>exact .inr rfl
   | some o=>rw [hideAll_get l q hb] at e;cases e
section
variable {X:Cx} {pins:List (Addr×Obj)} {σ:List (Option V)} {H1 H2:Hp} {s1 s2:Shared} {h' B:Heap} {Z:List Addr} {C a:Addr} {a0:Value} {od:Option Addr}
theorem Inv.stack2 (I:Inv X pins σ H1 s1) (un:Un (frs X.stack) [] H1 H2 s1.heap s2.heap):s2.heap.FunFrames X.base X.stack:=by
 have all:∀(l:List Env),(∀b∈frs l,b∈frs X.stack)->s1.heap.FunFrames X.base l->s2.heap.FunFrames X.base l:=by
  intro l;induction l with
  | nil=>intro _ _;trivial
  | cons env r ih=>
   intro hs hl
   obtain ⟨hk,⟨L,o,hf,hn,ho,hd⟩,hr⟩:=hl
   have hL:L∈frs X.stack:=hs L (by unfold frs;rw [List.filterMap_cons,hf];exact List.mem_cons_self)
   obtain ⟨sl,e⟩:=un.slot L o ho (I.stkFree L hL) hL (by simp)
   exact ⟨hk,⟨L,_,hf,hn,e,hd⟩,ih (fun b hb=>hs b (by unfold frs;rw [List.filterMap_cons,hf];exact List.mem_cons_of_mem _ hb)) hr⟩
 exact all X.stack (fun _ hb=>hb) I.stack
theorem Wd (I:Inv X pins σ H1 s1) (hst:X.stack=X.env::X.outer) (hex:X.ex=[]) (hos:s2.os=s1.os) (hbare:AllBare s2.gens) (un:Un (frs X.stack) [] H1 H2 s1.heap s2.heap) (hok:HOk X.prog X.w H2 s2.heap)
  (hZ:∀b∈Z,s1.heap.get? b=none/\H2 b=none) (ha:s1.heap.get? a=none) (hHa:H2 a=none) (keep:∀b o,s2.heap.get? b=some o->b∉Z->b∉frs X.stack->h'.get? b=some o)
  (up:s2.heap.UpToSlots h') (hB:∀b,B.get? b=none->b∈frs X.stack\/(s1.heap.get? b=none/\H2 b=none)) (hfl:Heap.FlyingW B X.outer a (.ref C) a0 h') (hdc:l9 a od h') (hnd:∀dx,od=some dx->s1.heap.get? dx=none) :
  XOut X.prog X.w X.outer X.H₀ X.s₀ C a od H2 { s2 with heap:=h' }:=by
 have base:Un X.fs [] X.H₀ H1 X.s₀.heap s1.heap:=hex ▸ I.base
 have F2:=I.stack2 un
 have sub:∀b∈frs X.outer,b∈frs X.stack:=fun b hb=>by
  rw [hst];unfold frs;cases q:X.env.frame with
  | none=>rw [List.filterMap_cons,q];exact hb
  | some L=>rw [List.filterMap_cons,q];exact List.mem_cons_of_mem _ hb
 have neL:∀b o,X.s₀.heap.get? b=some o->b≠X.env.locals:=fun b o e=>Nat.ne_of_lt (Nat.lt_of_lt_of_le (Φ e) I.ok.above)
 have nost:∀b o,X.s₀.heap.get? b=some o->b∉frs X.outer->b∉frs X.stack:=fun b o e hb z=>(List.mem_cons.mp (I.stkSub b z)).elim (neL b o e) hb
 have fresh0:∀b,s1.heap.get? b=none->X.s₀.heap.get? b=none:=fun b e=>by
  cases q:X.s₀.heap.get? b with
  | none=>rfl
  | some o=>
   obtain ⟨o',z⟩:=base.there b o q (by simp)
   rw [e] at z;cases z
 have noZ:∀b o,X.s₀.heap.get? b=some o->b∉Z:=fun b o e hb=>by rw [fresh0 b (hZ b hb).1] at e;cases e
 have frFree:∀b∈frs X.stack,H2 b=none:=fun b hb=>by obtain ⟨_,o,ho,_⟩:=I.stack.mem hb;exact un.free b o ho (I.stkFree b hb) (by simp)
 have slotF:∀b∈frs X.stack,∀o,s2.heap.get? b=some o->∃sl,h'.get? b=some { o with slots:=sl }:=fun b hb o e=>by obtain ⟨_,o',ho',hd⟩:=F2.mem hb;rw [e] at ho';cases ho';exact up b o e hd
 refine ⟨by show s2.os=_;rw [hos,I.os],hbare,⟨fun b o e n hb _=>?_,fun b o e n hb _=>?_,fun b o e n _=>?_,fun b o e _=>?_,fun b xs e=>un.tups b xs (base.tups b xs e),fun b o u e=>un.frzs b o u (base.frzs b o u e),fun b ps e=>?_⟩,fun b o e=>?_,?_⟩
 . exact keep b o (un.keep b o (base.keep b o e n hb (by simp)) (base.free b o e n (by simp)) (nost b o e hb) (by simp)) (noZ b o e) (nost b o e hb)
 . obtain ⟨sl,e1⟩:=base.slot b o e n hb (by simp);obtain ⟨sl2,e2⟩:=un.slot b _ e1 (base.free b o e n (by simp)) (sub b hb) (by simp);obtain ⟨sl3,e3⟩:=slotF b (sub b hb) _ e2;exact ⟨sl3,e3⟩
 . obtain ⟨o1,e1⟩:=base.there b o e (by simp);exact un.free b o1 e1 (base.free b o e n (by simp)) (by simp)
 . obtain ⟨o1,e1⟩:=base.there b o e (by simp);obtain ⟨o2,e2⟩:=un.there b o1 e1 (by simp);by_cases hb:b∈frs X.stack
   . obtain ⟨sl,e3⟩:=slotF b hb _ e2;exact ⟨_,e3⟩
   . exact ⟨o2,keep b o2 e2 (noZ b o e) hb⟩
 . obtain ⟨m1,e1⟩:=base.tbls b ps e;obtain ⟨m2,e2⟩:=un.tbls b _ e1;exact ⟨m1++m2,by rw [e2,Array.append_assoc]⟩
 . refine (hok b o e).stay (fun c v hc q=>keep c v q (fun hz=>?_) fun hf=>?_) (fun _ q=>q) fun _ _ q=>q
   . have:=(hZ c hz).2;rcases hc with rfl | hc
     . rw [e] at this;cases this
     . rw [hc] at this;cases this
   . have:=frFree c hf;rcases hc with rfl | hc
     . rw [e] at this;cases this
     . rw [hc] at this;cases this
 . obtain ⟨_,_,_,oe,vs,T,oT,ts,he,⟨hc,h0⟩,hd,h1,hnT,hTe,hT,hdT,h3⟩:=hfl;have hTn:s1.heap.get? T=none/\H2 T=none:=by
    rcases hB T hnT with z | z
    . obtain ⟨_,o',ho',hd'⟩:=F2.mem z;obtain ⟨sl,e3⟩:=slotF T z o' ho';rw [hT] at e3;cases e3;exact absurd hdT (hd' ts)
    . exact z
   exact ⟨oe,vs,T,oT,ts,a0,he,hc,h0,hd,h1,hTe,hT,hdT,h3,fresh0 a ha,fresh0 T hTn.1,hHa,hTn.2,hdc _ he,fun dx e=>fresh0 dx (hnd dx e)⟩
theorem xN (I:Inv X pins σ H1 s1) (hst:X.stack=X.env::X.outer) (hex:X.ex=[]) (hf:X.env.frame=some X.env.locals) (x:XOut X.prog X.w X.stack H1 s1 C a od H2 s2)
  (h:∀s',XOut X.prog X.w X.outer X.H₀ X.s₀ C a od H2 s'->Q () s'):wpAny (model X.prog X.w) X.A (leaving X.env (.ref a)) Q E s2:=by
 obtain ⟨oe,vs,T,oT,ts,a0,he,hc,h0,hd,h1,hTe,hT,hdT,h3,na,nT,ha,hHT,hod,hnd⟩:=id x.fly
 have F2:=I.stack2 x.un
 have hin:∀env∈X.stack,∀b,env.frame=some b->b∈a::T::frs X.stack:=fun env he b hb=>List.mem_cons_of_mem _ (List.mem_cons_of_mem _ (List.mem_filterMap.mpr ⟨env,he,hb⟩))
 have hfr:X.A.frames=some (X.env::X.outer):=by rw [<-hst];exact I.ok.frames
 refine xO (od:=od) (base:=hideAll s2.heap (a::T::frs X.stack)) (cls:=.ref C) (a0:=a0) hfr hf ⟨fun b o q=>of_hideAll _ q,hideAll_none _ (.head _),hst ▸ PySem.W.funFrames_hide F2 hin,?_⟩ (fun o ho=>by rw [he] at ho;cases ho;exact hod) fun h' hfl up hdc=>h _ (Wd (Z:=[a,T]) I hst hex x.os x.bare x.un x.hok (fun b hb=>?_) na ha (fun b o q hz hfs=>hfl.1 b o (hideAll_get _ q ?_)) up (fun b q=>?_) hfl hdc hnd)
 . exact ⟨oe,vs,T,oT,ts,he,⟨hc,h0⟩,hd,h1,hideAll_none _ (.tail _ (.head _)),hTe,hT,hdT,h3⟩
 . rcases List.mem_cons.mp hb with rfl | hb
   . exact ⟨na,ha⟩
   . have:b=T:=by simpa using hb
     subst this;exact ⟨nT,hHT⟩
 . intro z;rcases List.mem_cons.mp z with rfl | z
   . exact hz (.head _)
   . rcases List.mem_cons.mp z with rfl | z
     . exact hz (.tail _ (.head _))
     . exact hfs z
 . rcases Uw q with z | z
   . rcases List.mem_cons.mp z with rfl | z
     . exact .inr ⟨na,ha⟩
     . rcases List.mem_cons.mp z with rfl | z
       . exact .inr ⟨nT,hHT⟩
       . exact .inl z
   . refine .inr ⟨?_,x.hok.none z⟩;cases q1:s1.heap.get? b with
     | none=>rfl
     | some o=>
      obtain ⟨o',e'⟩:=x.un.there b o q1 (by simp)
      rw [z] at e';cases e'
structure MadeX (h h':Heap) (e C:Addr) (od:Option Addr):Prop where
 new:h.get? e=none
 newd:∀dx,od=some dx->h.get? dx=none
 there:∃oe vs a0,h'.get? e=some oe/\oe.cls=.ref C/\oe.dict=od/\oe.data=.fields vs/\vs[0]?=some a0/\vs[1]?=some .none
theorem MadeX.of (x:Heap.MadeExcOf h h' e (.ref C) args):MadeX h h' e C none:=by obtain ⟨t,he,_,_⟩:=x.there;exact ⟨x.new,(fun _ z=>nomatch z),_,_,_,he,rfl,rfl,rfl,rfl,rfl⟩
theorem zg (I:Inv X pins σ H1 s1) (hst:X.stack=X.env::X.outer) (hex:X.ex=[]) (hf:X.env.frame=some X.env.locals) (hx:MadeX s1.heap s2.heap a C od) (hok:HOk X.prog X.w H2 s2.heap) (un:Un (frs X.stack) [] H1 H2 s1.heap s2.heap) (hHa:H2 a=none) (hos:s2.os=s1.os) (hbare:AllBare s2.gens)
  (h:∀s',XOut X.prog X.w X.outer X.H₀ X.s₀ C a od H2 s'->Q () s'):wpAny (model X.prog X.w) X.A (leaving X.env (.ref a)) Q E s2:=by
 have hin:∀env∈X.stack,∀b,env.frame=some b->b∈a::frs X.stack:=fun env he b hb=>List.mem_cons_of_mem _ (List.mem_filterMap.mpr ⟨env,he,hb⟩)
 have hfr:X.A.frames=some (X.env::X.outer):=by rw [<-hst];exact I.ok.frames
 have F2:=I.stack2 un
 obtain ⟨oe,vs,a0,he,hc,hod,hd,h0,h1⟩:=hx.there
 refine wv (od:=od) (base:=hideAll s2.heap (a::frs X.stack)) hfr (hst ▸ PySem.W.funFrames_hide F2 hin) hf he (fun b o q=>of_hideAll _ q) (hideAll_none _ (.head _)) hd h1 h0 (fun o ho=>by rw [he] at ho;cases ho;exact hod) fun h' hfl up hdc=>h _ ?_
 rw [hc] at hfl
 refine Wd (B:=hideAll s2.heap (a::frs X.stack)) (Z:=[a]) I hst hex hos hbare un hok (fun b hb=>?_) hx.new hHa (fun b o q hz hfs=>hfl.1 b o (hideAll_get _ q ?_)) up (fun b q=>?_) hfl hdc hx.newd
 . obtain rfl:b=a:=by simpa using hb
   exact ⟨hx.new,hHa⟩
 . intro z;rcases List.mem_cons.mp z with rfl | z
   . exact hz (.head _)
   . exact hfs z
 . rcases Uw q with z | z
   . rcases List.mem_cons.mp z with rfl | z
     . exact .inr ⟨hx.new,hHa⟩
     . exact .inl z
   . refine .inr ⟨?_,hok.none z⟩;cases q1:s1.heap.get? b with
     | none=>rfl
     | some o=>
      obtain ⟨o',e'⟩:=un.there b o q1 (by simp)
      rw [z] at e';cases e'
end
noncomputable def eOf (K:Frag) (EX:XW) (mg:Str->Option Value):XK:=fun cv od H=>∃x:Ex,EX.p x H/\mg (x.cls:Str)=some cv/\XFs K x od H
structure Lnd (X:Cx) (EX:XW):Prop where
 nm:∀x H,EX.p x H->∃C,X.mg (x.cls:Str)=some (.ref C)
 on:Z3 (CX1 X.prog X.w) X (eOf X.K EX X.mg)
 md:∀(pins:List (Addr×Obj)) (σ:St) (H H2:Hp) (s:Shared) (a C:Addr) (od:Option Addr) (s':Shared) (x:Ex),Inv X pins σ H s->MadeX s.heap s'.heap a C od->HOk X.prog X.w H2 s'.heap->Un (frs X.stack) [] H H2 s.heap s'.heap->H2 a=none->s'.os=s.os->AllBare s'.gens->X.mg (x.cls:Str)=some (.ref C)->EX.p x H2->XFs X.K x od H2->X.xe (.ref a) s'
theorem Fq:Lnd X F0:=⟨fun _ _ z=>z.elim,fun _ _ _ _ _ _ _ ⟨_,_,_,_,_,_,_,z,_⟩=>z.elim,fun _ _ _ _ _ _ _ _ _ _ _ _ _ _ _ _ _ _ z _=>z.elim⟩
theorem i3 {P:Program} {w:World} {K:Frag} {mg:Str->Option Value} {base:Heap} {N:List Str} {qual:Str} {sc:Scope} {f:Addr} {cdv:Value} {A:Around} {outer:List Env} {s:Shared} {H:Hp} {E:XK} :
  Lnd (x5 (CX1 P w) P w K mg base N qual sc f cdv A outer s H E) ⟨H,xNm K mg E⟩:=by
 refine ⟨fun x H ⟨C,hC,_⟩=>⟨C,hC⟩,?_,?_⟩
 . rintro pins σ H1 s1 e s' I ⟨C,a,od,H',rfl,xo,x,⟨C',hC',hE⟩,hmg,hx⟩;have hmg:mg (x.cls:Str)=some (.ref C):=hmg;rw [hC'] at hmg;cases hmg;exact xN I rfl rfl rfl xo fun s'' y=>⟨_,a,od,H',rfl,y,hE od hx⟩
 . rintro pins σ H1 H2 s1 a C od s' x I hx hok un hHa ho hb hmg ⟨C',hC',hE⟩ hf;have hmg:mg (x.cls:Str)=some (.ref C):=hmg;rw [hC'] at hmg;cases hmg;exact zg I rfl rfl rfl hx hok un hHa ho hb fun s'' y=>⟨_,a,od,H2,rfl,y,hE od hf⟩
def i0 (P:Program) (w:World) (K:Frag) (mg:Str->Option Value) (base:Heap) (x:Str) (ps:List Str) (k:Nat) (sp:Sp):Prop:=
 ∃f fd,FnOk P w K mg base (CX1 P w) k f fd ps sp/\Binds K fd ps []/\mg x=some (.ref f)/\keepIn K (.ref f)=true
section
variable {X:Cx} {x:Str} {p pos:Pos} {e:Expr} {es:List Expr} {t:TA} {ps:List Str} {k j:Nat} {sp:Sp} {E:XK}
theorem Su (G:i0 X.prog X.w X.K X.mg X.base x ps k sp) (hx:Z3 (CX1 X.prog X.w) X E) (hr:Room j X.A) (hg:Gl X x) (ha:PA X (e::es) t) (hkj:k<=j:=by omega) (hdb:(x==("__debug__":Str))=false:=by decide)
  (he:starEach (e::es) X.env=(false,eval e X.env)::starEach es X.env:=by rfl) (hpl:(backTo pos (starEach es X.env)).any (·.1)=false:=by rfl):PE X (.Call (.Name x p) (e::es) [] pos) (U6 sp E t):=by
 obtain ⟨f,fd,F,b,m,kp⟩:=G
 refine (wP F (hr.mono hkj) hg m kp b .nil hx ha hdb he hpl).imp fun σ H Q q=>?_
 unfold Ot
 unfold U6 at q
 simpa only [List.append_nil] using q
end
theorem Fun.okX {P:Program} {w:World} {K:Frag} {mg:Str->Option Value} {base:Heap} {x qual:Str} {st:Stmt} {f:Addr} {fd:FuncData} {N ps:List Str} {k:Nat} {sp:Sp} {CX:CXT} (F:Fun K x qual st f fd) (S:FnScope N ps (d9 st)) (len:∀vs H Q E,sp vs H Q E->vs.length=ps.length)
  (hbody:∀(cdv:Value) (A:Around) (outer:List Env) (s:Shared) (H:Hp) (vs:List V) (Q:VK) (E:XK),Room k (A.deeper (envOfC qual (d9 st) s.heap.objs.size f cdv))->sp vs H Q E ->
   ∃t,PSs (x5 CX P w K mg base N qual (d9 st) f cdv A outer s H E) (y9 st) t/\t { nx:=fun _ H'=>Q .non H',rt:=Q } (start N vs) H):FnOk P w K mg base CX (k+1) f fd ps sp:=by
 obtain ⟨oc,od,kV,doc,pm,an,cdv,ct,osl,rfl,lk,hcd⟩:=F.ex
 refine jN lk hcd S len fun A outer s H vs Q E hr hsp=>?_
 exact hbody cdv A outer s H vs Q E hr hsp
section
variable {K:Frag} {H:Hp} {v:V}
theorem RD.int (h:RD K H (.int i) v):v=.int i:=by simpa only [RD] using h
theorem RD.str (h:RD K H (.str i) v):v=.str i:=by simpa only [RD] using h
theorem RD.non (h:RD K H .non v):v=.non:=by simpa only [RD] using h
theorem RD.tup (h:RD K H (.tup ds) v):∃a xs,v=.ref a/\H a=some (.tup xs)/\RDs K H ds xs:=by simpa only [RD] using h
theorem RD.lst (h:RD K H (.lst ds) v):∃a xs,v=.ref a/\H a=some (.lst xs)/\RDs K H ds xs:=by simpa only [RD] using h
theorem RD.dk (h:RD K H (.dk ks ds) v):∃a xs,v=.ref a/\H a=some (.dK (ks.zip xs))/\ks.length=xs.length/\RDs K H ds xs:=by simpa only [RD] using h
theorem RD.dt (h:RD K H (.dt ks ds) v):∃a xs,v=.ref a/\H a=some (.dT (ks.zip xs))/\ks.length=xs.length/\RDs K H ds xs:=by simpa only [RD] using h
theorem RD.scr (h:RD K H (.scr ns) v):∃a,v=.ref a/\SqL K H a (ns.map V.int):=by
 simp only [RD] at h;obtain ⟨a,e,h | h⟩:=h
 . exact ⟨a,e,.inl (.inr h)⟩
 . exact ⟨a,e,.inr h⟩
theorem RD.mkInt (i:Int):RD K H (.int i) (.int i):=by simp only [RD]
theorem RD.mkBl (i:Bool):RD K H (.bl i) (.bl i):=by simp only [RD]
theorem RD.mkNon:RD K H .non .non:=by simp only [RD]
theorem RD.mkStr (i:Str):RD K H (.str i) (.str i):=by simp only [RD]
theorem RD.mkTup (h:H a=some (.tup xs)) (r:RDs K H ds xs):RD K H (.tup ds) (.ref a):=by simp only [RD];exact ⟨a,xs,rfl,h,r⟩
end
noncomputable def dI (g:Int->Int->D):D->D->Option D
 | .int i,.int j=>some (g i j)
 | _,_=>none
noncomputable def dIC (C:Int->Int->Prop) [∀i j,Decidable (C i j)] (g:Int->Int->D):D->D->Option D
 | .int i,.int j=>if C i j then some (g i j) else none
 | _,_=>none
noncomputable def dOr (o p:D->D->Option D):D->D->Option D:=fun d e=>match o d e with
 | some z=>some z
 | none=>p d e
section
variable {K:Frag}
theorem OpD.weak (h:OpD K fr o r):OpD K false o r:=fun H0 H x y d e z Q s rx ry ho k=>h H0 H x y d e z Q s rx ry ho fun v H' q=>k v H' q.weak
theorem OpD.or (h1:OpD K f1 o r) (h2:OpD K f2 p q):OpD K false (dOr o p) (fun x y H Q=>r x y H Q\/q x y H Q):=by
 intro H0 H x y d e z Q s rx ry ho k;unfold dOr at ho;split at ho
 . rename_i z' hz;cases ho;exact .inl (h1.weak H0 H x y d e z Q s rx ry hz k)
 . exact .inr (h2.weak H0 H x y d e z Q s rx ry ho k)
theorem R5 (h:∀i j H,RD K H (gd i j) (gv i j)):OpD K false (dI gd) (cI gv):=by
 intro H0 H x y d e z Q s rx ry ho k;cases d<;>simp only [dI] at ho<;>first | cases ho | skip
 cases e<;>simp only [dI] at ho<;>first | cases ho | skip
 cases rx.int;cases ry.int;exact k _ H (.pure s (h _ _ _))
theorem Go [∀i j,Decidable (C i j)] (h:∀i j H,RD K H (gd i j) (gv i j)):OpD K false (dIC C gd) (cIC C gv):=by
 intro H0 H x y d e z Q s rx ry ho k;cases d<;>simp only [dIC] at ho<;>first | cases ho | skip
 cases e<;>simp only [dIC] at ho<;>first | cases ho | skip
 cases rx.int;cases ry.int;split at ho
 . rename_i hcc;cases ho;exact ⟨hcc,k _ H (.pure s (h _ _ _))⟩
 . cases ho
instance (i j:Int):Decidable (CMul i j):=by unfold CMul;infer_instance
instance (i j:Int):Decidable (O6 i j):=by unfold O6;infer_instance
def E5:D->D->Option D:=dI fun i j=>.int (i+j)
def C4:D->D->Option D:=dI fun i j=>.int (i - j)
def Bu:D->D->Option D:=dIC CMul fun i j=>.int (i * j)
def W9:D->D->Option D:=dIC O6 fun i j=>.int (i / j)
def v6:D->D->Option D:=dIC (fun _ j=>0<j) fun i j=>.int (i % j)
def G3:D->D->Option D:=dI fun i j=>.bl (decide (i<j))
def dLe:D->D->Option D:=dI fun i j=>.bl (decide (i<=j))
def O7:D->D->Option D:=dI fun i j=>.bl (decide (j<i))
def dGe:D->D->Option D:=dI fun i j=>.bl (decide (j<=i))
theorem J7:OpD K false E5 (cI fun i j=>.int (i+j)):=R5 fun _ _ _=>.mkInt _
theorem E6:OpD K false C4 (cI fun i j=>.int (i - j)):=R5 fun _ _ _=>.mkInt _
theorem qC:OpD K false Bu (cIC CMul fun i j=>.int (i * j)):=Go fun _ _ _=>.mkInt _
theorem Ql:OpD K false W9 (cIC O6 fun i j=>.int (i / j)):=Go fun _ _ _=>.mkInt _
theorem D5:OpD K false v6 (cIC (fun _ j=>0<j) fun i j=>.int (i % j)):=Go fun _ _ _=>.mkInt _
theorem N6:OpD K false G3 (cI fun i j=>.bl (decide (i<j))):=R5 fun _ _ _=>.mkBl _
theorem jt:OpD K false dLe (cI fun i j=>.bl (decide (i<=j))):=R5 fun _ _ _=>.mkBl _
theorem U5:OpD K false O7 (cI fun i j=>.bl (decide (j<i))):=R5 fun _ _ _=>.mkBl _
theorem jo:OpD K false dGe (cI fun i j=>.bl (decide (j<=i))):=R5 fun _ _ _=>.mkBl _
noncomputable def S4:D->Option D
 | .int i=>some (.int (-i))
 | _=>none
theorem Cs:UnD K false S4 (cU fun i=>.int (-i)):=by
 intro H0 H x d z Q s rx ho k;cases d<;>simp only [S4] at ho<;>first | cases ho | skip
 cases rx.int;exact k _ H (.pure s (.mkInt _))
noncomputable def x4:D->D->Option D
 | .lst ds,.lst es=>if ds.length+es.length<=100000 then some (.lst (ds++es)) else none
 | _,_=>none
theorem W8 (h:n<=100000):n<=sizeLine:=Nat.le_trans h (by decide)
theorem Cr:OpD K true x4 Ze:=by
 intro H0 H x y d e z Q s rx ry ho k;cases d<;>simp only [x4] at ho<;>first | cases ho | skip
 cases e<;>simp only [x4] at ho<;>first | cases ho | skip
 split at ho<;>cases ho;rename_i hl;obtain ⟨a,xs,rfl,ha,ra⟩:=rx.lst;obtain ⟨b,ys,rfl,hb,rb⟩:=ry.lst;refine ⟨a,b,xs,ys,rfl,rfl,s _ _ ha,s _ _ hb,by rw [<-ra.length,<-rb.length];exact W8 hl,fun p hp=>k _ _ (.new s hp fun H' hH=>?_)⟩;simp only [OB];exact ⟨_,hH,ra.append rb⟩
end
def dEq:D->D->Option D:=fun d e=>if d.pl=true/\e.pl=true/\d.dep<=20 then some (.bl (eqD d e)) else none
def dNe:D->D->Option D:=fun d e=>if d.pl=true/\e.pl=true/\d.dep<=20 then some (.bl (!eqD d e)) else none
def Yx (K:Frag):R2:=fun x y H Q=>∃d e,RD K H d x/\RD K H e y/\d.pl=true/\e.pl=true/\d.dep<=20/\Q (.bl (eqD d e)) H
def Yw (K:Frag):R2:=fun x y H Q=>∃d e,RD K H d x/\RD K H e y/\d.pl=true/\e.pl=true/\d.dep<=20/\Q (.bl (!eqD d e)) H
def K8 (neg:Bool):D->D->Option D:=fun d c=>match c with
 | .lst es=>if d.pl=true/\pls es=true/\h7 es<=20 then some (.bl (if neg then !(es.any fun e=>eqD e d) else es.any fun e=>eqD e d)) else none
 | .tup es=>if d.pl=true/\pls es=true/\h7 es<=20 then some (.bl (if neg then !(es.any fun e=>eqD e d) else es.any fun e=>eqD e d)) else none
 | _=>none
def Bt (K:Frag) (neg:Bool):R2:=fun x y H Q=>∃p xs d es,y=.ref p/\(H p=some (.lst xs)\/H p=some (.tup xs))/\RD K H d x/\RDs K H es xs/\d.pl=true/\pls es=true/\h7 es<=20/\Q (.bl (if neg then !(es.any fun e=>eqD e d) else es.any fun e=>eqD e d)) H
section
variable {X:Cx} {K:Frag}
theorem G9 (hu:X.A.units+64<cLine):OpR X (compareOp .Eq) (Yx X.K):=by intro pins s σ H x y v u Q I rx ry h;obtain ⟨d,e,h1,h2,p1,p2,h3,q⟩:=h;exact (Qm (n:=20) I p1 p2 h3 (by lia) h1 h2 rx ry).1 X.prog X.w X.xe _ ⟨.bl _,H,I,rfl,q⟩
theorem jm (hu:X.A.units+64<cLine):OpR X (compareOp .NotEq) (Yw X.K):=by intro pins s σ H x y v u Q I rx ry h;obtain ⟨d,e,h1,h2,p1,p2,h3,q⟩:=h;exact (Qm (n:=20) I p1 p2 h3 (by lia) h1 h2 rx ry).2 X.prog X.w X.xe _ ⟨.bl _,H,I,rfl,q⟩
theorem G8:OpD K false dEq (Yx K):=by intro H0 H x y d e z Q s rx ry ho k;unfold dEq at ho;split at ho<;>cases ho;rename_i h;exact ⟨d,e,rx.mono s,ry.mono s,h.1,h.2.1,h.2.2,k _ H (.pure s (.mkBl _))⟩
theorem jk:OpD K false dNe (Yw K):=by intro H0 H x y d e z Q s rx ry ho k;unfold dNe at ho;split at ho<;>cases ho;rename_i h;exact ⟨d,e,rx.mono s,ry.mono s,h.1,h.2.1,h.2.2,k _ H (.pure s (.mkBl _))⟩
theorem ji (hu:X.A.units+64<cLine):OpR X (compareOp .In) (Bt X.K false):=by
 intro pins s σ H x y v u Q I rx ry h;obtain ⟨p,xs,d,es,rfl,hp,hx,hes,pd,pe,hd,q⟩:=h;cases ry;rcases hp with hq | hq
 . obtain ⟨its,rv,pl,_⟩:=I.list (.of hq);refine SeqAt.in_listAt (hitD X.K H d) pl.isList (fun y hy=>Ag (A:=X.A) I (by lia) pd hx rx pe hes rv hd y (by simpa using hy)) ⟨.bl _,H,I,rfl,?_⟩;rw [show its.toArray.any (hitD X.K H d)=its.any (hitD X.K H d) by simp,Ak pe hes rv];simpa using q
 . obtain ⟨its,rv,pl,_⟩:=I.tuple (.of hq);refine SeqAt.in_tupleAt (hitD X.K H d) pl (fun y hy=>Ag (A:=X.A) I (by lia) pd hx rx pe hes rv hd y (by simpa using hy)) ⟨.bl _,H,I,rfl,?_⟩;rw [show its.toArray.any (hitD X.K H d)=its.any (hitD X.K H d) by simp,Ak pe hes rv];simpa using q
theorem xM (hu:X.A.units+64<cLine):OpR X (compareOp .NotIn) (Bt X.K true):=by
 intro pins s σ H x y v u Q I rx ry h;obtain ⟨p,xs,d,es,rfl,hp,hx,hes,pd,pe,hd,q⟩:=h;cases ry;rcases hp with hq | hq
 . obtain ⟨its,rv,pl,_⟩:=I.list (.of hq);refine SeqAt.notIn_listAt (hitD X.K H d) pl.isList (fun y hy=>Ag (A:=X.A) I (by lia) pd hx rx pe hes rv hd y (by simpa using hy)) ⟨.bl _,H,I,rfl,?_⟩;rw [show its.toArray.any (hitD X.K H d)=its.any (hitD X.K H d) by simp,Ak pe hes rv];simpa using q
 . obtain ⟨its,rv,pl,_⟩:=I.tuple (.of hq);refine SeqAt.notIn_tupleAt (hitD X.K H d) pl (fun y hy=>Ag (A:=X.A) I (by lia) pd hx rx pe hes rv hd y (by simpa using hy)) ⟨.bl _,H,I,rfl,?_⟩;rw [show its.toArray.any (hitD X.K H d)=its.any (hitD X.K H d) by simp,Ak pe hes rv];simpa using q
theorem od_inS:OpD K false (K8 neg) (Bt K neg):=by
 intro H0 H x y d e z Q s rx ry ho k;unfold K8 at ho;cases e<;>dsimp only at ho<;>first | cases ho | skip
 . split at ho<;>cases ho;rename_i es h;obtain ⟨a,xs,rfl,ha,ra⟩:=ry.tup;exact ⟨a,xs,d,es,rfl,.inr (s _ _ ha),rx.mono s,ra.mono s,h.1,h.2.1,h.2.2,k _ H (.pure s (.mkBl _))⟩
 . split at ho<;>cases ho;rename_i es h;obtain ⟨a,xs,rfl,ha,ra⟩:=ry.lst;exact ⟨a,xs,d,es,rfl,.inl (s _ _ ha),rx.mono s,ra.mono s,h.1,h.2.1,h.2.2,k _ H (.pure s (.mkBl _))⟩
end
noncomputable def F7:D->Option Key
 | .int i=>some (.inl i)
 | .str x=>some (.inr x)
 | _=>none
def N1:List D->Option (List Key)
 | []=>some []
 | d::ds=>match F7 d,N1 ds with
  | some k,some ks=>some (k::ks)
  | _,_=>none
theorem Jw {K:Frag} {H:Hp} {d:D} {k:Key} {v:V} (h:F7 d=some k) (r:RD K H d v):v=kV k:=by
 cases d<;>simp only [F7] at h<;>first | cases h | skip
 . cases r.int;rfl
 . cases r.str;rfl
theorem Kt {K:Frag} {H:Hp}:∀{ds:List D} {ks:List Key} {xs:List V},N1 ds=some ks->RDs K H ds xs->xs=ks.map kV
 | [],ks,xs,h,r=>by simp only [N1] at h;cases h;simp only [RDs] at r;subst r;rfl
 | d::ds,ks,xs,h,r=>by simp only [RDs] at r;obtain ⟨x,xs,rfl,r1,r2⟩:=r;simp only [N1] at h;split at h<;>cases h;rename_i k ks h1 h2;rw [Jw h1 r1,Kt h2 r2];rfl
def ROp (K:Frag) (H:Hp):Option D->Option V->Prop
 | some z,w=>∃v,w=some v/\RD K H z v
 | none,w=>w=none
section
variable {κ:Type} [DecidableEq κ]
noncomputable def lookD (ks:List κ) (ds:List D) (k:κ):Option D:=((ks.zip ds).find? fun kv=>decide (kv.1=k)).map (·.2)
theorem Jv {K:Frag} {H:Hp} (k:κ):∀{ks:List κ} {ds:List D} {xs:List V},ks.length=xs.length->RDs K H ds xs->ROp K H (lookD ks ds k) (r6 (ks.zip xs) k)
 | [],ds,xs,_,_=>by simp [lookD,r6,ROp]
 | k'::ks,[],xs,h,r=>by simp only [RDs] at r;subst r;simp at h
 | k'::ks,d::ds,xs,h,r=>by
  simp only [RDs] at r;obtain ⟨x,xs,rfl,r1,r2⟩:=r;have ih:=Jv k (by simpa using h) r2 (ks:=ks);simp only [lookD,r6,List.zip_cons_cons,List.find?_cons] at ih ⊢;by_cases e:k'=k
  . simp only [e,decide_true];exact ⟨x,rfl,r1⟩
  . simp only [e,decide_false];exact ih
noncomputable def C8 (ks:List κ) (k:κ):List κ:=if k∈ks then ks else ks++[k]
noncomputable def l6 {β:Type} (ks:List κ) (ds:List β) (k:κ) (d:β):List β:=if k∈ks then List.zipWith (fun k' d'=>if k'=k then d else d') ks ds else ds++[d]
theorem Ue (k:κ) (v:V) (hl:ks.length=xs.length):v7 (ks.zip xs) k v=(C8 ks k).zip (l6 ks xs k v)/\(C8 ks k).length=(l6 ks xs k v).length:=by
 have any:∀(ks:List κ) (xs:List V),ks.length=xs.length->((ks.zip xs).any fun kv=>decide (kv.1=k))=decide (k∈ks):=by
  intro ks;induction ks with
  | nil=>intro xs _;simp
  | cons k' ks ih=>
   intro xs h
   cases xs with
   | nil=>simp at h
   | cons x xs=>
    simp only [List.zip_cons_cons,List.any_cons]
    rw [ih xs (by simpa using h)]
    by_cases e:k'=k
    . simp [e]
    . by_cases m:k∈ks<;>simp [e,m,Ne.symm e]
 have mp:∀(ks:List κ) (xs:List V),ks.length=xs.length->(ks.zip xs).map (fun kv=>if kv.1=k then (kv.1,v) else kv)=ks.zip (List.zipWith (fun k' d'=>if k'=k then v else d') ks xs):=by
  intro ks;induction ks with
  | nil=>intro xs _;simp
  | cons k' ks ih=>
   intro xs h
   cases xs with
   | nil=>simp at h
   | cons x xs=>
    simp only [List.zip_cons_cons,List.map_cons,List.zipWith_cons_cons]
    rw [ih xs (by simpa using h)]
    by_cases e:k'=k<;>simp [e]
 unfold v7 C8 l6;rw [any ks xs hl];by_cases m:k∈ks
 . rw [ξ (by simpa using m),ξ m,ξ m];exact ⟨mp ks xs hl,by simp [hl]⟩
 . rw [ψ (by simpa using m),ψ m,ψ m];exact ⟨by rw [List.zip_append hl];rfl,by simp [hl]⟩
theorem Ju {K:Frag} {H:Hp} (k:κ) {d:D} {v:V} (rv:RD K H d v) {ks:List κ} {ds:List D} {xs:List V} (r:RDs K H ds xs):RDs K H (l6 ks ds k d) (l6 ks xs k v):=by
 have zw:∀(ks:List κ) (ds:List D) (xs:List V),RDs K H ds xs->RDs K H (List.zipWith (fun k' d'=>if k'=k then d else d') ks ds) (List.zipWith (fun k' d'=>if k'=k then v else d') ks xs):=by
  intro ks;induction ks with
  | nil=>intro ds xs _;simp [RDs]
  | cons k' ks ih=>
   intro ds xs r
   cases ds with
   | nil=>simp only [RDs] at r;subst r;simp [RDs]
   | cons d' ds=>
    simp only [RDs] at r
    obtain ⟨x,xs,rfl,r1,r2⟩:=r
    simp only [List.zipWith_cons_cons]
    refine .cons ?_ (ih ds xs r2)
    by_cases e:k'=k
    . rw [ξ e,ξ e];exact rv
    . rw [ψ e,ψ e];exact r1
 unfold l6;by_cases m:k∈ks
 . rw [ξ m,ξ m];exact zw ks ds xs r
 . rw [ψ m,ψ m];exact r.append (.one rv)
end
def N0:D->D->Option (Option D)
 | .dk ks ds,k=>(F7 k).map fun k=>lookD ks ds k
 | .dt ks ds,.tup es=>(N1 es).map fun k=>lookD ks ds k
 | _,_=>none
theorem Ss {K:Frag} {H:Hp} {d k:D} {x y:V} {o:Option D} (h:N0 d k=some o) (rx:RD K H d x) (ry:RD K H k y) :
  ∃a w,x=.ref a/\DGet H a y w/\ROp K H o w:=by
 cases d<;>simp only [N0] at h<;>first | cases h | skip
 . rename_i ks ds;obtain ⟨a,xs,rfl,ha,hl,rs⟩:=rx.dk;cases hk:F7 k with
   | none=>rw [hk] at h;cases h
   | some k'=>
    rw [hk] at h
    have h:lookD ks ds k'=o:=by simpa using h
    subst h
    cases Jw hk ry
    exact ⟨a,_,rfl,DGet.k ha,Jv k' hl rs⟩
 . rename_i ks ds;cases k<;>simp only [N0] at h<;>first | cases h | skip
   rename_i es;obtain ⟨a,xs,rfl,ha,hl,rs⟩:=rx.dt;obtain ⟨b,ys,rfl,hb,rb⟩:=ry.tup;cases hk:N1 es with
   | none=>rw [hk] at h;cases h
   | some k'=>
    rw [hk] at h
    have h:lookD ks ds k'=o:=by simpa using h
    subst h
    have e:=Kt hk rb
    subst e
    exact ⟨a,_,rfl,DGet.t ha hb,Jv k' hl rs⟩
def Fp (neg:Bool):D->D->Option D:=fun k d=>(N0 d k).map fun o=>.bl (if neg then !o.isSome else o.isSome)
noncomputable def Bs (neg:Bool):R2:=fun y x H Q=>∃a w,x=.ref a/\DGet H a y w/\Q (.bl (if neg then !w.isSome else w.isSome)) H
def Br:D->D->Option D:=fun d k=>(N0 d k).bind id
noncomputable def Fo:R2:=fun x y H Q=>∃a w,x=.ref a/\DGet H a y (some w)/\Q w H
def z8:D->D->Option D
 | .lst ds,.int i=>atI ds i
 | .tup ds,.int i=>atI ds i
 | .scr ns,.int i=>(atI ns i).map D.int
 | .str z,.int i=>if z.length<=100000 then (atI z.cps.toList i).map fun c=>D.str ⟨#[c]⟩ else none
 | _,_=>none
theorem RDs.atI {K:Frag} {H:Hp} {ds:List D} {xs:List V} {i:Int} {d:D} (r:RDs K H ds xs) (h:L2.atI ds i=some d):∃v,L2.atI xs i=some v/\RD K H d v:=by
 unfold L2.atI at h ⊢;rw [<-r.length];cases q:ixN ds.length i with
 | none=>rw [q] at h;cases h
 | some j=>
  rw [q] at h
  exact r.get' h
theorem wu (f:α->β) (xs:List α) (i:Int):atI (xs.map f) i=(atI xs i).map f:=by
 unfold atI;rw [List.length_map];cases ixN xs.length i with
 | none=>rfl
 | some j=>simp
section
variable {X:Cx} {K:Frag}
theorem jh (hu:X.A.units+64<cLine):OpR X (compareOp .In) (Bs false):=by intro pins s σ H x y v u Q I rx ry h;obtain ⟨a,w,rfl,g,q⟩:=h;cases ry;exact y1y (by omega) I g rx fun s' I'=>⟨.bl w.isSome,H,I',rfl,by simpa using q⟩
theorem xL (hu:X.A.units+64<cLine):OpR X (compareOp .NotIn) (Bs true):=by intro pins s σ H x y v u Q I rx ry h;obtain ⟨a,w,rfl,g,q⟩:=h;cases ry;exact wM (by omega) I g rx fun s' I'=>⟨.bl (!w.isSome),H,I',rfl,by simpa using q⟩
theorem qB:OpD K false (Fp neg) (Bs neg):=by
 intro H0 H x y d e z Q s rx ry ho k;unfold Fp at ho;cases ho':N0 e d with
 | none=>rw [ho'] at ho;cases ho
 | some o=>
  rw [ho'] at ho;cases ho
  obtain ⟨a,w,rfl,g,m⟩:=Ss ho' (ry.mono s) (rx.mono s)
  refine ⟨a,w,rfl,g,k _ H ?_⟩
  have e:w.isSome=o.isSome:=by
   cases o with
   | none=>rw [show w=none from m];rfl
   | some z=>obtain ⟨v,e,_⟩:=m;rw [e];rfl
  rw [e]
  exact .pure s (.mkBl _)
def dIn (neg:Bool):D->D->Option D:=dOr (K8 neg) (Fp neg)
def Fn (K:Frag) (neg:Bool):R2:=fun x y H Q=>Bt K neg x y H Q\/Bs neg x y H Q
theorem Y0 (hu:X.A.units+64<cLine):OpR X (compareOp .In) (Fn X.K false):=(ji hu).or (jh hu)
theorem Ud (hu:X.A.units+64<cLine):OpR X (compareOp .NotIn) (Fn X.K true):=(xM hu).or (xL hu)
theorem P1:OpD K false (dIn neg) (Fn K neg):=od_inS.or qB
theorem wt (hu:X.A.units+64<cLine):IxR X Fo:=by intro value slice pins s σ H x y v u Q I rx ry h hs;obtain ⟨a,w,rfl,g,q⟩:=h;cases rx;exact tail_any (ops:=[.ref a,u]) (zC I g) PySem.F.slot_dict_getitem.lookup (yL (by lia) I g ry fun w' s3 I3 rw'=>⟨w,H,I3,rw',q⟩) hs
theorem qA:OpD K false Br Fo:=by
 intro H0 H x y d e z Q s rx ry ho k;unfold Br at ho;cases ho':N0 d e with
 | none=>rw [ho'] at ho;cases ho
 | some o=>
  rw [ho'] at ho
  have ho:o=some z:=ho
  subst ho
  obtain ⟨a,w,e0,g,m⟩:=Ss ho' rx ry
  obtain ⟨v,rfl,rv⟩:=m
  subst e0
  refine ⟨a,v,rfl,?_,k _ H (.pure s rv)⟩
  rcases g with ⟨kvs,kk,e1,e2,e3⟩ | ⟨kvs,kk,b,e1,e2,e3,e4⟩
  . refine .inl ⟨kvs,kk,?_,e2,e3⟩;rcases e1 with e1 | ⟨o,e1⟩
    . exact .inl (s _ _ e1)
    . exact .inr ⟨o,s _ _ e1⟩
  . refine .inr ⟨kvs,kk,b,?_,e2,s _ _ e3,e4⟩;rcases e1 with e1 | ⟨o,e1⟩
    . exact .inl (s _ _ e1)
    . exact .inr ⟨o,s _ _ e1⟩
theorem od_ixS:OpD K false z8 (rIx K):=by
 intro H0 H x y d e z Q s rx ry ho k;cases d<;>simp only [z8] at ho<;>first | cases ho | skip
 . -- a text
   cases e<;>simp only [z8] at ho<;>first | cases ho | skip
   cases rx.str;cases ry.int;split at ho
   . rename_i z' i hl;cases hc:atI z'.cps.toList i with
     | none=>rw [hc] at ho;cases ho
     | some c=>
      rw [hc] at ho;cases ho
      exact .inr (.inr ⟨z',i,c,rfl,rfl,W8 hl,hc,k _ H (.pure s (.mkStr _))⟩)
   . cases ho
 . cases e<;>simp only [z8] at ho<;>first | cases ho | skip
   obtain ⟨a,xs,rfl,ha,ra⟩:=rx.tup;cases ry.int;obtain ⟨v,hv,rv⟩:=ra.atI ho;exact .inr (.inl ⟨a,xs,_,v,rfl,rfl,.of (s _ _ ha),hv,k _ H (.pure s rv)⟩)
 . cases e<;>simp only [z8] at ho<;>first | cases ho | skip
   obtain ⟨a,xs,rfl,ha,ra⟩:=rx.lst;cases ry.int;obtain ⟨v,hv,rv⟩:=ra.atI ho;exact .inl ⟨a,xs,_,v,rfl,rfl,.of (s _ _ ha),hv,k _ H (.pure s rv)⟩
 . cases e<;>simp only [z8] at ho<;>first | cases ho | skip
   rename_i ns i;cases ry.int;obtain ⟨a,rfl,ha⟩:=(rx.mono s).scr;cases hc:atI ns i with
   | none=>rw [hc] at ho;cases ho
   | some c=>
    rw [hc] at ho;cases ho
    exact .inl ⟨a,_,i,.int c,rfl,rfl,ha,by rw [wu,hc];rfl,k _ H (.pure s (.mkInt _))⟩
def dIx:D->D->Option D:=dOr z8 Br
def Yv (K:Frag):R2:=fun x y H Q=>rIx K x y H Q\/Fo x y H Q
theorem y2c (hu:X.A.units+64<cLine):IxR X (Yv X.K):=ix_seq.or (wt hu)
theorem jg:OpD K false dIx (Yv K):=od_ixS.or qA
end
structure QE (X:Cx) (EX:XW) (fr:Bool) (e:Expr) (f:DE->R D):Prop where
 h:PE X e (TEd X.K EX fr f)
structure QT (X:Cx) (EX:XW) (e:Expr) (t:DE->R Bool):Prop where
 h:PT X e (TTd X.K EX t)
structure QW (X:Cx) (EX:XW) (e:Expr) (t:DE->R Bool):Prop where
 h:PW X e (TTd X.K EX t)
structure QA (X:Cx) (EX:XW) (es:List Expr) (f:DE->R (List D)):Prop where
 h:PA X es (TAd X.K EX f)
structure QI (X:Cx) (EX:XW) (kp:Bool) (tg e:Expr) (f:DE->R (List D)):Prop where
 h:PI X tg e (TId X.K EX kp f)
structure QG (X:Cx) (tg:Expr) (t:Tg):Prop where
 h:PG X tg (TGd X.K t)
structure QGs (X:Cx) (ts:List Expr) (is:List Nat):Prop where
 h:PGs X ts (Ct is)
structure QS (X:Cx) (EX:XW) (fr:Bool) (st:Stmt) (g:DS->SR):Prop where
 h:PS X st (TSd X.K EX fr g)
structure QB (X:Cx) (EX:XW) (fr:Bool) (sts:List Stmt) (g:DS->SR):Prop where
 h:PSs X sts (TSd X.K EX fr g)
structure QCT (X:Cx) (EX:XW) (ops:List CmpOp) (rs:List Expr) (g:D->DE->R Bool):Prop where
 h:PChT X ops rs (Y1 X.K EX g)
section
variable {X:Cx} {EX:XW} {fr:Bool} {a b e:Expr} {es rest:List Expr} {fa fb:DE->R D} {fs:DE->R (List D)} {t u:DE->R Bool} {pos p:Pos} {x:Str}
theorem PA.imp {es:List Expr} {t t':TA} (h:PA X es t) (hi:∀σ H Q,t' σ H Q->t σ H Q):PA X es t':=fun pos pins s σ H Q I q=>h pos pins s σ H Q I (hi σ H Q q)
theorem PW.imp {e:Expr} {t t':TT} (h:PW X e t) (hi:∀σ H Q,t' σ H Q->t σ H Q):PW X e t':=fun wh pins s σ H Q I q=>h wh pins s σ H Q I (hi σ H Q q)
theorem PI.imp {tg e:Expr} {t t':TI} (h:PI X tg e t) (hi:∀σ H Q,t' σ H Q->t σ H Q):PI X tg e t':=fun pins s σ H Q I q=>h pins s σ H Q I (hi σ H Q q)
theorem PS.imp {st:Stmt} {t t':TS} (h:PS X st t) (hi:∀D σ H,t' D σ H->t D σ H):PS X st t':=fun pins s σ H D I q=>h pins s σ H D I (hi D σ H q)
theorem PSs.imp {st:List Stmt} {t t':TS} (h:PSs X st t) (hi:∀D σ H,t' D σ H->t D σ H):PSs X st t':=fun pins s σ H D I q=>h pins s σ H D I (hi D σ H q)
theorem QE.wk (h:QE X EX true e f):QE X EX false e f:=⟨h.h.imp fun _ _ _ q=>q.weak⟩
theorem qv (i:Nat) (hN:X.N[i]?=some x:=by rfl) (hv:Vis X.env.scope x:=by first | exact Or.inl rfl | exact Or.inr (Or.inl rfl) | exact Or.inr (Or.inr rfl)) (hd:(x==("__debug__":Str))=false:=by decide)
 (hcd:(x==("__classdict__":Str))=false:=by decide):QE X EX false (.Name x pos) (a7 i):=⟨(Qx hN hv hd hcd).imp fun σ H Q q=>jB q⟩
theorem b7:QE X EX false (.Constant (.int i) j pos) (eC (.int i)):=⟨pe_int.imp fun σ H Q q=>Dn (fun _=>.mkInt i) q⟩
theorem v5:QE X EX false (.Constant (.bool i) j pos) (eC (.bl i)):=⟨pe_bl.imp fun σ H Q q=>Dn (fun _=>.mkBl i) q⟩
theorem jf:QE X EX false (.Constant .none j pos) (eC .non):=⟨pe_non.imp fun σ H Q q=>Dn (fun _=>.mkNon) q⟩
theorem Gn:QE X EX false (.Constant (.str i) j pos) (eC (.str i)):=⟨pe_str.imp fun σ H Q q=>Dn (fun _=>.mkStr i) q⟩
theorem g7 (ho:OpR X (binaryOp op) r) (od:OpD X.K fr o r) (ha:QE X EX false a fa) (hb:QE X EX false b fb):QE X EX fr (.BinOp a op b pos) (eOp o fa fb):=⟨(jQ ho ha.h hb.h).imp fun _ _ _ q=>Bw od q⟩
theorem Bq (ho:UnR X (unaryOp op) r) (od:UnD X.K fr o r) (ha:QE X EX false a fa):QE X EX fr (.UnaryOp op a pos) (eUn o fa):=⟨(jP ho ha.h).imp fun _ _ _ q=>y26 od q⟩
theorem B7 (ho:OpR X (compareOp op) r) (od:OpD X.K false o r) (ha:QE X EX false a fa) (hb:QE X EX false b fb) (hm:behindInMarks op b=false) :
 QE X EX false (.Compare a [op] [b] pos) (eOp o fa fb):=⟨(wR ho ha.h hb.h hm).imp fun _ _ _ q=>Bw od q⟩
theorem Fm (ho:IxR X r) (od:OpD X.K false o r) (ha:QE X EX false a fa) (hb:QE X EX false b fb) (hs:Kd b:=by exact fun _ _=>rfl):QE X EX false (.Subscript a b pos) (eOp o fa fb):=⟨(jL ho ha.h hb.h hs).imp fun _ _ _ q=>Bw od q⟩
theorem b9:QA X EX [] b8:=⟨pa_nil.imp fun _ _ _ q=>Og q⟩
theorem a9 (ha:QE X EX false e fa) (hr:QA X EX es fs) (hs:starEach (e::es) X.env=(false,eval e X.env)::starEach es X.env:=by rfl):QA X EX (e::es) (a8 fa fs):=⟨(O0 ha.h hr.h hs).imp fun _ _ _ q=>Hx q⟩
theorem E1 (h:QA X EX es fs):QE X EX false (.Tuple es x1 pos) (v8 fs):=⟨(vg h.h).imp fun _ _ _ q=>jA q⟩
theorem y0 (h:QA X EX es fs):QE X EX true (.List es pos) (o8 fs):=⟨(vf h.h).imp fun _ _ _ q=>jz q⟩
theorem t8 (ha:QE X EX false a fa) (hb:QE X EX false (.BoolOp .And (b::rest) pos) fb):QE X EX false (.BoolOp .And (a::b::rest) pos) (m7 fa fb):=⟨(wI ha.h hb.h).imp fun _ _ _ q=>jx q⟩
theorem Fl (ha:QE X EX false a fa) (hb:QE X EX false (.BoolOp .Or (b::rest) pos) fb):QE X EX false (.BoolOp .Or (a::b::rest) pos) (eOr fa fb):=⟨(qR ha.h hb.h).imp fun _ _ _ q=>y28 q⟩
theorem C7 (h:QE X EX false a fa):QE X EX false (.BoolOp op [a] pos) fa:=⟨vi h.h⟩
noncomputable def l4:D->Option Bool
 | .bl b=>some b
 | .int i=>some (i != 0)
 | .non=>some false
 | .str z=>if z.length<=100000 then some ((z.length:Int) != 0) else none
 | .lst ds=>some (!ds.isEmpty)
 | .tup ds=>some (!ds.isEmpty)
 | .dk ks _=>some (!ks.isEmpty)
 | _=>none
theorem Me {α β:Type} {xs:List α} {ys:List β} (h:xs.length=ys.length):xs.isEmpty=ys.isEmpty:=by cases xs<;>cases ys<;>first | rfl | simp at h
theorem Qk {K:Frag}:Fv K l4 N3:=by
 intro H0 H x d b Q s rx ht q;cases d<;>simp only [l4] at ht<;>first | cases ht | skip
 . cases rx.non;exact q
 . cases rx.bl;exact q
 . cases rx.int;exact q
 . split at ht<;>cases ht;rename_i h;cases rx.str;exact ⟨W8 h,q⟩
 . obtain ⟨p,xs,rfl,hp,r⟩:=rx.tup;unfold N3;dsimp only;rw [Ux (s _ _ hp)];rw [Me r.length] at q;exact q
 . obtain ⟨p,xs,rfl,hp,r⟩:=rx.lst;unfold N3;dsimp only;rw [Uy (s _ _ hp)];rw [Me r.length] at q;exact q
 . rename_i ks es;obtain ⟨p,xs,rfl,hp,hl,r⟩:=rx.dk;unfold N3;dsimp only;have e:B8 H p=none:=by unfold B8;rw [s _ _ hp]
   rw [e];dsimp only;rw [s _ _ hp];dsimp only;rw [Me (show ks.length=(List.zip ks xs).length by rw [List.length_zip,<-hl,Nat.min_self])] at q;exact q
theorem Qj (ha:QE X EX false a fa):QE X EX false (.UnaryOp .Not a pos) (eUn (fun d=>(l4 d).map fun b=>.bl (!b)) fa):=⟨(wH ha.h).imp fun _ _ _ q=>qM Qk q⟩
theorem x9 (ha:QE X EX false a fa) (he:∀whole,isTrue a X.env whole=(do let v <-whole;standAt a.pos;holding [v] (truthy v)):=by intro _;rfl):QT X EX a (c9 l4 fa):=⟨(qT ha.h he).imp fun _ _ _ q=>jw Qk q⟩
theorem j9 (ho:OpR X (compareOp op) r) (od:OpD X.K false o r) (ha:QE X EX false a fa) (hb:QE X EX false b fb) (hm:behindInMarks op b=false) :
 QT X EX (.Compare a [op] [b] pos) (c9 asB (eOp o fa fb)):=⟨(wJ ho ha.h hb.h hm).imp fun _ _ _ q=>jv od q⟩
theorem QW.pt (h:QW X EX a t):QT X EX a t:=⟨h.h.pt⟩
theorem x8 (ha:QT X EX a t):QT X EX (.UnaryOp .Not a pos) (o7 t):=⟨(vj ha.h).imp fun _ _ _ q=>qN q⟩
theorem Cq (ha:QT X EX a t):QW X EX (.BoolOp .And [a] pos) t:=⟨wS ha.h⟩
theorem M9 (ha:QT X EX a t):QW X EX (.BoolOp .Or [a] pos) t:=⟨vm ha.h⟩
theorem X9 (ha:QT X EX a t) (hb:QW X EX (.BoolOp .And (b::rest) pos) u):QW X EX (.BoolOp .And (a::b::rest) pos) (L5 t u):=⟨(vk ha.h hb.h).imp fun _ _ _ q=>qO q⟩
theorem p9 (ha:QT X EX a t) (hb:QW X EX (.BoolOp .Or (b::rest) pos) u):QW X EX (.BoolOp .Or (a::b::rest) pos) (bOr t u):=⟨(jR ha.h hb.h).imp fun _ _ _ q=>jy q⟩
theorem PChT.imp {ops:List CmpOp} {rs:List Expr} {t t':V->TT} (h:PChT X ops rs t) (hi:∀x σ H Q,t' x σ H Q->t x σ H Q):PChT X ops rs t':=fun pos pins s σ H x v Q I r q=>h pos pins s σ H x v Q I r (hi x σ H Q q)
variable {gt:D->DE->R Bool} {op op':CmpOp} {ops:List CmpOp} {r:R2} {o:D->D->Option D} {r':Expr} {rs:List Expr}
theorem Sr (ho:OpR X (compareOp op) r) (od:OpD X.K false o r) (hb:QE X EX false b fb):QCT X EX [op] [b] (Z6 o fb):=⟨(yH ho hb.h).imp fun _ _ _ _ q=>wz od q⟩
theorem Jt (ho:OpR X (compareOp op) r) (od:OpD X.K false o r) (hb:QE X EX false b fb) (hr:QCT X EX (op'::ops) (r'::rs) gt):QCT X EX (op::op'::ops) (b::r'::rs) (U7 o fb gt):=⟨(yG ho hb.h hr.h).imp fun _ _ _ _ q=>wy od q⟩
theorem Oc (ha:QE X EX false a fa) (hr:QCT X EX (op₁::op₂::ops) (r₁::r₂::rs) gt) (hm:lastMarks (op₁::op₂::ops) (r₁::r₂::rs)=false:=by with_unfolding_all rfl) :
 QT X EX (.Compare a (op₁::op₂::ops) (r₁::r₂::rs) pos) (X2 fa gt):=⟨(qS ha.h hr.h hm).imp fun _ _ _ q=>qK q⟩
theorem z7 {id:String} {rr:List V->Hp->VK->Prop} {m:List D->Option D} (hc:CallR X (.builtin id) rr) (od:E2 X.K fr m rr) (hg:Gl X x) (hm:X.mg x=none) (hv:bootBuiltins x=some (.builtin id)) (ha:QA X EX (e::es) fs) (hn:x≠"__name__":=by decide) (hdb:(x==("__debug__":Str))=false:=by decide)
 (he:starEach (e::es) X.env=(false,eval e X.env)::starEach es X.env:=by rfl) (hpl:(backTo pos (starEach es X.env)).any (·.1)=false:=by rfl):QE X EX fr (.Call (.Name x p) (e::es) [] pos) (eCB m fs):=⟨(Lb hc hg hm hv ha.h hn hdb he hpl).imp fun _ _ _ q=>Fu od q⟩
theorem M8 (hc:CallR X (.type T) rr) (od:E2 X.K fr m rr) (hg:Gl X x) (hm:X.mg x=none) (hv:bootBuiltins x=some (.type T)) (ha:QA X EX (e::es) fs) (hn:x≠"__name__":=by decide) (hdb:(x==("__debug__":Str))=false:=by decide)
 (he:starEach (e::es) X.env=(false,eval e X.env)::starEach es X.env:=by rfl) (hpl:(backTo pos (starEach es X.env)).any (·.1)=false:=by rfl):QE X EX fr (.Call (.Name x p) (e::es) [] pos) (eCB m fs):=⟨(yM hc hg hm hv ha.h hn hdb he hpl).imp fun _ _ _ q=>Fu od q⟩
theorem i5 (L:Lnd X EX) (G:i0 X.prog X.w X.K X.mg X.base x ps k (spD X.K X.mg fr (mOf fr n kk gg) n)) (hr:Room j X.A) (hg:Gl X x) (ha:QA X EX (e::es) fs) (hkj:k<=j:=by omega) (hdb:(x==("__debug__":Str))=false:=by decide)
 (he:starEach (e::es) X.env=(false,eval e X.env)::starEach es X.env:=by rfl) (hpl:(backTo pos (starEach es X.env)).any (·.1)=false:=by rfl):QE X EX fr (.Call (.Name x p) (e::es) [] pos) (e8 (mOf fr n kk gg) fs):=⟨(Su G L.on hr hg ha.h hkj hdb he hpl).imp fun _ _ _ q=>qG Jy (fun x H z=>by obtain ⟨C,hC⟩:=L.nm x H z;exact ⟨C,hC,fun od xf=>⟨x,z,hC,xf⟩⟩) q⟩
end
noncomputable def B6:D->String
 | .non=>"NoneType"
 | .bl _=>"bool"
 | .int _=>"int"
 | .str _=>"str"
 | .tup _=>"tuple"
 | .lst _=>"list"
 | .dk _ _=>"dict"
 | .dt _ _=>"dict"
 | .dn _ _=>"?"
 | .scr _=>"?"
 | .exc _ _=>"?"
def k7 (c:String):D->Option D:=fun d=>if E3 c=true/\B6 d≠"?" then some (.bl (D9 (B6 d) c)) else none
theorem wq {K:Frag} {H:Hp} {d:D} {v:V} (h:B6 d≠"?") (r:RD K H d v):J1 H v=some (B6 d):=by
 cases d
 . cases r.non;rfl
 . cases r.bl;rfl
 . cases r.int;rfl
 . cases r.str;rfl
 . obtain ⟨a,xs,rfl,ha,_⟩:=r.tup;simp only [J1,ha,B6]
 . obtain ⟨a,xs,rfl,ha,_⟩:=r.lst;simp only [J1,ha,B6]
 . obtain ⟨a,xs,rfl,ha,_⟩:=r.dk;simp only [J1,ha,B6]
 . obtain ⟨a,xs,rfl,ha,_⟩:=r.dt;simp only [J1,ha,B6]
 . exact absurd rfl h
 . exact absurd rfl h
 . exact absurd rfl h
theorem je {K:Frag} {EX:XW} {σ:St} {H:Hp} {Q:VK} {c:String} {f:DE->R D} (h:TEd K EX false (eUn (k7 c) f) σ H Q):tCB By (D3 (TEd K EX false f) (D3 (tC (.ty c)) R9)) σ H Q:=by
 obtain ⟨sx,ρ,H0,s,e,h⟩:=h;unfold eUn at h;rw [Rk.bind] at h;refine TEd.go sx s e h fun d h v H1 H1' s1 e1 r1=>?_
 obtain ⟨z,hz,h⟩:=h.of;unfold k7 at hz;split at hz<;>cases hz;rename_i hc;show By [v,.ty c] H1 Q;rw [qP];refine ⟨hc.1,?_⟩;rw [wq hc.2 (r1.mono e1.2.1)];exact h _ H1 (.val s1 e1 (.mkBl _))
theorem G7 (hg:Gl X x) (hm:X.mg x=none) (hv:bootBuiltins x=some (.builtin "isinstance")) (ha:QE X EX false a f) (hb:PE X b (tC (.ty c))) (hn:x≠"__name__":=by decide) (hdb:(x==("__debug__":Str))=false:=by decide)
 (he:starEach [a,b] X.env=(false,eval a X.env)::starEach [b] X.env:=by rfl) (hpl:(backTo pos (starEach [b] X.env)).any (·.1)=false:=by rfl) (hs:starEach [b] X.env=(false,eval b X.env)::starEach [] X.env:=by rfl) :
 QE X EX false (.Call (.Name x p) [a,b] [] pos) (eUn (k7 c) f):=⟨(Lb jD hg hm hv (O0 ha.h (O0 hb pa_nil hs) he) hn hdb he hpl).imp fun _ _ _ q=>je q⟩
noncomputable def u8:List D->Option (List Int)
 | []=>some []
 | .int i::ds=>(u8 ds).map (i::·)
 | _::_=>none
noncomputable def J6:List D->Option (List Bool)
 | []=>some []
 | .bl i::ds=>(J6 ds).map (i::·)
 | _::_=>none
theorem Wc:∀(ns:List Int),u8 (ns.map D.int)=some ns
 | []=>rfl
 | n::ns=>by simp [u8,Wc ns]
theorem Wu:∀(ns:List Bool),J6 (ns.map D.bl)=some ns
 | []=>rfl
 | n::ns=>by simp [J6,Wu ns]
theorem Ec {K:Frag} {H:Hp}:∀{ds:List D} {ns:List Int} {xs:List V},u8 ds=some ns->RDs K H ds xs->xs=ns.map V.int
 | [],ns,xs,h,r=>by simp only [u8] at h;cases h;simp only [RDs] at r;subst r;rfl
 | d::ds,ns,xs,h,r=>by
  simp only [RDs] at r;obtain ⟨x,xs,rfl,r1,r2⟩:=r;cases d<;>simp only [u8] at h<;>first | cases h | skip
  cases q:u8 ds with
  | none=>rw [q] at h;cases h
  | some ms=>
   rw [q] at h;cases h
   cases r1.int
   rw [Ec q r2];rfl
theorem Wb {K:Frag} {H:Hp}:∀{ds:List D} {ns:List Bool} {xs:List V},J6 ds=some ns->RDs K H ds xs->xs=ns.map V.bl
 | [],ns,xs,h,r=>by simp only [J6] at h;cases h;simp only [RDs] at r;subst r;rfl
 | d::ds,ns,xs,h,r=>by
  simp only [RDs] at r;obtain ⟨x,xs,rfl,r1,r2⟩:=r;cases d<;>simp only [J6] at h<;>first | cases h | skip
  cases q:J6 ds with
  | none=>rw [q] at h;cases h
  | some ms=>
   rw [q] at h;cases h
   cases r1.bl
   rw [Wb q r2];rfl
noncomputable def m5:List D->Option D
 | [.lst ds]=>some (.int ds.length)
 | [.tup ds]=>some (.int ds.length)
 | [.dk ks _]=>some (.int ks.length)
 | [.scr ns]=>some (.int ns.length)
 | [.str z]=>if z.length<=100000 then some (.int z.length) else none
 | _=>none
def K7:List D->Option D
 | [.lst ds]=>(u8 ds).map fun ns=>.int ns.sum
 | [.tup ds]=>(u8 ds).map fun ns=>.int ns.sum
 | _=>none
def W7:List D->Option D
 | [.lst ds]=>(J6 ds).map fun bs=>.bl (bs.all id)
 | _=>none
noncomputable def Ck:List D->Option D
 | [.lst ds]=>some (.lst ds)
 | [.tup ds]=>some (.lst ds)
 | [.scr ns]=>some (.lst (ns.map .int))
 | _=>none
noncomputable def B9:List D->Option D
 | [.lst ds]=>some (.tup ds)
 | [.tup ds]=>some (.tup ds)
 | _=>none
section
variable {X:Cx} {K:Frag}
theorem RDs.uno (h:RDs K H [d] xs):∃x,xs=[x]/\RD K H d x:=by simp only [RDs] at h;obtain ⟨x,r,rfl,h1,rfl⟩:=h;exact ⟨x,rfl,h1⟩
theorem RDs.duo (h:RDs K H [d,e] xs):∃x y,xs=[x,y]/\RD K H d x/\RD K H e y:=by simp only [RDs] at h;obtain ⟨x,r,rfl,h1,y,r',rfl,h2,rfl⟩:=h;exact ⟨x,y,rfl,h1,h2⟩
def Ob (K:Frag):List V->Hp->VK->Prop:=fun xs H Q=>(∃p ys,xs=[.ref p]/\(SqL K H p ys\/SqT K H p ys)/\Q (.int ys.length) H)\/(∃a kvs,xs=[V.ref a]/\H a=some (.dK kvs)/\Q (.int kvs.length) H)\/∃z,xs=[.str z]/\z.length<=sizeLine/\Q (.int z.length) H
theorem qz:CallR X (.builtin "len") (Ob X.K):=call_len_seq.or (call_lenD.or zW)
theorem qy:E2 K false m5 (Ob K):=by
 intro H0 H xs ds z Q s r ho k;unfold m5 at ho;split at ho<;>first | cases ho | skip
 . obtain ⟨x,rfl,q1⟩:=r.uno;obtain ⟨a,ys,rfl,ha,ra⟩:=q1.lst;exact .inl ⟨a,ys,rfl,.inl (.of (s _ _ ha)),by rw [<-ra.length];exact k _ H (.pure s (.mkInt _))⟩
 . obtain ⟨x,rfl,q1⟩:=r.uno;obtain ⟨a,ys,rfl,ha,ra⟩:=q1.tup;exact .inl ⟨a,ys,rfl,.inr (.of (s _ _ ha)),by rw [<-ra.length];exact k _ H (.pure s (.mkInt _))⟩
 . obtain ⟨x,rfl,q1⟩:=r.uno;obtain ⟨a,ys,rfl,ha,hl,ra⟩:=q1.dk;refine .inr (.inl ⟨a,_,rfl,s _ _ ha,?_⟩);rw [List.length_zip,<-hl,Nat.min_self];exact k _ H (.pure s (.mkInt _))
 . obtain ⟨x,rfl,q1⟩:=r.uno;obtain ⟨a,rfl,ha⟩:=(q1.mono s).scr;exact .inl ⟨a,_,rfl,.inl ha,by rw [List.length_map];exact k _ H (.pure s (.mkInt _))⟩
 . split at ho<;>cases ho;rename_i h;obtain ⟨x,rfl,q1⟩:=r.uno;cases q1.str;exact .inr (.inr ⟨_,rfl,W8 h,k _ H (.pure s (.mkInt _))⟩)
theorem Qi:E2 K false K7 Gu:=by
 intro H0 H xs ds z Q s r ho k;unfold K7 at ho;split at ho<;>first | cases ho | skip
 . obtain ⟨x,rfl,q1⟩:=r.uno;obtain ⟨a,ys,rfl,ha,ra⟩:=q1.lst;rename_i es;cases q:u8 es with
   | none=>rw [q] at ho;cases ho
   | some ns=>
    rw [q] at ho;cases ho
    rw [Tc]
    exact ⟨ns,by rw [<-Ec q ra];exact Uy (s _ _ ha),k _ H (.pure s (.mkInt _))⟩
 . obtain ⟨x,rfl,q1⟩:=r.uno;obtain ⟨a,ys,rfl,ha,ra⟩:=q1.tup;rename_i es;cases q:u8 es with
   | none=>rw [q] at ho;cases ho
   | some ns=>
    rw [q] at ho;cases ho
    rw [Tc]
    exact ⟨ns,by rw [<-Ec q ra];exact Ux (s _ _ ha),k _ H (.pure s (.mkInt _))⟩
theorem qx:E2 K false W7 Gs:=by
 intro H0 H xs ds z Q s r ho k;unfold W7 at ho;split at ho<;>first | cases ho | skip
 obtain ⟨x,rfl,q1⟩:=r.uno;obtain ⟨a,ys,rfl,ha,ra⟩:=q1.lst;rename_i es;cases q:J6 es with
 | none=>rw [q] at ho;cases ho
 | some ns=>
  rw [q] at ho;cases ho
  rw [wC]
  exact ⟨ns,by rw [<-Wb q ra];exact .inl (s _ _ ha),k _ H (.pure s (.mkBl _))⟩
def Qh (K:Frag):List V->Hp->VK->Prop:=fun xs H Q=>∃p ys,xs=[.ref p]/\(SqL K H p ys\/SqT K H p ys)/\∀l,H l=none->Q (.ref l) (upd H l (.lst ys))
theorem wo:CallR X (.type "list") (Qh X.K):=zV
theorem wm:E2 K true Ck (Qh K):=by
 intro H0 H xs ds z Q s r ho k;have fin:∀{p:Addr} {ys:List V} {es:List D},RDs K H0 es ys->z=.lst es->H p=none->Q (.ref p) (upd H p (.lst ys)):=fun {p ys es} re e hp=>by subst e;refine k _ _ (.new s hp fun H' hH=>?_);simp only [OB];exact ⟨_,hH,re⟩
 unfold Ck at ho;split at ho<;>first | cases ho | skip
 . obtain ⟨x,rfl,q1⟩:=r.uno;obtain ⟨a,ys,rfl,ha,ra⟩:=q1.lst;exact ⟨a,ys,rfl,.inl (.of (s _ _ ha)),fun l hl=>fin ra rfl hl⟩
 . obtain ⟨x,rfl,q1⟩:=r.uno;obtain ⟨a,ys,rfl,ha,ra⟩:=q1.tup;exact ⟨a,ys,rfl,.inr (.of (s _ _ ha)),fun l hl=>fin ra rfl hl⟩
 . obtain ⟨x,rfl,q1⟩:=r.uno;obtain ⟨a,rfl,ha⟩:=(q1.mono s).scr;exact ⟨a,_,rfl,.inl ha,fun l hl=>fin (RDs.ofInts _) rfl hl⟩
def Sq (K:Frag):List V->Hp->VK->Prop:=fun xs H Q=>∃p ys,xs=[.ref p]/\((SqL K H p ys/\∀l,H l=none->Q (.ref l) (upd H l (.tup ys)))\/(SqT K H p ys/\Q (.ref p) H))
theorem Q4:CallR X (.type "tuple") (Sq X.K):=za3
theorem Q3:E2 K false B9 (Sq K):=by
 intro H0 H xs ds z Q s r ho k;unfold B9 at ho;split at ho<;>first | cases ho | skip
 . obtain ⟨x,rfl,q1⟩:=r.uno;obtain ⟨a,ys,rfl,ha,ra⟩:=q1.lst;refine ⟨a,ys,rfl,.inl ⟨.of (s _ _ ha),fun l hl=>k _ _ (.val (Same.upd_new hl) (.new s hl) (.mkTup i9 (ra.mono (Same.upd_new (s.none hl)))))⟩⟩
 . obtain ⟨x,rfl,q1⟩:=r.uno;obtain ⟨a,ys,rfl,ha,ra⟩:=q1.tup;exact ⟨a,ys,rfl,.inr ⟨.of (s _ _ ha),k _ H (.pure s (.mkTup ha ra))⟩⟩
end
noncomputable def n9 {α:Type} (xs:List α) (lo hi:Option Int):List α:=(xs.drop (HT.sIx xs.length 0 lo)).take (HT.sIx xs.length xs.length hi - HT.sIx xs.length 0 lo)
def dSl:D->Option Int->Option Int->Option D
 | .lst ds,lo,hi=>some (.lst (n9 ds lo hi))
 | .scr ns,lo,hi=>some (.lst ((n9 ns lo hi).map .int))
 | _,_,_=>none
noncomputable def TOd (K:Frag) (EX:XW) (f:DE->R (Option Int)):TO:=fun σ H Q=>Same EX.hb H/\∃ρ H0,Same H0 H/\RE K H0 ρ σ/\Rk EX.at (f ρ) fun o=>∀H',Same H H'->Q o H'
noncomputable def oNo:DE->R (Option Int):=fun _=>.ok none
def oSo (f:DE->R D):DE->R (Option Int):=fun ρ=>(f ρ).bind fun d=>R.of (match d with | .int i=>some (some i) | _=>none)
def eSl (o:D->Option Int->Option Int->Option D) (f:DE->R D) (fl fh:DE->R (Option Int)):DE->R D:=fun ρ=>(f ρ).bind fun d=>(fl ρ).bind fun lo=>(fh ρ).bind fun hi=>R.of (o d lo hi)
def SlD (K:Frag) (fr:Bool) (o:D->Option Int->Option Int->Option D) (r:V->Option Int->Option Int->Hp->VK->Prop):Prop:=∀(H0 H:Hp) (x:V) (d z:D) (lo hi:Option Int) (Q:VK),Same H0 H->RD K H0 d x->o d lo hi=some z->(∀v H',Out K fr H0 H z v H'->Q v H')->r x lo hi H Q
section
variable {X:Cx} {K:Frag} {EX:XW} {fr:Bool} {σ:St} {H:Hp} {Q:VK}
structure QO (X:Cx) (EX:XW) (e:Option Expr) (f:DE->R (Option Int)):Prop where
 h:PO X e (TOd X.K EX f)
theorem PO.imp (h:PO X e t) (hi:∀σ H Q,t' σ H Q->t σ H Q):PO X e t':=fun pins s σ H Q I q=>h pins s σ H Q I (hi σ H Q q)
theorem Yu:QO X EX none oNo:=⟨po_none.imp fun σ H Q ⟨sx,ρ,H0,s,e,h⟩=>h H (Same.refl _)⟩
theorem Bp (he:QE X EX false e f):QO X EX (some e) (oSo f):=⟨(wN he.h).imp fun σ H Q ⟨sx,ρ,H0,s,e,h⟩=>by
 unfold oSo at h;rw [Rk.bind] at h;refine TEd.go sx s e h fun d h v H1 H1' s1 e1 r1=>?_
 obtain ⟨o,ho,h⟩:=h.of;cases d<;>dsimp only at ho<;>first | cases ho | skip
 cases r1.int;exact ⟨_,rfl,h H1 s1⟩⟩
theorem y2d (hs:SlD K fr o r) (h:TEd K EX fr (eSl o f fl fh) σ H Q):tSl r (TEd K EX false f) (TOd K EX fl) (TOd K EX fh) σ H Q:=by
 obtain ⟨sx,ρ,H0,s,e,h⟩:=h;unfold eSl at h;rw [Rk.bind] at h;refine TEd.go sx s e h fun d h v H1 H1' s1 e1 r1=>?_
 rw [Rk.bind] at h;refine ⟨sx.trans s1,ρ,H1',e1.2.1,e.mono e1.1,h.mono fun lo h H2 s2=>?_⟩;rw [Rk.bind] at h;refine ⟨(sx.trans s1).trans s2,ρ,H1',e1.2.1.trans s2,e.mono e1.1,h.mono fun hi h H3 s3=>?_⟩;obtain ⟨z,hz,h⟩:=h.of;exact hs H1' H3 v d z lo hi Q (e1.2.1.trans (s2.trans s3)) r1 hz fun w H4 o=>h w H4 (o.after (s1.trans (s2.trans s3)) (e1.grow (s2.trans s3)))
theorem RDs.cut (r:RDs K H ds xs) (lo hi:Option Int):RDs K H (n9 ds lo hi) (G0 xs lo hi):=by unfold n9 G0;rw [<-r.length];exact (r.drop _).take _
theorem So:SlD K true dSl (Zf K):=by
 intro H0 H x d z lo hi Q s r ho k;cases d<;>simp only [dSl] at ho<;>first | cases ho | skip
 . obtain ⟨a,xs,rfl,ha,ra⟩:=r.lst;refine ⟨a,xs,rfl,.of (s _ _ ha),fun p hp=>k _ _ (.new s hp fun H' hH=>?_)⟩;simp only [OB];exact ⟨_,hH,ra.cut lo hi⟩
 . rename_i ns;obtain ⟨a,rfl,ha⟩:=(r.mono s).scr;refine ⟨a,_,rfl,ha,fun p hp=>k _ _ (.new s hp fun H' hH=>?_)⟩;simp only [OB];have e:=(RDs.ofInts (K:=K) (H:=H0) ns).cut lo hi;refine ⟨_,hH,?_⟩;have e2:∀ns:List Int,n9 (ns.map D.int) lo hi=(n9 ns lo hi).map D.int:=fun ns=>by unfold n9;rw [List.length_map,List.map_take,List.map_drop]
   rw [e2] at e;exact e
theorem Fk {o:D->Option Int->Option Int->Option D} {r:V->Option Int->Option Int->Hp->VK->Prop} {e:Expr} {lo hi:Option Expr} {pos p2:Pos} {f:DE->R D} {fl fh:DE->R (Option Int)} (hr:SlR X r) (hs:SlD X.K fr o r) (he:QE X EX false e f) (hl:QO X EX lo fl) (hu:QO X EX hi fh) :
 QE X EX fr (.Subscript e (.Slice lo hi none p2) pos) (eSl o f fl fh):=⟨(yc hr he.h hl.h hu.h).imp fun _ _ _ q=>y2d hs q⟩
end
def iL (f:DE->R D):DE->R (List D):=fun ρ=>(f ρ).bind fun d=>R.of (items d)
noncomputable def zD (lo:Int) (n:Nat):List D:=(List.range n).map fun (i:Nat)=>D.int (lo+i)
def iEn (fs:DE->R (List D)):DE->R (List D):=fun ρ=>(fs ρ).bind fun ds=>R.of (match ds with
 | [.lst es]=>some (((zD 0 es.length).zip es).map fun p=>D.tup [p.1,p.2])
 | _=>none)
section
variable {X:Cx} {K:Frag} {EX:XW} {H0:Hp}
theorem Qg (hS:∀H,Same H0 H->S H) (r:RDs K H0 ds xs):R6 K (ItS S xs) H0 ds:=by have hl:=r.length;refine ⟨fun i d e H H1 s1 s2=>⟨⟨hS H (s1.trans s2),by rw [<-hl];exact (List.getElem?_eq_some_iff.mp e).1⟩,fun x H' ⟨e1,e2⟩=>?_⟩,fun H s=>⟨hS H s,by rw [hl];exact ζ _⟩⟩;subst e1;obtain ⟨x',q1,q2⟩:=r.get' e;rw [q1] at e2;cases e2;exact ⟨Same.refl _,H1,.refl s2,q2.mono s1⟩
theorem Oa (lo:Int) (n:Nat):RDs K H0 (zD lo n) (F9 lo n):=by
 have:∀l:List Nat,RDs K H0 (l.map fun (i:Nat)=>D.int (lo+i)) (l.map fun (i:Nat)=>V.int (lo+i)):=by
  intro l;induction l with
  | nil=>simp [RDs]
  | cons a l ih=>exact .cons (.mkInt _) ih
 exact this _
theorem t0 (hl:QE X EX false l f):QI X EX false tg l (iL f):=⟨(qQ hl.h).imp fun σ H Q ⟨sx,ρ,H0,s,e,h⟩=>by
 unfold iL at h;rw [Rk.bind] at h;refine TEd.go sx s e h fun d h v H1 H1' s1 e1 r1=>?_
 obtain ⟨ds,hd,h⟩:=h.of;cases d<;>simp only [items] at hd<;>first | cases hd | skip
 . obtain ⟨a,xs,rfl,ha,ra⟩:=r1.tup;exact xU (e1.2.1 _ _ ha) (h _ H1 H1' s1 e1 (Qg (fun H s=>s _ _ ha) ra))
 . obtain ⟨a,xs,rfl,ha,ra⟩:=r1.lst;exact xV (.inl (e1.2.1 _ _ ha)) (h _ H1 H1' s1 e1 (Qg (fun H s=>.inl (s _ _ ha)) ra))⟩
theorem Hu (hS:∀H,Same H0 H->S H) (r:RDs K H0 ds xs) (r':RDs K H0 es ys):R6 K (ItP S (xs.zip ys)) H0 ((ds.zip es).map fun p=>D.tup [p.1,p.2]):=by
 have hl:=r.length;have hl':=r'.length;have hz:((ds.zip es).map fun p=>D.tup [p.1,p.2]).length=(xs.zip ys).length:=by rw [List.length_map,List.length_zip,List.length_zip,hl,hl']
 refine ⟨fun i d e H H1 s1 s2=>⟨⟨hS H (s1.trans s2),by rw [<-hz];exact (List.getElem?_eq_some_iff.mp e).1⟩,fun x H' y=>?_⟩,fun H s=>⟨hS H s,hz⟩⟩;obtain ⟨T,a,b,rfl,hT,rfl,ep⟩:=y;obtain ⟨ea,eb⟩:=List.getElem?_zip_eq_some.mp ep;obtain ⟨da,ga,ra⟩:=r.get ea;obtain ⟨db,gb,rb⟩:=r'.get eb;have gz:(ds.zip es)[i]?=some (da,db):=List.getElem?_zip_eq_some.mpr ⟨ga,gb⟩;rw [List.getElem?_map,gz] at e;cases e;refine ⟨Same.upd_new hT,upd H1 T (.tup [a,b]),.new s2 hT,.mkTup i9 ?_⟩;have sm:=Same.upd_new (o:=.tup [a,b]) (s2.none hT);exact .cons (ra.mono (s1.trans sm)) (.cons (rb.mono (s1.trans sm)) .nil)
theorem Fj (hg:Gl X "enumerate") (hm:X.mg "enumerate"=none) (ha:QA X EX [a] fs) (hs:starEach [a] X.env=[(false,eval a X.env)]:=by rfl) :
  QI X EX false (.Tuple elts k tpos) (.Call (.Name "enumerate" p) [a] [] pos) (iEn fs):=⟨(wF hg hm ha.h hs).imp fun σ H Q ⟨sx,ρ,H0,s,e,h⟩=>by
 unfold iEn at h
 rw [Rk.bind] at h
 refine TAd.go sx s e h fun ds h vs H1 H1' s1 e1 r1=>?_
 obtain ⟨es,hd,h⟩:=h.of
 split at hd<;>first | cases hd | skip
 obtain ⟨x,rfl,q1⟩:=r1.uno
 obtain ⟨l,xs,rfl,hl,rl⟩:=q1.lst
 refine ⟨xs,.inl (e1.2.1 _ _ hl),h _ H1 H1' s1 e1 ?_⟩
 rw [rl.length]
 exact Hu (fun H s=>.inl (s _ _ hl)) (Oa _ _) rl⟩
end
section
variable {X:Cx} {sc:Scope} {caps:List Str} {ix:List Nat} {elt iter:Expr} {ifs:List Expr} {pos px py tpos:Pos} {x y:Str} {kt:Nat} {kp:Bool} {EX:XW} {fi:DE->R (List D)} {t:DE->R Bool} {f:DE->R D}
noncomputable def K6:DE->R Bool:=fun _=>.ok true
inductive PTq (X:Cx) (sc:Scope) (N:List Str):List Expr->(DE->R Bool)->Prop where
 | nil:PTq X sc N [] K6
 | one {c:Expr} {t:DE->R Bool} (h:∀fp s H,QT (j6 X sc N fp s H) F0 c t):PTq X sc N [c] t
theorem PTq.run (h:PTq X sc N ifs t):∃tt,(∀fp s H,PTs (j6 X sc N fp s H) ifs tt)/\∀σ H Q,TTd X.K F0 t σ H Q->tt σ H Q:=by
 cases h with
 | nil=>exact ⟨_,fun _ _ _=>.nil,fun σ H Q ⟨sx,ρ,H0,s,e,h⟩=>h H (Same.refl _)⟩
 | one h=>exact ⟨_,fun fp s H=>.one (h fp s H).h,fun _ _ _ q=>q⟩
theorem Bo (C:CompOk X sc caps ix) (hN:([x]++caps).Nodup) (hx:sc.names.lookup x=some .local) (hi:QI X EX kp (.Name x px) iter fi) (ht:PTq X sc ([x]++caps) ifs t) (he:∀fp s H,QE (j6 X sc ([x]++caps) fp s H) F0 false elt f)
  (hs:∀x,foldedSetIterable iter X.env x=pure x:=by intro _;rfl):QE X EX true (.ListComp elt [⟨.Name x px,iter,ifs,0⟩] sc pos) (p7 fi b1 ix t f):=by
 obtain ⟨tt,h1,h2⟩:=ht.run
 refine ⟨(xT C hN hx hi.h h1 (fun fp s H=>(he fp s H).h) hs).imp fun _ _ _ q=>Hw Yy h2 q⟩
theorem Yt (C:CompOk X sc caps ix) (hN:([x,y]++caps).Nodup) (hx:sc.names.lookup x=some .local) (hy:sc.names.lookup y=some .local) (hi:QI X EX kp (.Tuple [.Name x px,.Name y py] kt tpos) iter fi) (ht:PTq X sc ([x,y]++caps) ifs t)
  (he:∀fp s H,QE (j6 X sc ([x,y]++caps) fp s H) F0 false elt f) (hs:∀x,foldedSetIterable iter X.env x=pure x:=by intro _;rfl):QE X EX true (.ListComp elt [⟨.Tuple [.Name x px,.Name y py] kt tpos,iter,ifs,0⟩] sc pos) (p7 fi (bT 2) ix t f):=by
 obtain ⟨tt,h1,h2⟩:=ht.run
 refine ⟨(xR C hN hx hy hi.h h1 (fun fp s H=>(he fp s H).h) hs).imp fun _ _ _ q=>Hw y2b h2 q⟩
theorem yx (h:∀σ H Q,te' σ H Q->te σ H Q) (q:C3 te' g De σ H):C3 te g De σ H:=h _ _ _ q
theorem Bn {fr:Bool} {m:List Bool} {v:Str} {k:Nat} {spos pv:Pos} (hNX:X.N.Nodup) (hk:X.N[k]?=some v) (hv:X.env.scope.names.lookup v=some .local) (C:CompOk X sc caps ix) (hN:([x]++caps).Nodup) (hx:sc.names.lookup x=some .local) (hi:QI X EX kp (.Name x px) iter fi)
  (ht:PTq X sc ([x]++caps) ifs t) (he:∀fp s H,QE (j6 X sc ([x]++caps) fp s H) F0 false elt f)
  (hsw:swapsWith (.ListComp elt [⟨.Name x px,iter,ifs,0⟩] sc pos) (some (.Name v pv)) spos.line X.env=pure true:=by rfl) (hs:∀x,foldedSetIterable iter X.env x=pure x:=by intro _;rfl) :
  QS X EX fr (.Assign [.Name v pv] (.ListComp elt [⟨.Name x px,iter,ifs,0⟩] sc pos) spos) (i4 true k m (p7 fi b1 ix t f)):=by
 obtain ⟨tt,h1,h2⟩:=ht.run
 refine ⟨(xS hNX hk hv C hN hx hi.h h1 (fun fp s H=>(he fp s H).h) hsw hs).imp fun _ _ _ q=>yx (fun _ _ _ q=>Hw Yy h2 q) (Gq q)⟩
end
section
variable {X:Cx} {EX:XW} {fr fr':Bool} {st:Stmt} {sts:List Stmt} {a b c e:Expr} {es:List Expr} {f fv fk:DE->R D} {fs:DE->R (List D)} {t:DE->R Bool} {g g1 g2:DS->SR} {pos p:Pos} {m:List Bool}
theorem k9:QB X EX fr [] sNx:=⟨pss_nil.imp fun _ _ _ q=>Ft q⟩
theorem c8 (h:QS X EX fr st g):QB X EX fr [st] g:=⟨Kh h.h⟩
theorem d6 (h1:QS X EX fr st g1) (h2:QB X EX fr sts g2):QB X EX fr (st::sts) (c7 g1 g2):=⟨(Ld h1.h h2.h).imp fun _ _ _ q=>Gr q⟩
theorem k8 (hc:QT X EX c t) (ha:QB X EX fr x g1) (hb:QB X EX fr y g2):QS X EX fr (.If c x y pos) (sIf t g1 g2):=⟨(Ov hc.h ha.h hb.h).imp fun _ _ _ q=>Of q⟩
theorem e9 (he:QE X EX fr e f):QS X EX fr (.Return (some e) pos) (e7 m f):=⟨(Jc he.h).imp fun _ _ _ q=>ju q⟩
theorem Z0 (hN:X.N[i]?=some x:=by rfl) (hv:Vis X.env.scope x:=by first | exact Or.inl rfl | exact Or.inr (Or.inl rfl) | exact Or.inr (Or.inr rfl)) (hd:(x==("__debug__":Str))=false:=by decide)
 (hcd:(x==("__classdict__":Str))=false:=by decide):QS X EX true (.Return (some (.Name x p)) pos) (N4 i):=⟨(Jc (pw i hN hv hd hcd)).imp fun _ _ _ q=>qJ q⟩
theorem Qf (he:QE X EX false e f) (hs:swapsWith e none pos.line X.env=pure false:=by rfl):QS X EX fr (.Expr e pos) (J3 f):=⟨(Kg he.h hs).imp fun _ _ _ q=>qH q⟩
theorem jd (hN:X.N.Nodup) (hi:X.N[i]?=some x) (hx:Loc X.env.scope x) (he:QE X EX fr' e f) (hs:swapsWith e (some (.Name x pos')) pos.line X.env=pure false:=by rfl) (hf:X.fn x=true\/X.env.scope.names.lookup x=some .local:=by first | exact .inl rfl | exact .inr rfl | assumption) :
 QS X EX fr (.Assign [.Name x pos'] e pos) (i4 fr' i m f):=⟨(Hz hN hi hx he.h hs hf).imp fun _ _ _ q=>Gq q⟩
theorem g_n (hN:X.N.Nodup) (hi:X.N[i]?=some x) (hx:Loc X.env.scope x) (hf:X.fn x=true\/X.env.scope.names.lookup x=some .local:=by first | exact .inl rfl | exact .inr rfl | assumption):QG X (.Name x pos) (.n i):=⟨(Dp hN hi hx hf).imp fun _ _ _ _ q=>Yz q⟩
theorem P6:QGs X [] []:=⟨xQ⟩
theorem w8 (hN:X.N.Nodup) (hi:X.N[i]?=some x) (hx:Loc X.env.scope x) (hr:QGs X ts is) (hf:X.fn x=true\/X.env.scope.names.lookup x=some .local:=by first | exact .inl rfl | exact .inr rfl | assumption)
 (hs:(assignEach (.Name x pos::ts) X.env).map (·.2)=assign (.Name x pos) X.env::(assignEach ts X.env).map (·.2):=by rfl):QGs X (.Name x pos::ts) (i::is):=⟨yC (Dp hN hi hx hf) hr.h hs⟩
theorem g_t (hc:X.calm=true) (h:QGs X ts is) (hn:(assignEach ts X.env).length=is.length:=by rfl) (hst:(assignEach ts X.env).findIdx? (·.1)=none:=by rfl):QG X (.Tuple ts k pos) (.t is):=⟨(wD hc h.h hn hst).imp fun _ _ _ _ q=>y29 q⟩
theorem G6 (hp:PassesOwn (model X.prog X.w) X.A X.env X.xe) (hc:X.calm=true) (hi:QI X EX kp tg iter fi) (hg:QG X tg tt) (hb:QB X EX fr body g)
 (hs:∀x,foldedSetIterable iter X.env x=pure x:=by intro _;rfl):QS X EX fr (.For tg iter body [] pos) (r8 kp m fi tt g):=⟨(Td hp hc hi.h hg.h hb.h hs).imp fun _ _ _ q=>Od q⟩
theorem Sn (hp:PassesOwn (model X.prog X.w) X.A X.env X.xe) (hc:QT X EX c t) (hb:QB X EX fr body g):QS X EX fr (.While c body [] pos) (P7 n t g):=⟨(ye hp hc.h hb.h).imp fun _ _ _ q=>wx q⟩
noncomputable def v4:D->List D->Option D
 | .lst ds,[d]=>if ds.length<100000 then some (.lst (ds++[d])) else none
 | _,_=>none
theorem P9 {K:Frag}:TyD K "list":=fun H0 H a d ob h=>by cases d<;>simp [isT] at h;simp only [OB] at ob;obtain ⟨xs,hx,_⟩:=ob;exact .inl ⟨rfl,xs,.of hx⟩
theorem U4 {K:Frag}:X0 K v4 Th:=by
 intro H0 H a d d' ds vs Q s h0 ob r hm k;unfold v4 at hm;split at hm<;>first | cases hm | skip
 split at hm<;>cases hm;rename_i es e hl;simp only [OB] at ob;obtain ⟨xs,hx,rx⟩:=ob;obtain ⟨y,rfl,q1⟩:=r.uno;refine ⟨a,xs,y,rfl,rfl,hx,by rw [<-rx.length];exact Q6 hl,k _ _ ?_⟩;simp only [OB];exact ⟨_,i9,rx.append (.one q1)⟩
theorem T4 {T id:String} {name:Str} {i:Nat} {x:Str} {xp apos cpos:Pos} {mt:D->List D->Option D} {rr:V->List V->Hp->VK->Prop} (pa:PlainAttrs T) (slot:Slot T name id) (hty:typeOf (.builtin id)=pure (.type "method_descriptor")) (hm:MtM X id rr) (od:X0 X.K mt rr) (hT:TyD X.K T)
 (ho:PE X (.Name x xp) (l8 i)) (ha:QA X EX (e::es) fs)
 (hbase:attributeBase (.Name x xp) name X.env (eval (.Name x xp) X.env)=eval (.Name x xp) X.env:=by rfl)
 (hfew:((backTo cpos (starEach (e::es) X.env)).all (fun x=>!x.1)&&(backToKw cpos (keywordEach [] X.env)).all (fun x=>x.1.isSome)
  && decide ((e::es).length+([]:List Keyword).length+(if ([]:List Keyword).isEmpty then 0 else 1)<30))=true:=by rfl)
 (hline:(apos.endLine==cpos.line)=true:=by rfl) (hs:starEach (e::es) X.env=(false,eval e X.env)::starEach es X.env:=by rfl) (hplain:(backTo cpos (starEach es X.env)).any (·.1)=false:=by rfl)
 (hsw:swapsWith (.Call (.Attribute (.Name x xp) name apos) (e::es) [] cpos) none pos.line X.env=pure false:=by rfl) :
 QS X EX fr (.Expr (.Call (.Attribute (.Name x xp) name apos) (e::es) [] cpos) pos) (C5 T mt i m fs):=⟨(Kg (Oq pa slot hty hm ho ha.h hbase hfew hline hs hplain) hsw).imp fun _ _ _ q=>Oe od hT q⟩
def D8:D->D->D->Option D
 | .lst ds,.int i,v=>(ixN ds.length i).map fun j=>.lst (ds.set j v)
 | .dk ks ds,k,v=>if ks.length<100000 then (F7 k).map fun k=>.dk (C8 ks k) (l6 ks ds k v) else none
 | .dt ks ds,.tup es,v=>if ks.length<100000 then (N1 es).map fun k=>.dt (C8 ks k) (l6 ks ds k v) else none
 | _,_,_=>none
noncomputable def Nz:S3:=fun o i v H Q=>Os o i v H Q\/∃a H',o=.ref a/\DPut H a i v H'/\Q H'
theorem jc (hu:X.A.units+64<cLine):Ce X Nz:=by
 intro pins s σ H o i v ov iv u Q I ro ri rv h;rcases h with h | ⟨a,H',rfl,g,q⟩
 . exact ya pins s σ H o i v ov iv u Q I ro ri rv h
 . cases ro;exact yK (by lia) I g ri rv fun s' I'=>⟨H',I',q⟩
theorem qw {K:Frag}:Fs K D8 Nz:=by
 intro H0 H a d d' dk dv y v Q s h0 ob rk rv hm k;cases d<;>simp only [D8] at hm<;>first | cases hm | skip
 . cases dk<;>simp only [D8] at hm<;>first | cases hm | skip
   rename_i ds i;simp only [OB] at ob;obtain ⟨xs,hx,rx⟩:=ob;cases rk.int;cases hj:ixN ds.length i with
   | none=>rw [hj] at hm;cases hm
   | some j=>
    rw [hj] at hm;cases hm
    refine .inl ⟨a,xs,i,j,rfl,rfl,hx,by rw [<-rx.length];exact hj,k _ ?_⟩
    simp only [OB]
    exact ⟨_,i9,rx.set j rv⟩
 . rename_i ks ds;split at hm
   . rename_i hl;cases hk:F7 dk with
     | none=>rw [hk] at hm;cases hm
     | some kk=>
      rw [hk] at hm
      have hm:D.dk (C8 ks kk) (l6 ks ds kk dv)=d':=by simpa using hm
      subst hm
      simp only [OB] at ob
      obtain ⟨xs,hx,hlen,rx⟩:=ob
      cases Jw hk rk
      refine .inr ⟨a,_,rfl,DPut.k hx (by rw [List.length_zip,<-hlen,Nat.min_self];exact Q6 hl),k _ ?_⟩
      obtain ⟨e1,e2⟩:=Ue kk v hlen
      simp only [OB]
      exact ⟨_,by rw [i9,e1],e2,Ju kk rv rx⟩
   . cases hm
 . rename_i ks ds;cases dk<;>simp only [D8] at hm<;>first | cases hm | skip
   rename_i es;split at hm
   . rename_i hl;cases hk:N1 es with
     | none=>rw [hk] at hm;cases hm
     | some kk=>
      rw [hk] at hm
      have hm:D.dt (C8 ks kk) (l6 ks ds kk dv)=d':=by simpa using hm
      subst hm
      simp only [OB] at ob
      obtain ⟨xs,hx,hlen,rx⟩:=ob
      obtain ⟨b,ys,rfl,hb,rb⟩:=rk.tup
      have e:=Kt hk rb
      subst e
      refine .inr ⟨a,_,rfl,DPut.t hx (s _ _ hb) (by rw [List.length_zip,<-hlen,Nat.min_self];exact Q6 hl),k _ ?_⟩
      obtain ⟨e1,e2⟩:=Ue kk v hlen
      simp only [OB]
      exact ⟨_,by rw [i9,e1],e2,Ju kk rv rx⟩
   . cases hm
theorem Ny (hu:X.A.units+64<cLine) (ho:PE X o (l8 i)) (hk:QE X EX false ix fk) (hv:QE X EX false e fv)
 (ha:∀v,assign (.Subscript o ix tpos) X.env v=(do
  let ov <-holding [v] (eval o X.env)
  let iv <-holding [v,ov] (eval ix X.env)
  standAt tpos
  holding [v,ov,iv] (setItem ov iv v)
  release [v,ov,iv] []):=by intro _;rfl) (hs:swapsWithSole [.Subscript o ix tpos] e pos.line X.env=pure false:=by rfl) (hw:swappedStores [.Subscript o ix tpos] e X.env=pure none:=by rfl)
 (h1:(assignEach [.Subscript o ix tpos] X.env).map (·.2)=[assign (.Subscript o ix tpos) X.env]:=by rfl):QS X EX fr (.Assign [.Subscript o ix tpos] e pos) (G4 D8 i m fk fv):=⟨(Ja hv.h (Jb ho hk.h (jc hu) ha) hs hw h1).imp fun _ _ _ q=>Gp qw q⟩
noncomputable def Gm:DE->R D:=fun _=>.ok (.dk [] [])
theorem qu:QE X EX true (.Dict [] [] pos) Gm:=⟨pe_dnewK.imp fun σ H Q ⟨sx,ρ,H0,s,e,h⟩ p hp=>h _ _ (.new s hp fun H' hH=>by simp only [OB];exact ⟨[],hH,rfl,.nil⟩)⟩
end
theorem fnD {P:Program} {w:World} {K:Frag} {mg:Str->Option Value} {base:Heap} {x qual:Str} {st:Stmt} {f:Addr} {fd:FuncData} {N ps:List Str} {k n kk:Nat} {fr:Bool} {g:DS->SR} (F:Fun K x qual st f fd) (S:FnScope N ps (d9 st)) (hps:ps.length=n) (hN:N.length=n+kk)
  (hbody:∀(cdv:Value) (A:Around) (outer:List Env) (s:Shared) (H:Hp) (E:XK),Room k (A.deeper (envOfC qual (d9 st) s.heap.objs.size f cdv)) ->
   QB (x5 (CX1 P w) P w K mg base N qual (d9 st) f cdv A outer s H E) ⟨H,xNm K mg E⟩ fr (y9 st) g):FnOk P w K mg base (CX1 P w) (k+1) f fd ps (spD K mg fr (mOf fr n kk g) n):=by
 have hlen:∀{vs:List V} {H:Hp} {Q:VK} {E:XK},spD K mg fr (mOf fr n kk g) n vs H Q E->vs.length=n:=fun {vs H Q E} h=>by obtain ⟨ds,H0,s,r,hn,_⟩:=h;rw [<-r.length];exact hn
 refine F.okX S (fun vs H Q E h=>by rw [hlen h,hps]) (fun cdv A outer s H vs Q E hr h=>⟨_,(hbody cdv A outer s H E hr).h,?_⟩)
 have e:start N vs=vs.map some++List.replicate kk none:=by unfold start;rw [hlen h,hN,Nat.add_sub_cancel_left]
 rw [e]
 exact qF h
noncomputable def spL (K:Frag) (fr:Bool) (m:List D->R D) (n:Nat):Sp:=fun vs H Q _=>∃ds H0,Same H0 H/\RDs K H0 ds vs/\ds.length=n/\Rk (fun _=>False) (m ds) fun d=>∀v H',Out K fr H0 H d v H'->Q v H'
theorem spL.spD {K:Frag} {fr:Bool} {m:List D->R D} {n:Nat} {vs:List V} {H:Hp} {Q:VK} {E:XK} {mg:Str->Option Value} (h:spL K fr m n vs H Q E):L2.spD K mg fr m n vs H Q E:=by
 obtain ⟨ds,H0,s,r,hn,h⟩:=h;refine ⟨ds,H0,s,r,hn,?_⟩;cases q:m ds with
 | ok d=>rw [q] at h;exact h
 | er x=>rw [q] at h;exact h.elim
 | st=>rw [q] at h;exact h.elim
theorem qt {K:Frag} {H:Hp} {a:Addr} {ns:List Int} {m:List D->R D} {fr:Bool} (hO:Ca H) (hS:SqL K H a (ns.map V.int)) (h:m [.scr ns]=.ok (.bl true)):spL K fr m 1 [.ref a] H (fun v _=>v=.bl true) fun _ _ _=>False:=by
 refine ⟨[.scr ns],H,Same.refl _,.one ?_,rfl,?_⟩
 . simp only [RD];refine ⟨a,rfl,?_⟩;rcases hS with (hS | hS) | hS
   . rcases hO a with z | ⟨o,xs,z⟩<;>rw [z] at hS<;>cases hS
   . exact .inl hS
   . exact .inr hS
 . rw [h];exact fun v H' o=>by obtain ⟨_,H0',_,r⟩:=o.weak.rd;exact r.bl
end L2
namespace L2
open PySem PySem.Spec PyProof.Rows
open PySem.W (KasT kas_sort kas_rev kas_asc kas_desc kas_tail3 kas_descPart kas_count kas_place kas_bin)
end L2
namespace L2
open PySem PySem.Spec PyProof.Rows
open PySem.W (KasT kas_sort)
mutual
noncomputable def D.oi:D->Bool
 | .int _=>true
 | .tup ds=>ois ds
 | _=>false
noncomputable def ois:List D->Bool
 | []=>true
 | d::ds=>d.oi&&ois ds
end
mutual
noncomputable def ltT:D->D->Bool
 | .int i,.int j=>decide (i<j)
 | .int _,.tup _=>true
 | .tup ds,.tup es=>i6 ds es
 | _,_=>false
noncomputable def i6:List D->List D->Bool
 | [],[]=>false
 | [],_::_=>true
 | _::_,[]=>false
 | d::ds,e::es=>if eqD d e=true then i6 ds es else ltT d e
end
mutual
noncomputable def d8:D->D->Option Bool
 | .int i,.int j=>some (decide (i<j))
 | .tup ds,.tup es=>j4 ds es
 | _,_=>none
noncomputable def j4:List D->List D->Option Bool
 | [],[]=>some false
 | [],_::_=>some true
 | _::_,[]=>some false
 | d::ds,e::es=>if eqD d e=true then j4 ds es else d8 d e
end
mutual
theorem Qe:∀{d e:D} {b:Bool},d8 d e=some b->b=ltT d e
 | .int i,.int j,b,h=>by simp only [d8,Option.some.injEq] at h;simp only [ltT];exact h.symm
 | .tup ds,.tup es,b,h=>by simp only [d8] at h;simp only [ltT];exact Sm h
 | .non,e,b,h=>by simp [d8] at h
 | .bl _,e,b,h=>by simp [d8] at h
 | .str _,e,b,h=>by simp [d8] at h
 | .lst _,e,b,h=>by simp [d8] at h
 | .dk _ _,e,b,h=>by simp [d8] at h
 | .dt _ _,e,b,h=>by simp [d8] at h
 | .dn _ _,e,b,h=>by simp [d8] at h
 | .scr _,e,b,h=>by simp [d8] at h
 | .exc _ _,e,b,h=>by simp [d8] at h
 | .int _,.non,b,h=>by simp [d8] at h
 | .int _,.bl _,b,h=>by simp [d8] at h
 | .int _,.str _,b,h=>by simp [d8] at h
 | .int _,.lst _,b,h=>by simp [d8] at h
 | .int _,.tup _,b,h=>by simp [d8] at h
 | .int _,.dk _ _,b,h=>by simp [d8] at h
 | .int _,.dt _ _,b,h=>by simp [d8] at h
 | .int _,.dn _ _,b,h=>by simp [d8] at h
 | .int _,.scr _,b,h=>by simp [d8] at h
 | .int _,.exc _ _,b,h=>by simp [d8] at h
 | .tup _,.non,b,h=>by simp [d8] at h
 | .tup _,.bl _,b,h=>by simp [d8] at h
 | .tup _,.int _,b,h=>by simp [d8] at h
 | .tup _,.str _,b,h=>by simp [d8] at h
 | .tup _,.lst _,b,h=>by simp [d8] at h
 | .tup _,.dk _ _,b,h=>by simp [d8] at h
 | .tup _,.dt _ _,b,h=>by simp [d8] at h
 | .tup _,.dn _ _,b,h=>by simp [d8] at h
 | .tup _,.scr _,b,h=>by simp [d8] at h
 | .tup _,.exc _ _,b,h=>by simp [d8] at h
theorem Sm:∀{ds es:List D} {b:Bool},j4 ds es=some b->b=i6 ds es
 | [],[],b,h=>by simp only [j4,Option.some.injEq] at h;simp only [i6];exact h.symm
 | [],_::_,b,h=>by simp only [j4,Option.some.injEq] at h;simp only [i6];exact h.symm
 | _::_,[],b,h=>by simp only [j4,Option.some.injEq] at h;simp only [i6];exact h.symm
 | d::ds,e::es,b,h=>by
  simp only [j4] at h;simp only [i6];split at h
  . rename_i q;rw [ξ q];exact Sm h
  . rename_i q;rw [ψ q];exact Qe h
end
mutual
theorem M7:∀{d e:D},d.oi=true->eqD d e=true->e.oi=true->d=e
 | .int i,.int j,_,h,_=>by simp only [eqD,beq_iff_eq] at h;rw [h]
 | .tup ds,.tup es,p,h,q=>by simp only [eqD] at h;simp only [D.oi] at p q;rw [Qd p h q]
 | .int i,.tup _,_,h,_=>by simp [eqD] at h
 | .tup _,.int _,_,h,_=>by simp [eqD] at h
 | .int _,.non,_,_,q=>by simp [D.oi] at q
 | .int _,.bl _,_,_,q=>by simp [D.oi] at q
 | .int _,.str _,_,_,q=>by simp [D.oi] at q
 | .int _,.lst _,_,_,q=>by simp [D.oi] at q
 | .int _,.dk _ _,_,_,q=>by simp [D.oi] at q
 | .int _,.dt _ _,_,_,q=>by simp [D.oi] at q
 | .int _,.dn _ _,_,_,q=>by simp [D.oi] at q
 | .int _,.scr _,_,_,q=>by simp [D.oi] at q
 | .int _,.exc _ _,_,_,q=>by simp [D.oi] at q
 | .tup _,.non,_,_,q=>by simp [D.oi] at q
 | .tup _,.bl _,_,_,q=>by simp [D.oi] at q
 | .tup _,.str _,_,_,q=>by simp [D.oi] at q
 | .tup _,.lst _,_,_,q=>by simp [D.oi] at q
 | .tup _,.dk _ _,_,_,q=>by simp [D.oi] at q
 | .tup _,.dt _ _,_,_,q=>by simp [D.oi] at q
 | .tup _,.dn _ _,_,_,q=>by simp [D.oi] at q
 | .tup _,.scr _,_,_,q=>by simp [D.oi] at q
 | .tup _,.exc _ _,_,_,q=>by simp [D.oi] at q
 | .non,_,p,_,_=>by simp [D.oi] at p
 | .bl _,_,p,_,_=>by simp [D.oi] at p
 | .str _,_,p,_,_=>by simp [D.oi] at p
 | .lst _,_,p,_,_=>by simp [D.oi] at p
 | .dk _ _,_,p,_,_=>by simp [D.oi] at p
 | .dt _ _,_,p,_,_=>by simp [D.oi] at p
 | .dn _ _,_,p,_,_=>by simp [D.oi] at p
 | .scr _,_,p,_,_=>by simp [D.oi] at p
 | .exc _ _,_,p,_,_=>by simp [D.oi] at p
theorem Qd:∀{ds es:List D},ois ds=true->l7 ds es=true->ois es=true->ds=es
 | [],[],_,_,_=>rfl
 | [],_::_,_,h,_=>by simp [l7] at h
 | _::_,[],_,h,_=>by simp [l7] at h
 | d::ds,e::es,p,h,q=>by simp only [l7,Bool.and_eq_true] at h;simp only [ois,Bool.and_eq_true] at p q;rw [M7 p.1 h.1 q.1,Qd p.2 h.2 q.2]
end
mutual
theorem Ad:∀{d:D},d.oi=true->eqD d d=true
 | .int i,_=>by simp [eqD]
 | .tup ds,p=>by simp only [eqD];exact Uc (by simpa only [D.oi] using p)
 | .non,p=>by simp [D.oi] at p
 | .bl _,p=>by simp [D.oi] at p
 | .str _,p=>by simp [D.oi] at p
 | .lst _,p=>by simp [D.oi] at p
 | .dk _ _,p=>by simp [D.oi] at p
 | .dt _ _,p=>by simp [D.oi] at p
 | .dn _ _,p=>by simp [D.oi] at p
 | .scr _,p=>by simp [D.oi] at p
 | .exc _ _,p=>by simp [D.oi] at p
theorem Uc:∀{ds:List D},ois ds=true->l7 ds ds=true
 | [],_=>rfl
 | d::ds,p=>by simp only [ois,Bool.and_eq_true] at p;simp only [l7,Ad p.1,Uc p.2,Bool.and_self]
end
mutual
theorem U3:∀{d e:D},d.oi=true->e.oi=true->ltT d e=false->ltT e d=false->d=e
 | .int i,.int j,_,_,h,h'=>by
  simp only [ltT,decide_eq_false_iff_not] at h h';have:i=j:=by lia
  rw [this]
 | .tup ds,.tup es,p,q,h,h'=>by simp only [ltT] at h h';simp only [D.oi] at p q;rw [Sk p q h h']
 | .int _,.tup _,_,_,h,_=>by simp [ltT] at h
 | .tup _,.int _,_,_,_,h=>by simp [ltT] at h
 | .int _,.non,_,q,_,_=>by simp [D.oi] at q
 | .int _,.bl _,_,q,_,_=>by simp [D.oi] at q
 | .int _,.str _,_,q,_,_=>by simp [D.oi] at q
 | .int _,.lst _,_,q,_,_=>by simp [D.oi] at q
 | .int _,.dk _ _,_,q,_,_=>by simp [D.oi] at q
 | .int _,.dt _ _,_,q,_,_=>by simp [D.oi] at q
 | .int _,.dn _ _,_,q,_,_=>by simp [D.oi] at q
 | .int _,.scr _,_,q,_,_=>by simp [D.oi] at q
 | .int _,.exc _ _,_,q,_,_=>by simp [D.oi] at q
 | .tup _,.non,_,q,_,_=>by simp [D.oi] at q
 | .tup _,.bl _,_,q,_,_=>by simp [D.oi] at q
 | .tup _,.str _,_,q,_,_=>by simp [D.oi] at q
 | .tup _,.lst _,_,q,_,_=>by simp [D.oi] at q
 | .tup _,.dk _ _,_,q,_,_=>by simp [D.oi] at q
 | .tup _,.dt _ _,_,q,_,_=>by simp [D.oi] at q
 | .tup _,.dn _ _,_,q,_,_=>by simp [D.oi] at q
 | .tup _,.scr _,_,q,_,_=>by simp [D.oi] at q
 | .tup _,.exc _ _,_,q,_,_=>by simp [D.oi] at q
 | .non,_,p,_,_,_=>by simp [D.oi] at p
 | .bl _,_,p,_,_,_=>by simp [D.oi] at p
 | .str _,_,p,_,_,_=>by simp [D.oi] at p
 | .lst _,_,p,_,_,_=>by simp [D.oi] at p
 | .dk _ _,_,p,_,_,_=>by simp [D.oi] at p
 | .dt _ _,_,p,_,_,_=>by simp [D.oi] at p
 | .dn _ _,_,p,_,_,_=>by simp [D.oi] at p
 | .scr _,_,p,_,_,_=>by simp [D.oi] at p
 | .exc _ _,_,p,_,_,_=>by simp [D.oi] at p
theorem Sk:∀{ds es:List D},ois ds=true->ois es=true->i6 ds es=false->i6 es ds=false->ds=es
 | [],[],_,_,_,_=>rfl
 | [],_::_,_,_,h,_=>by simp [i6] at h
 | _::_,[],_,_,_,h=>by simp [i6] at h
 | d::ds,e::es,p,q,h,h'=>by
  simp only [ois,Bool.and_eq_true] at p q;simp only [i6] at h h';by_cases w:eqD d e=true
  . have:=M7 p.1 w q.1;subst this;rw [ξ w] at h;rw [ξ w] at h';rw [Sk p.2 q.2 h h']
  . have w':¬eqD e d=true:=fun z=>w (by rw [M7 q.1 z p.1];exact Ad p.1)
    rw [ψ w] at h;rw [ψ w'] at h';have:=U3 p.1 q.1 h h';subst this;exact absurd (Ad p.1) w
end
mutual
theorem Ht:∀{d:D},d.oi=true->ltT d d=false
 | .int i,_=>by simp [ltT]
 | .tup ds,p=>by simp only [ltT];exact Sj (by simpa only [D.oi] using p)
 | .non,p=>by simp [D.oi] at p
 | .bl _,p=>by simp [D.oi] at p
 | .str _,p=>by simp [D.oi] at p
 | .lst _,p=>by simp [D.oi] at p
 | .dk _ _,p=>by simp [D.oi] at p
 | .dt _ _,p=>by simp [D.oi] at p
 | .dn _ _,p=>by simp [D.oi] at p
 | .scr _,p=>by simp [D.oi] at p
 | .exc _ _,p=>by simp [D.oi] at p
theorem Sj:∀{ds:List D},ois ds=true->i6 ds ds=false
 | [],_=>rfl
 | d::ds,p=>by simp only [ois,Bool.and_eq_true] at p;simp only [i6];rw [ξ (Ad p.1)];exact Sj p.2
end
mutual
theorem Cj:∀{d e f:D},d.oi=true->e.oi=true->f.oi=true->ltT d e=true->ltT e f=true->ltT d f=true
 | .int i,.int j,.int k,_,_,_,h,h'=>by
  simp only [ltT,decide_eq_true_eq] at h h' ⊢
  lia
 | .int i,.int j,.tup _,_,_,_,h,h'=>by simp only [ltT]
 | .int i,.tup _,.tup _,_,_,_,h,h'=>by simp only [ltT]
 | .tup ds,.tup es,.tup fs,p,q,r,h,h'=>by simp only [ltT] at h h' ⊢;simp only [D.oi] at p q r;exact Qc p q r h h'
 | .int i,.tup _,.int _,_,_,_,h,h'=>by simp [ltT] at h'
 | .tup _,.int _,_,_,_,_,h,h'=>by simp [ltT] at h
 | .tup _,.tup _,.int _,_,_,_,h,h'=>by simp [ltT] at h'
 | .non,_,_,p,_,_,_,_=>by simp [D.oi] at p
 | .bl _,_,_,p,_,_,_,_=>by simp [D.oi] at p
 | .str _,_,_,p,_,_,_,_=>by simp [D.oi] at p
 | .lst _,_,_,p,_,_,_,_=>by simp [D.oi] at p
 | .dk _ _,_,_,p,_,_,_,_=>by simp [D.oi] at p
 | .dt _ _,_,_,p,_,_,_,_=>by simp [D.oi] at p
 | .dn _ _,_,_,p,_,_,_,_=>by simp [D.oi] at p
 | .scr _,_,_,p,_,_,_,_=>by simp [D.oi] at p
 | .exc _ _,_,_,p,_,_,_,_=>by simp [D.oi] at p
 | _,.non,_,_,p,_,_,_=>by simp [D.oi] at p
 | _,.bl _,_,_,p,_,_,_=>by simp [D.oi] at p
 | _,.str _,_,_,p,_,_,_=>by simp [D.oi] at p
 | _,.lst _,_,_,p,_,_,_=>by simp [D.oi] at p
 | _,.dk _ _,_,_,p,_,_,_=>by simp [D.oi] at p
 | _,.dt _ _,_,_,p,_,_,_=>by simp [D.oi] at p
 | _,.dn _ _,_,_,p,_,_,_=>by simp [D.oi] at p
 | _,.scr _,_,_,p,_,_,_=>by simp [D.oi] at p
 | _,.exc _ _,_,_,p,_,_,_=>by simp [D.oi] at p
 | _,_,.non,_,_,p,_,_=>by simp [D.oi] at p
 | _,_,.bl _,_,_,p,_,_=>by simp [D.oi] at p
 | _,_,.str _,_,_,p,_,_=>by simp [D.oi] at p
 | _,_,.lst _,_,_,p,_,_=>by simp [D.oi] at p
 | _,_,.dk _ _,_,_,p,_,_=>by simp [D.oi] at p
 | _,_,.dt _ _,_,_,p,_,_=>by simp [D.oi] at p
 | _,_,.dn _ _,_,_,p,_,_=>by simp [D.oi] at p
 | _,_,.scr _,_,_,p,_,_=>by simp [D.oi] at p
 | _,_,.exc _ _,_,_,p,_,_=>by simp [D.oi] at p
theorem Qc:∀{ds es fs:List D},ois ds=true->ois es=true->ois fs=true->i6 ds es=true->i6 es fs=true->i6 ds fs=true
 | [],_,_::_,_,_,_,_,_=>by simp only [i6]
 | _,[],[],_,_,_,_,h=>by simp [i6] at h
 | _::_,[],_,_,_,_,h,_=>by simp [i6] at h
 | _,_::_,[],_,_,_,_,h=>by simp [i6] at h
 | d::ds,e::es,f::fs,p,q,r,h,h'=>by
  simp only [ois,Bool.and_eq_true] at p q r;simp only [i6] at h h' ⊢;by_cases w:eqD d e=true
  . have:=M7 p.1 w q.1;subst this;rw [ξ w] at h;by_cases w2:eqD d f=true
    . rw [ξ w2] at h' ⊢;exact Qc p.2 q.2 r.2 h h'
    . rw [ψ w2] at h' ⊢;exact h'
  . rw [ψ w] at h;by_cases w2:eqD e f=true
    . have:=M7 q.1 w2 r.1;subst this;rw [ψ w];exact h
    . rw [ψ w2] at h';have h3:=Cj p.1 q.1 r.1 h h';by_cases w3:eqD d f=true
      . have:=M7 p.1 w3 r.1;subst this;rw [Ht p.1] at h3;cases h3
      . rw [ψ w3];exact h3
end
theorem Js:∀{ds:List D} {i:Nat},ois ds=true->(ds.getD i (.int 0)).oi=true
 | [],i,_=>by simp [D.oi]
 | d::ds,0,h=>by simp only [ois,Bool.and_eq_true] at h;simpa using h.1
 | d::ds,i+1,h=>by simp only [ois,Bool.and_eq_true] at h;simpa using Js (i:=i) h.2
def ltI (ds:List D) (i j:Nat):Bool:=ltT (ds.getD i (.int 0)) (ds.getD j (.int 0))
def F6 (d:D):List D->List D
 | []=>[d]
 | e::r=>if ltT e d=true then e::F6 d r else d::e::r
def o9:List D->List D
 | []=>[]
 | d::r=>F6 d (o9 r)
theorem Lm (d:D):∀l:List D,(F6 d l).Perm (d::l)
 | []=>.refl _
 | e::r=>by
  unfold F6;split
  . exact ((Lm d r).cons e).trans (.swap d e r)
  . exact .refl _
theorem O4:∀l:List D,(o9 l).Perm l
 | []=>.refl _
 | d::r=>(Lm d (o9 r)).trans ((O4 r).cons d)
theorem ois_mem:∀{ds:List D},ois ds=true↔∀d∈ds,d.oi=true
 | []=>by simp [ois]
 | d::ds=>by simp [ois,ois_mem (ds:=ds)]
def Srt (l:List D):Prop:=l.Pairwise fun a b=>ltT b a=false
theorem Ub:∀{l:List D},d.oi=true->ois l=true->Srt l->Srt (F6 d l)
 | [],_,_,_=>by simp [F6,Srt]
 | e::r,hd,hl,hs=>by
  simp only [ois,Bool.and_eq_true] at hl;obtain ⟨h1,h2⟩:=List.pairwise_cons.mp hs;unfold F6;split
  . rename_i hlt;refine List.pairwise_cons.mpr ⟨fun x hx=>?_,Ub hd hl.2 h2⟩;rcases List.mem_cons.mp ((Lm d r).mem_iff.mp hx) with rfl | hx
    . cases hq:ltT x e with
      | false=>rfl
      | true=>
       have:=Cj hl.1 hd hl.1 hlt hq
       rw [Ht hl.1] at this;cases this
    . exact h1 x hx
  . rename_i hlt;have hlt:ltT e d=false:=by simpa using hlt
    refine List.pairwise_cons.mpr ⟨fun x hx=>?_,hs⟩;rcases List.mem_cons.mp hx with rfl | hx
    . exact hlt
    . have hxo:=(ois_mem.mp hl.2) x hx;cases hq:ltT x d with
      | false=>rfl
      | true=>
       have h3:=h1 x hx
       cases hy:ltT d e with
       | true=>rw [Cj hxo hd hl.1 hq hy] at h3;cases h3
       | false=>
        rw [U3 hd hl.1 hy hlt] at hq
        rw [hq] at h3;cases h3
theorem Dy (p:l.Perm l') (h:ois l'=true):ois l=true:=ois_mem.mpr fun d hd=>(ois_mem.mp h) d (p.mem_iff.mp hd)
theorem Q5:∀{l:List D},ois l=true->Srt (o9 l)
 | [],_=>.nil
 | d::r,h=>by simp only [ois,Bool.and_eq_true] at h;exact Ub h.1 (Dy (O4 r) h.2) (Q5 h.2)
theorem Dx:∀{l l':List D},ois l=true->l.Perm l'->Srt l->Srt l'->l=l'
 | [],l',_,p,_,_=>by rw [p.nil_eq]
 | a::r,[],_,p,_,_=>by have:=p.length_eq;simp at this
 | a::r,b::r',h,p,s,s'=>by
  have h':=h;simp only [ois,Bool.and_eq_true] at h;obtain ⟨h1,h2⟩:=List.pairwise_cons.mp s;obtain ⟨h3,h4⟩:=List.pairwise_cons.mp s';have hb:b∈a::r:=p.mem_iff.mpr List.mem_cons_self;have ha:a∈b::r':=p.mem_iff.mp List.mem_cons_self;have hbo:=(ois_mem.mp h') b hb;have e:a=b:=by
   rcases List.mem_cons.mp hb with z | z
   . exact z.symm
   . rcases List.mem_cons.mp ha with w | w
     . exact w
     . exact U3 h.1 hbo (h3 a w) (h1 b z)
  subst e;rw [Dx h.2 (List.perm_cons a |>.mp p) h2 h4]
end L2
namespace L2
open PySem PySem.Spec PyProof.Rows
open PySem.W (KasT kas_sort kas_rev kas_asc kas_desc kas_tail3 kas_descPart kas_count kas_place kas_bin)
def RcLt (A:Around) (s:Shared) (x y:Value) (b:Bool):Prop:=∀(prog:Program) (w:World) (E:Value->Shared->Prop) (Q:Value->Shared->Prop),Q (.bool b) s->wpAny (model prog w) A (richCompare .Lt x y) Q E s
inductive LexR (A:Around) (s:Shared):List Value->List Value->Bool->Prop
 | nn:LexR A s [] [] false
 | nc {w ws}:LexR A s [] (w::ws) true
 | cn {v vs}:LexR A s (v::vs) [] false
 | eq {v w vs ws b} (h:SeqAt.EqAt A s v w true) (r:LexR A s vs ws b):LexR A s (v::vs) (w::ws) b
 | lt {v w vs ws b} (h:SeqAt.EqAt A s v w false) (r:RcLt A s v w b):LexR A s (v::vs) (w::ws) b
section
open PySem.SeqAt
open PySem.AutoSeq1 (wpAny_loadPart')
open PySem.MeetsSeq PySem.MeetsSeq2 PySem.MeetsSeq3
theorem zf (l b:Addr) (items items2:Array Value) (n n2:Nat) (dd dd2:Option Addr) (sl sl2:Array (Option Value)) (r:Bool) :
  Meets (Builtin.«tuple.__lt__» ⟨[.ref l,.ref b],[]⟩)
   (fun A R s=>s.heap.get? l=some { cls:=.type "tuple",dict:=dd,data:=.seq items n,slots:=sl }/\s.heap.get? b=some { cls:=.type "tuple",dict:=dd2,data:=.seq items2 n2,slots:=sl2 } /\
    LexR A.in1 s items.toList items2.toList r/\R (.ok (.ret (.bool r))) s):=
 .of_wp fun prog w A R s h=>by
  obtain ⟨hp,g,d,tk,os⟩:=s;obtain ⟨hl,hb,hL,h⟩:=h;have f2:=AutoSeq1.sub_tuple_tuple
  wp_walk using wpAny_loadPart' hl,wpAny_loadPart' hb,wpAny_forIn_list _ (fun rest b s'=>b.1=none/\s'=⟨hp,g,d,tk,os⟩/\∃(vs ws:List Value) (r':Bool),rest=vs.zip ws /\
   LexR A.in1 ⟨hp,g,d,tk,os⟩ vs ws r'/\vs.length+items2.size=ws.length+items.size/\R (.ok (.ret (.bool r'))) ⟨hp,g,d,tk,os⟩) _
  case turn=>
   rintro ⟨y,x⟩ rest b s' ⟨hb',rfl,vs,ws,r',hz,hL',hlen,hR⟩
   cases hL' with
   | nn=>rw [List.zip_nil_left] at hz;cases hz
   | nc=>rw [List.zip_nil_left] at hz;cases hz
   | cn=>rw [List.zip_nil_right] at hz;cases hz
   | eq he hr=>
    rw [List.zip_cons_cons] at hz
    injection hz with hyx hrest
    injection hyx with hy hx
    subst hy hx
    simp only [List.length_cons] at hlen
    refine χ (he prog w _ _ ?_)
    wp_walk
    exact ⟨rfl,rfl,_,_,_,hrest,hr,by lia,hR⟩
   | lt he hr=>
    rw [List.zip_cons_cons] at hz
    injection hz with hyx hrest
    injection hyx with hy hx
    subst hy hx
    refine χ (he prog w _ _ ?_)
    have hri:=hr prog w
    wp_walk using hri
    exact ⟨_,rfl,by simpa using hR⟩
  case fin=>
   rintro ⟨b1,b2⟩ s' ⟨hb',rfl,vs,ws,r',hz,hL',hlen,hR⟩
   simp only at hb'
   subst hb'
   have hv:r'=decide (items.size<items2.size):=by
    cases hL' with
    | nn=>simp only [List.length_nil] at hlen;exact (decide_eq_false (by lia)).symm
    | nc=>simp only [List.length_nil,List.length_cons] at hlen;exact (decide_eq_true (by lia)).symm
    | cn=>simp only [List.length_nil,List.length_cons] at hlen;exact (decide_eq_false (by lia)).symm
    | eq _ _=>rw [List.zip_cons_cons] at hz;cases hz
    | lt _ _=>rw [List.zip_cons_cons] at hz;cases hz
   rw [hv] at hR
   wp_walk
   exact ⟨_,rfl,by simpa [Builtin.Tuple.tupleCompareSizes] using hR⟩
  case h=>exact ⟨rfl,rfl,items.toList,items2.toList,r,rfl,hL,by simp;lia,h⟩
theorem RcLt.tuples {A:Around} {s:Shared} {l b:Addr} {items items2:Array Value} {r:Bool} (hl:s.heap.IsTuple l items) (hb:s.heap.IsTuple b items2) (hL:LexR A.in1 s items.toList items2.toList r) (hu:A.units<cLine):RcLt A s (.ref l) (.ref b) r:=fun prog w E Q h=>by
 obtain ⟨⟨cls,dd,data,sl⟩,ho,hc,n,hd⟩:=id hl;obtain ⟨⟨cls2,dd2,data2,sl2⟩,ho2,hc2,n2,hd2⟩:=id hb;simp only at hc hd hc2 hd2;subst hc hd hc2 hd2;exact richCompare_meets_room (op:=.Lt) ⟨_,ho,rfl⟩ ⟨_,ho2,rfl⟩ PySem.F.slot_tuple_lt PySem.F.entry_tuple_lt (PySem.F.args_tuple_lt_2 _ _) (zf l b items items2 n n2 dd dd2 sl sl2 r)
  ⟨ho,ho2,hL,show Value.bool r≠Value.notImplemented/\Q (.bool r) s from ⟨(fun x=>nomatch x),h⟩⟩ hu
end
mutual
theorem X8:∀{d:D},d.oi=true->d.pl=true
 | .int _,_=>rfl
 | .tup ds,h=>by simp only [D.pl];exact Qb (by simpa only [D.oi] using h)
 | .non,p=>by simp [D.oi] at p
 | .bl _,p=>by simp [D.oi] at p
 | .str _,p=>by simp [D.oi] at p
 | .lst _,p=>by simp [D.oi] at p
 | .dk _ _,p=>by simp [D.oi] at p
 | .dt _ _,p=>by simp [D.oi] at p
 | .dn _ _,p=>by simp [D.oi] at p
 | .scr _,p=>by simp [D.oi] at p
 | .exc _ _,p=>by simp [D.oi] at p
theorem Qb:∀{ds:List D},ois ds=true->pls ds=true
 | [],_=>rfl
 | d::ds,h=>by simp only [ois,Bool.and_eq_true] at h;simp only [pls,X8 h.1,Qb h.2,Bool.and_self]
end
section
variable {X:Cx} {pins:List (Addr×Obj)} {σ:St} {H:Hp} {s:Shared}
theorem Qa (I:Inv X pins σ H s) (hu:A.units+n<cLine) (lt:∀{d e:D} {x y:V} {u v:Value} {b:Bool},d.oi=true->e.oi=true->d.dep<=n->RD X.K H d x->RD X.K H e y->RelV x u->RelV y v->d8 d e=some b->RcLt A s u v b) :
  ∀{ds es:List D} {xs ys:List V} {us vs:List Value} {b:Bool},ois ds=true->ois es=true->h7 ds<=n->RDs X.K H ds xs->RDs X.K H es ys->Vals xs us->Vals ys vs->j4 ds es=some b->LexR A s us vs b
 | [],[],_,_,_,_,b,_,_,_,r1,r2,q1,q2,h=>by simp only [RDs] at r1 r2;subst r1;subst r2;cases q1;cases q2;simp only [j4,Option.some.injEq] at h;subst h;exact .nn
 | [],e::es,_,_,_,_,b,_,_,_,r1,r2,q1,q2,h=>by simp only [RDs] at r1 r2;subst r1;obtain ⟨y,ys,rfl,_,_⟩:=r2;cases q1;cases q2;simp only [j4,Option.some.injEq] at h;subst h;exact .nc
 | d::ds,[],_,_,_,_,b,_,_,_,r1,r2,q1,q2,h=>by simp only [RDs] at r1 r2;subst r2;obtain ⟨y,ys,rfl,_,_⟩:=r1;cases q1;cases q2;simp only [j4,Option.some.injEq] at h;subst h;exact .cn
 | d::ds,e::es,_,_,_,_,b,p1,p2,hd,r1,r2,q1,q2,h=>by
  simp only [RDs] at r1 r2;obtain ⟨x,xs,rfl,rx,rxs⟩:=r1;obtain ⟨y,ys,rfl,ry,rys⟩:=r2;simp only [ois,Bool.and_eq_true] at p1 p2;simp only [h7] at hd;cases q1 with
  | cons a1 a2=>
   cases q2 with
   | cons b1 b2=>
    have eq:=Z1 (A:=A) I n (X8 p1.1) (X8 p2.1) (by lia) hu rx ry a1 b1
    simp only [j4] at h
    split at h
    . rename_i w;rw [w] at eq;exact .eq eq (Qa I hu lt p1.2 p2.2 (by lia) rxs rys a2 b2 h)
    . rename_i w;rw [show eqD d e=false by simpa using w] at eq;exact .lt eq (lt p1.1 p2.1 (by lia) rx ry a1 b1 h)
theorem Uv (h:d8 d e=some b):(∃i j,d=.int i/\e=.int j/\b=decide (i<j))\/∃ds es,d=.tup ds/\e=.tup es/\j4 ds es=some b:=by
 cases d with
 | int i=>cases e with
  | int j=>exact .inl ⟨_,_,rfl,rfl,(Option.some.inj h).symm⟩
  | _=>exact nomatch h
 | tup ds=>cases e with
  | tup es=>exact .inr ⟨_,_,rfl,rfl,h⟩
  | _=>exact nomatch h
 | _=>exact nomatch h
theorem qr (I:Inv X pins σ H s):∀(n:Nat) {A:Around} {d e:D} {x y:V} {u v:Value} {b:Bool},A.units+n<cLine->d.oi=true->e.oi=true->d.dep<=n->RD X.K H d x->RD X.K H e y->RelV x u->RelV y v->d8 d e=some b->RcLt A s u v b:=by
 intro n;induction n with
 | zero=>
  intro A d e x y u v b hu p1 p2 hd rx ry ru rv h
  rcases Uv h with ⟨i,j,rfl,rfl,rfl⟩ | ⟨ds,es,rfl,rfl,h⟩
  . cases rx.int;cases ry.int;obtain ⟨t,rfl⟩:=ru;obtain ⟨t',rfl⟩:=rv;exact fun prog w E Q q=>HT.rcLt_int A s _ _ _ _ prog w E Q q
  . simp only [D.dep] at hd;lia
 | succ n ih=>
  intro A d e x y u v b hu p1 p2 hd rx ry ru rv h
  rcases Uv h with ⟨i,j,rfl,rfl,rfl⟩ | ⟨ds,es,rfl,rfl,h⟩
  . cases rx.int;cases ry.int;obtain ⟨t,rfl⟩:=ru;obtain ⟨t',rfl⟩:=rv;exact fun prog w E Q q=>HT.rcLt_int A s _ _ _ _ prog w E Q q
  . obtain ⟨a,xs,rfl,ha,ra⟩:=rx.tup;obtain ⟨c,ys,rfl,hc,rc⟩:=ry.tup;cases ru;cases rv;obtain ⟨its,r1,t1⟩:=I.tupA ha;obtain ⟨its2,r2,t2⟩:=I.tupA hc;simp only [D.dep] at hd;simp only [D.oi] at p1 p2;have hu1:A.in1.units+n<cLine:=by show A.units+1+n<cLine;lia
    exact RcLt.tuples t1 t2 (Qa I hu1 (fun {d e x y u v b} q1 q2 q3 q4 q5 q6 q7 q8=>ih hu1 q1 q2 q3 q4 q5 q6 q7 q8) p1 p2 (by lia) ra rc r1 r2 h) (by lia)
end
end L2
namespace L2
open PySem PySem.Spec PyProof.Rows
section
variable {prog:Program} {w:World} {A:Around} {E:Value->Shared->Prop} {s:Shared}
theorem ze (ho:s.heap.get? a=some (seqObj "list" vs.toArray n)) (hs:vs.length<2)
  (h:P (.done (.ret .none)) { s with heap:=sortedHeap s.heap a vs ((pairsOf vs).map (·.2)) }):wpAny (model prog w) A (Builtin.«list.sort» ⟨[.ref a],[]⟩) P E s:=by
 rw [list_sort_plain]
 have ha:a<s.heap.objs.size:=Φ ho
 refine χ (listItems_at ho rfl ?_)
 refine χ (listUpdate_at ho rfl ?_)
 obtain ⟨e1,ho1⟩:∃e1,(s.heap.update a (Obj.mapSeq fun _=>#[])).get? a=some (seqObj "list" #[] e1):=⟨_,get?_update_seq ho (fun _=>#[])⟩
 refine χ (seqEpoch_at ho1 rfl ?_)
 refine χ (wpAny_newTuple ?_)
 refine χ (wpAny_newList ?_)
 refine wpAny_holding ?_
 have ho6:(((s.heap.update a (Obj.mapSeq fun _=>#[])).push (seqObj "tuple" vs.toArray 0)).push (seqObj "list" #[] 0)).get? a=some (seqObj "list" #[] e1):=by rw [Heap.get?_push_ne _ _ _ (by rw [size_push',Heap.size_update];exact Nat.ne_of_lt (Nat.lt_succ_of_lt ha)),Heap.get?_push_ne _ _ _ (by rw [Heap.size_update];exact Nat.ne_of_lt ha)];exact ho1
 show wpAny (model prog w) A _ P E { s with heap:=((s.heap.update a (Obj.mapSeq fun _=>#[])).push (seqObj "tuple" vs.toArray 0)).push (seqObj "list" #[] 0) }
 dsimp only
 have hsz:vs.toArray.size=vs.length:=by simp
 have h2:vs.toArray.size<2:=by rw [hsz];exact hs
 rw [ξ h2,ξ h2]
 refine χ (ω ?_)
 rw [StateT.run_pure]
 refine χ (ω ?_)
 dsimp only
 refine χ (seqEpoch_at ho6 rfl ?_)
 refine χ (listUpdate_at ho6 rfl ?_ (hsz2:=by rw [Array.size_map];show (pairsOf vs).size<=_;rw [pairsOf_size,sizeLine_eq];lia))
 simp only [bne_self_eq_false,Bool.false_eq_true,if_false]
 exact ω h
theorem zT (hl:s.heap.IsList l vs.toArray) (hs:vs.length<2)
  (h:Q (.ref (s.heap.objs.size+1)) { s with heap:=sortedAll s.heap vs ((pairsOf vs).map (·.2)) }):wpAny (model prog w) A (call (.builtin "sorted") [.ref l]) Q E s:=by
 refine Calls.call_function_entry kind_sorted plain_sorted entry_sorted (args_sorted1 _) ?_
 unfold Builtin.«sorted»
 refine χ (m:=checkCount "sorted" 1 1 _) (ω ?_)
 refine χ (collect_list hl ?_ (by rw [sizeLine_eq];omega))
 refine χ (wpAny_newList ?_ (by rw [sizeLine_eq];omega))
 have hsz:((s.heap.push (seqObj "list" #[] 0)).update s.heap.objs.size (Obj.mapSeq (·++vs.toArray))).objs.size=s.heap.objs.size+1:=by rw [Heap.size_update,size_push']
 have hoL:(((s.heap.push (seqObj "list" #[] 0)).update s.heap.objs.size (Obj.mapSeq (·++vs.toArray))).push (seqObj "list" vs.toArray 0)).get? (s.heap.objs.size+1)=some (seqObj "list" vs.toArray 0):=by rw [<-hsz];exact Ξ _ rfl
 show wpAny _ _ _ _ _ { s with heap:=((s.heap.push (seqObj "list" #[] 0)).update s.heap.objs.size (Obj.mapSeq (·++vs.toArray))).push (seqObj "list" vs.toArray 0) }
 rw [hsz]
 refine χ (wpAny_holding (wpAny_call_entry slot_list_sort ⟨_,hoL,rfl⟩ entry_list_sort (ze hoL hs ⟨_,rfl,?_⟩) (args_list_sort _)))
 exact ω ⟨_,rfl,h⟩
end
noncomputable def isI:D->Bool
 | .int _=>true
 | _=>false
noncomputable def F5:D->Bool
 | .tup (.int _::_)=>true
 | _=>false
noncomputable def K5:D->Bool
 | .tup (.tup _::_)=>true
 | _=>false
theorem RDs.pick {K:Frag} {H:Hp} {ds:List D} {ys:List V} (r:RDs K H ds ys):∀{is:List Nat},(∀i∈is,i<ys.length)->RDs K H (is.map fun i=>ds.getD i (.int 0)) (is.map fun i=>ys.getD i .non)
 | [],_=>by simp [RDs]
 | i::is,h=>by
  have hi:=h i List.mem_cons_self;have hy:ys[i]?=some ys[i]:=by simp [hi]
  obtain ⟨d,h1,h2⟩:=r.get hy;simp only [List.map_cons];refine .cons ?_ (RDs.pick r fun j hj=>h j (List.mem_cons_of_mem _ hj));rw [List.getD_eq_getElem?_getD,List.getD_eq_getElem?_getD,h1,hy];exact h2
section
variable {X:Cx} {pins:List (Addr×Obj)} {σ:St} {H:Hp} {s:Shared}
theorem Vals.pick (r:Vals ys its):∀{is:List Nat},(∀i∈is,i<ys.length)->Vals (is.map fun i=>ys.getD i .non) (is.map fun i=>its.getD i Value.none)
 | [],_=>.nil
 | i::is,h=>by
  have hi:=h i List.mem_cons_self;have hy:ys[i]?=some ys[i]:=by simp [hi]
  obtain ⟨u,h1,h2⟩:=r.get hy;simp only [List.map_cons];refine .cons ?_ (Vals.pick r fun j hj=>h j (List.mem_cons_of_mem _ hj));rw [List.getD_eq_getElem?_getD,List.getD_eq_getElem?_getD,h1,hy];exact h2
theorem Si (I:Inv X pins σ H s) (hu:A.units+20<cLine) (q:Q r s) :
  ∀{ds es:List D} {xs ys:List V} {us vs:List Value} (i:Nat),(b=true->i=0->(∃k r,ds=.int k::r)/\∃k r,es=.int k::r)->ois ds=true->ois es=true->h7 ds<=20->RDs X.K H ds xs->RDs X.K H es ys->Vals xs us->Vals ys vs->j4 ds es=some r ->
   fin=decide (us.length<vs.length)->PySem.W.KatLex X.prog X.w A b fin Q (us.zip vs) i s
 | [],[],_,_,_,_,i,_,_,_,_,r1,r2,q1,q2,h,hf=>by simp only [RDs] at r1 r2;subst r1;subst r2;cases q1;cases q2;simp only [j4,Option.some.injEq] at h;subst h;simp at hf;subst hf;exact q
 | [],e::es,_,_,_,_,i,_,_,_,_,r1,r2,q1,q2,h,hf=>by simp only [RDs] at r1 r2;subst r1;obtain ⟨y,ys,rfl,_,_⟩:=r2;cases q1;cases q2;simp only [j4,Option.some.injEq] at h;subst h;simp at hf;subst hf;exact q
 | d::ds,[],_,_,_,_,i,_,_,_,_,r1,r2,q1,q2,h,hf=>by simp only [RDs] at r1 r2;subst r2;obtain ⟨y,ys,rfl,_,_⟩:=r1;cases q1;cases q2;simp only [j4,Option.some.injEq] at h;subst h;simp at hf;subst hf;exact q
 | d::ds,e::es,_,_,_,_,i,hb,p1,p2,hd,r1,r2,q1,q2,h,hf=>by
  simp only [RDs] at r1 r2;obtain ⟨x,xs,rfl,rx,rxs⟩:=r1;obtain ⟨y,ys,rfl,ry,rys⟩:=r2;simp only [ois,Bool.and_eq_true] at p1 p2;simp only [h7] at hd;cases q1 with
  | cons a1 a2=>
   cases q2 with
   | cons b1 b2=>
    have eq:=Z1 (A:=A) I 20 (X8 p1.1) (X8 p2.1) (by lia) hu rx ry a1 b1
    rw [List.zip_cons_cons]
    refine PySem.W.kat_cons (eq X.prog X.w _ _ ?_)
    simp only [j4] at h
    simp only [List.length_cons,Nat.add_lt_add_iff_right] at hf
    split at h
    . rename_i w;rw [w];exact PySem.W.kat_yes (Si I hu q (i+1) (fun _ z=>by lia) p1.2 p2.2 (by lia) rxs rys a2 b2 h hf)
    . rename_i w;rw [show eqD d e=false by simpa using w];refine PySem.W.kat_no ?_;by_cases hbi:(b&&i==0)=true
      . rw [hbi];simp only [Bool.and_eq_true,beq_iff_eq] at hbi;obtain ⟨⟨k1,s1,e1⟩,k2,s2,e2⟩:=hb hbi.1 hbi.2;cases e1;cases e2;cases rx.int;cases ry.int;obtain ⟨t,rfl⟩:=a1;obtain ⟨t',rfl⟩:=b1;refine oneLt_int ?_;simp only [d8,Option.some.injEq] at h;rw [h];exact q
      . rw [show (b&&i==0)=false by simpa using hbi];exact PySem.W.kat_one _ _ (qr I 20 hu p1.1 p2.1 (by lia) rx ry a1 b1 h X.prog X.w _ _ q)
theorem Pz (I:Inv X pins σ H s) (T:Bool):∀{ds:List D} {xs:List V} {us:List Value},(∀d∈ds,(if T=true then K5 d else F5 d)=true)->RDs X.K H ds xs->Vals xs us ->
  ∃fs:List Value,PySem.W.KatTups s.heap us fs/\fs.length=ds.length/\∀v∈fs,Looks M s.heap (typeOf v) (.type (if T=true then "tuple" else "int"))
 | [],_,_,_,r,q=>by simp only [RDs] at r;subst r;cases q;exact ⟨[],trivial,rfl,fun v hv=>by cases hv⟩
 | d::ds,_,_,h,r,q=>by
  simp only [RDs] at r;obtain ⟨x,xs,rfl,rx,rxs⟩:=r;cases q with
  | cons q1 q2=>
   obtain ⟨fs,h1,h2,h3⟩:=Pz (M:=M) I T (fun d hd=>h d (List.mem_cons_of_mem _ hd)) rxs q2
   have hd:=h d List.mem_cons_self
   cases T with
   | false=>
    rw [ψ η] at hd
    cases d<;>simp only [F5] at hd<;>first | cases hd | skip
    rename_i es
    cases es with
    | nil=>simp at hd
    | cons e es=>
     cases e<;>simp at hd
     obtain ⟨a,ys,rfl,ha,ra⟩:=rx.tup
     cases q1
     obtain ⟨its,rv,t⟩:=I.tupA ha
     simp only [RDs] at ra
     obtain ⟨y,ys,rfl,ry,rys⟩:=ra
     cases ry.int
     cases rv with
     | cons v1 v2=>
      obtain ⟨tk,rfl⟩:=v1
      obtain ⟨o,ho,hc,n,hdt⟩:=t
      refine ⟨_::fs,PySem.W.KatTups.cons ho hc hdt rfl h1,by simp [h2],fun v hv=>?_⟩
      rcases List.mem_cons.mp hv with rfl | hv
      . exact .now
      . exact h3 v hv
   | true=>
    rw [ξ rfl] at hd
    cases d<;>simp only [K5] at hd<;>first | cases hd | skip
    rename_i es
    cases es with
    | nil=>simp at hd
    | cons e es=>
     cases e<;>simp at hd
     obtain ⟨a,ys,rfl,ha,ra⟩:=rx.tup
     cases q1
     obtain ⟨its,rv,t⟩:=I.tupA ha
     simp only [RDs] at ra
     obtain ⟨y,ys,rfl,ry,rys⟩:=ra
     obtain ⟨a2,ys2,rfl,ha2,ra2⟩:=ry.tup
     cases rv with
     | cons v1 v2=>
      cases v1
      obtain ⟨its2,rv2,o2,ho2,hc2,_⟩:=I.tupA ha2
      obtain ⟨o,ho,hc,n,hdt⟩:=t
      refine ⟨_::fs,PySem.W.KatTups.cons ho hc hdt rfl h1,by simp [h2],fun v hv=>?_⟩
      rcases List.mem_cons.mp hv with rfl | hv
      . have lk:Looks M s.heap (typeOf (.ref a2)) o2.cls:=(PySem.W.Looks.ld ho2).andThen .now;rw [hc2] at lk;exact lk
      . exact h3 v hv
theorem Vals.getD (r:Vals ys its) (h:i<ys.length):RelV (ys.getD i .non) (its.getD i Value.none):=by
 have hy:ys[i]?=some ys[i]:=by simp [h]
 obtain ⟨u,h1,h2⟩:=r.get hy;rw [List.getD_eq_getElem?_getD,List.getD_eq_getElem?_getD,h1,hy];exact h2
theorem RDs.getD (r:RDs X.K H ds ys) (h:i<ys.length):RD X.K H (ds.getD i (.int 0)) (ys.getD i .non):=by
 have hy:ys[i]?=some ys[i]:=by simp [h]
 obtain ⟨d,h1,h2⟩:=r.get hy;rw [List.getD_eq_getElem?_getD,List.getD_eq_getElem?_getD,h1,hy];exact h2
theorem O3 {α:Type} {l:List α} {i:Nat} {d:α} (h:i<l.length):l.getD i d∈l:=by rw [List.getD_eq_getElem?_getD,List.getElem?_eq_getElem h];exact List.getElem_mem h
end
noncomputable def W6 (n:Nat) (x:Int):Nat:=if x<0 then (x+(n:Int)).toNat else min x.toNat n
def v9 {α:Type} (xs:List α) (x:Int) (y:α):List α:=xs.take (W6 xs.length x)++y::xs.drop (W6 xs.length x)
def Sh:V->List V->Hp->VK->Prop:=fun o vs H Q=>∃l xs i y,o=.ref l/\vs=[.int i,y]/\H l=some (.lst xs)/\-(2 ^ 63)<=i/\i<2 ^ 63/\xs.length<sizeLine/\Q .non (upd H l (.lst (v9 xs i y)))
theorem Vals.ins (r:Vals xs its) (ru:RelV y u) (i:Int):Vals (v9 xs i y) (v9 its i u):=by unfold v9;rw [r.length];exact (r.take _).append (.cons ru (r.drop _))
theorem zS (xs:List α) (i:Int) (y:α):(v9 xs i y).length=xs.length+1:=by unfold v9;rw [θ,List.length_take,List.length_cons,List.length_drop];omega
section
variable {X:Cx} {K:Frag}
theorem yw:MtM X "list.insert" Sh:=by intro pins s σ H x vs v us Q I rx rv h;obtain ⟨l,xs,i,y,rfl,rfl,hH,h1,h2,hz,q⟩:=h;cases rx;obtain ⟨u,w,rfl,ru,rw'⟩:=rv.two;obtain ⟨t,rfl⟩:=ru;obtain ⟨z,its,n,r,hl,e⟩:=I.lstM hH;refine call_meets PySem.F.slot_list_insert ⟨_,e,rfl⟩ PySem.F.entry_list_insert (PySem.F.args_list_insert_3 _ _ _) (PySem.AutoSeq1.list_insert_list_int_val_1 l its.toArray n i t w (by simp [fitsIndex_both h1 h2]) (by rw [List.size_toArray];lia)) ⟨e,?_⟩;refine ⟨.non,_,I.lset (its':=v9 its i w) hH e ?_ (r.ins rw' i) (by rw [zS];lia),rfl,q⟩;show ((its.toArray.extract 0 (W6 its.toArray.size i)).push w++its.toArray.extract (W6 its.toArray.size i))=(v9 its i w).toArray;unfold v9;apply Array.toList_inj.mp;simp;exact List.take_of_length_le (by simp)
def W5:D->List D->Option D
 | .lst ds,[.int i,d]=>if -(2 ^ 63)<=i/\i<2 ^ 63/\ds.length<100000 then some (.lst (v9 ds i d)) else none
 | _,_=>none
theorem RDs.ins (r:RDs K H ds xs) (ry:RD K H d y) (i:Int):RDs K H (v9 ds i d) (v9 xs i y):=by unfold v9;rw [<-r.length];exact (r.take _).append (.cons ry (r.drop _))
theorem qq:X0 K W5 Sh:=by
 intro H0 H a d d' ds vs Q s h0 ob r hm k;unfold W5 at hm;split at hm<;>first | cases hm | skip
 split at hm<;>cases hm;rename_i es i e hl;simp only [OB] at ob;obtain ⟨xs,hx,rx⟩:=ob;obtain ⟨y,z,rfl,q1,q2⟩:=r.duo;cases q1.int;refine ⟨a,xs,_,z,rfl,rfl,hx,hl.1,hl.2.1,by rw [<-rx.length];exact Q6 hl.2.2,k _ _ ?_⟩;simp only [OB];exact ⟨_,i9,rx.ins q2 _⟩
noncomputable def K4 (n:Int) (ns:List Int):Int:=ns.foldl (fun a b=>if b > a then b else a) n
theorem Jr:∀(ns:List Int) (n:Int),K4 n ns∈n::ns/\∀a∈n::ns,a<=K4 n ns
 | [],n=>by simp [K4]
 | b::ns,n=>by
  have ih:=Jr ns (if b > n then b else n);show K4 (if b > n then b else n) ns∈_/\∀a∈_,a<=K4 (if b > n then b else n) ns;generalize K4 (if b > n then b else n) ns=M at ih;obtain ⟨h1,h2⟩:=ih;constructor
  . rcases List.mem_cons.mp h1 with z | z
    . rw [z];split<;>simp
    . simp [z]
  . intro a ha;have h3:=h2 _ List.mem_cons_self;rcases List.mem_cons.mp ha with rfl | ha
    . split at h3<;>lia
    . rcases List.mem_cons.mp ha with rfl | ha
      . split at h3<;>lia
      . exact h2 a (List.mem_cons_of_mem _ ha)
end
theorem Sg {K:Frag} {h:Heap} {C:Addr} {bmB:List Value} {newId:String} (X:K.In h) (q:PySem.W.excIn K C bmB newId=true) :
  ∃bm N nm qn bs hdct sn sub ab col dd k0 k1 k2 k3 k5 mN,h.get? C=some (excClassObj nm qn C N bs bm hdct sn sub ab col dd k0 k1 k2 k3 k5 newId)/\h.Ns N mN/\mN "__init__"=none/\OwnTail h bmB bm:=by
 unfold PySem.W.excIn at q
 split at q<;>try cases q
 rename_i dd cd sl ho
 split at q<;>try cases q
 rename_i C' bm k0 k1 k2 k3 n k5 hm hs
 simp only [Bool.and_eq_true,beq_iff_eq,Bool.not_eq_true'] at q
 obtain ⟨⟨⟨⟨⟨e1,e2⟩,hdel⟩,ht⟩,hok⟩,hni⟩:=q
 subst e1 e2
 have ho:=X _ _ ho
 cases cd
 dsimp only at hm hdel hok hni
 subst hm hdel
 have hsl:sl=#[k0,k1,k2,k3,some (.builtin n),k5]:=by cases sl;simp only at hs;rw [hs]
 rw [hsl] at ho
 exact ⟨bm,_,_,_,_,_,_,_,_,_,dd,k0,k1,k2,k3,k5,_,ho,.of_isNs (PySem.W.isNs_of_in X hok),PySem.W.nsMap_none_of_in X hok hni,PySem.W.tail_of_in X ht⟩
noncomputable def Hs (K:Frag) (C:Addr) (bmB:List Value) (newId:String):Bool:=match K.lookup C with
 | some ⟨.type "type",_,.cls cd,sl⟩=>(match cd.mro,sl.toList with
  | .ref C'::bm,[_,_,_,_,some (.builtin n),_]=>C'==C&&n==newId&&!cd.hasDel&&PySem.W.tailIn K bmB bm&&cd.hasDict
  | _,_=>false)
 | _=>false
theorem xK {K:Frag} {h:Heap} {C:Addr} {bmB:List Value} {newId:String} (X:K.In h) (q:Hs K C bmB newId=true) :
  ∃bm N nm qn bs sn sub ab col dd k0 k1 k2 k3 k5,h.get? C=some (excClassObj nm qn C N bs bm true sn sub ab col dd k0 k1 k2 k3 k5 newId)/\OwnTail h bmB bm:=by
 unfold Hs at q
 split at q<;>try cases q
 rename_i dd cd sl ho
 split at q<;>try cases q
 rename_i C' bm k0 k1 k2 k3 n k5 hm hs
 simp only [Bool.and_eq_true,beq_iff_eq,Bool.not_eq_true'] at q
 obtain ⟨⟨⟨⟨e1,e2⟩,hdel⟩,ht⟩,hdc⟩:=q
 subst e1 e2
 have ho:=X _ _ ho
 cases cd
 dsimp only at hm hdel hdc
 subst hm hdel hdc
 have hsl:sl=#[k0,k1,k2,k3,some (.builtin n),k5]:=by cases sl;simp only at hs;rw [hs]
 rw [hsl] at ho
 exact ⟨bm,_,_,_,_,_,_,_,_,dd,k0,k1,k2,k3,k5,ho,PySem.W.tail_of_in X ht⟩
def XCl (K:Frag) (C:Addr) (bmB:List Value) (newId:String):Prop:=PySem.W.excIn K C bmB newId=true\/Hs K C bmB newId=true
theorem Sf {K:Frag} {h:Heap} {C:Addr} {bmB:List Value} {newId:String} (X:K.In h) (q:XCl K C bmB newId) :
  ∃bm N nm qn bs hdct sn sub ab col dd k0 k1 k2 k3 k5,h.get? C=some (excClassObj nm qn C N bs bm hdct sn sub ab col dd k0 k1 k2 k3 k5 newId)/\OwnTail h bmB bm:=by
 rcases q with q | q
 . obtain ⟨bm,N,nm,qn,bs,hdct,sn,sub,ab,col,dd,k0,k1,k2,k3,k5,mN,hC,_,_,T⟩:=Sg X q;exact ⟨bm,N,nm,qn,bs,hdct,sn,sub,ab,col,dd,k0,k1,k2,k3,k5,hC,T⟩
 . obtain ⟨bm,N,nm,qn,bs,sn,sub,ab,col,dd,k0,k1,k2,k3,k5,hC,T⟩:=xK X q;exact ⟨bm,N,nm,qn,bs,true,sn,sub,ab,col,dd,k0,k1,k2,k3,k5,hC,T⟩
section
variable {X:Cx} {x:Str} {C:Addr} {bmB:List Value} {B newId initId:String} {np cpos pos:Pos} {e:Expr} {es:List Expr} {t:TA} {EX:XW} {fr:Bool} {fs:DE->R (List D)}
theorem xJ (FB:ExcBaseFacts B newId initId bmB) (hcalm:X.calm=true) (hg:Gl X x) (hm:X.mg x=some (.ref C)) (hq:PySem.W.excIn X.K C bmB newId=true) (ha:PA X (e::es) t) (E:Hp->Prop)
  (hE:∀(pins:List (Addr×Obj)) (σ:St) (H:Hp) (s:Shared) (a:Addr) (s':Shared) (args:List Value),Inv X pins σ H s->Heap.MadeExcOf s.heap s'.heap a (.ref C) args->s'.os=s.os->AllBare s'.gens->E H->X.xe (.ref a) s')
  (hdb:(x==("__debug__":Str))=false:=by decide) (he:starEach (e::es) X.env=(false,eval e X.env)::starEach es X.env:=by rfl) (hpl:(backTo cpos (starEach es X.env)).any (·.1)=false:=by rfl) :
  PS X (.Raise (some (.Call (.Name x np) (e::es) [] cpos)) none pos) (fun _ σ H=>t σ H fun vs H1=>vs.length<=sizeLine/\E H1):=by
 intro pins s σ H D I h
 obtain ⟨bm,N,nm,qn,bs,hdct,sn,sub,ab,col,dd,k0,k1,k2,k3,k5,mN,hC,hN,hni,T⟩:=Sg I.ok.mod.kin hq
 refine wpAny_Raise_call_subT (C:=C) (nm:=nm) (q:=qn) (N:=N) (bs:=bs) (bm:=bm) (hdct:=hdct) (sn:=sn) (sub:=sub) (ab:=ab) (col:=col) (dd:=dd) (k0:=k0) (k1:=k1) (k2:=k2) (k3:=k3) (k5:=k5)
  FB (mN:=mN) (T.hasType FB.hasBase) (I.ok.hd hcalm) (by rw [he];show (false||(backTo cpos (starEach es X.env)).any (·.1))=false;rw [hpl];rfl) hni (V0 I hg hm ⟨rfl,?_⟩ hdb)
 have go:=ha cpos pins s σ H _ I h
 rw [he] at go ⊢
 refine Calls.evalArgs_plain (wpAny_mono go (fun us s2 ⟨vs,H1,I1,r,hl,hE1⟩=>⟨rfl,by rw [<-r.length];exact hl,I1.bk _ _ hC,hN.keeps I1.bk,T.keeps I1.bk,fun h' a hx=>?_⟩) fun _ _ y=>y)
 exact hE pins σ H1 s2 a _ us I1 hx rfl I1.bare hE1
def P5 (c:String) (fs:DE->R (List D)):DS->SR:=fun ρ=>(fs (see ρ)).toS fun ds=>if ds.length<=1000 then .er ⟨c,[]⟩ else .st
theorem wl {K:Frag} {De:Ends} {σ:St} {H:Hp} {c:String} (h:TSd K EX fr (P5 c fs) De σ H):TAd K EX fs σ H fun vs H1=>vs.length<=sizeLine/\EX.p ⟨c,[]⟩ H1:=by
 obtain ⟨Hc,Hb,H0,ρ,sb,R,h⟩:=h;unfold P5 at h;rw [SK.toS] at h;refine ⟨sb.trans R.sb,see ρ,HeOf (List.replicate ρ.length true) ρ σ H0 H,R.heH _,by rw [<-Ae];exact R.re _,h.mono fun ds z vs H' H0' s e r=>?_⟩;split at z
 . rename_i hl;exact ⟨Kb (by rw [<-r.length];exact hl),z H' ((sb.trans R.sb).trans s)⟩
 . exact z.elim
theorem Jq {c:String} (L:Lnd X EX) (FB:ExcBaseFacts B newId initId bmB) (hcalm:X.calm=true) (hg:Gl X (c:Str)) (hm:X.mg (c:Str)=some (.ref C)) (hq:PySem.W.excIn X.K C bmB newId=true) (ha:QA X EX (e::es) fs)
  (hdb:(((c:Str))==("__debug__":Str))=false:=by decide) (he:starEach (e::es) X.env=(false,eval e X.env)::starEach es X.env:=by rfl) (hpl:(backTo cpos (starEach es X.env)).any (·.1)=false:=by rfl) :
  QS X EX fr (.Raise (some (.Call (.Name (c:Str) np) (e::es) [] cpos)) none pos) (P5 c fs):=
 ⟨(xJ FB hcalm hg hm hq ha.h (fun H=>EX.p ⟨c,[]⟩ H) (fun pins σ H s a s' args I hx ho hb hp=>L.md pins σ H H s a C none s' ⟨c,[]⟩ I (.of hx) (I.hok.kept hx.keeps) (Un.kept hx.keeps) (I.hok.none hx.new) ho hb hm hp (.inl rfl)) hdb he hpl).imp fun _ _ _ q=>wl q⟩
end
theorem yu {M:Model} {A:Around} {E:Value->Shared->Prop} {nm nmD q qD:Str} {C N DD ND:Addr} {bs bm bsD bmD:List Value} {hdct hdctD:Bool} {sn snD:List Str} {sub subD:List Value} {ab abD:Bool} {col colD:Option Bool} {dd ddD:Option Addr} {k0 k1 k2 k3 k5 j0 j1 j2 j3 j5:Option Value} {newId newD:String}
  {h:Heap} {g:Array GenState} {d:Drawn} {t:Nat} {os:OsState} {e:Addr} {oe:Obj} {Q:Bool->Shared->Prop}
  (hC:h.get? C=some (excClassObj nm q C N bs bm hdct sn sub ab col dd k0 k1 k2 k3 k5 newId)) (hD:h.get? DD=some (excClassObj nmD qD DD ND bsD bmD hdctD snD subD abD colD ddD j0 j1 j2 j3 j5 newD)) (he:h.get? e=some oe) (hcls:oe.cls=.ref C)
  (hbase:bmD.contains (.type "BaseException")=true) (hq:Q ((Value.ref C::bm).contains (.ref DD)) ⟨h,g,d,t,os⟩):wpAny M A (excMatches (.ref e) (.ref DD)) Q E ⟨h,g,d,t,os⟩:=by
 have hcB:(Value.ref DD::bmD).contains (.type "BaseException")=true:=by rw [List.contains_cons,hbase,Bool.or_true]
 have f:=tc_notTuple
 unfold excMatches
 repeat (first | (with_reducible refine wpAny_loadPart_at he ?_;rw [hcls]) | with_reducible refine wpAny_loadPart_at hD ?_ | (with_reducible refine wpAny_isSubtype_exc hD ?_;rw [hcB]) | with_reducible refine wpAny_isSubtype_exc hC ?_ | wp_step)
 cases hb:(Value.ref C::bm).contains (.ref DD)<;>(rw [hb] at hq;wp_walk;exact hq)
section
variable {X:Cx} {pins:List (Addr×Obj)} {σ:List (Option V)} {H1 H2:Hp} {s1 s2:Shared} {h' B:Heap} {C a T:Addr} {a0:Value} {od:Option Addr}
noncomputable def z6 (a C:Addr) (od:Option Addr):HO:=.ext fun h=>∃ob,h.get? a=some ob/\ob.cls=.ref C/\(∃vs,ob.data=.fields vs)/\ob.dict=od
theorem xI (I:Inv X pins σ H1 s1) (x:XOut X.prog X.w X.stack H1 s1 C a od H2 s2) (na:s1.heap.get? a=none) (nT:s1.heap.get? T=none) (ha:H2 a=none) (hT:H2 T=none)
  (keep:∀b o,s2.heap.get? b=some o->b≠a->b≠T->b∉frs X.stack->h'.get? b=some o) (up:s2.heap.UpToSlots h') (hfl:Heap.FlyingW B X.stack a (.ref C) a0 h') (hdc:l9 a od h') :
  Inv X pins σ (upd H2 a (z6 a C od)) { s2 with heap:=h' }/\Same H2 (upd H2 a (z6 a C od)):=by
 have F2:=I.stack2 x.un
 have slotF:∀b∈frs X.stack,∀o,s2.heap.get? b=some o->∃sl,h'.get? b=some { o with slots:=sl }:=fun b hb o e=>by obtain ⟨_,o',ho',hd⟩:=F2.mem hb;rw [e] at ho';cases ho';exact up b o e hd
 have ne:∀b o,s1.heap.get? b=some o->b≠a/\b≠T:=fun b o e=>⟨fun z=>(by rw [z,na] at e;cases e),fun z=>(by rw [z,nT] at e;cases e)⟩
 have neH:∀b o,H2 b=some o->b≠a/\b≠T:=fun b o e=>⟨fun z=>(by rw [z,ha] at e;cases e),fun z=>(by rw [z,hT] at e;cases e)⟩
 have frFree:∀b∈frs X.stack,H2 b=none:=fun b hb=>by obtain ⟨_,o,ho,_⟩:=I.stack.mem hb;exact x.un.free b o ho (I.stkFree b hb) (by simp)
 obtain ⟨oe,vs,he,hc,hd,_⟩:=hfl.first
 have un:Un (frs X.stack) [] H1 (upd H2 a (z6 a C od)) s1.heap h':=by
  refine ⟨fun b o e n hb hx=>?_,fun b o e n hb hx=>?_,fun b o e n hx=>?_,fun b o e hx=>?_,fun b xs e=>?_,fun b o u e=>?_,fun b ps e=>?_⟩
  . exact keep b o (x.un.keep b o e n hb hx) (ne b o e).1 (ne b o e).2 hb
  . obtain ⟨sl,e1⟩:=x.un.slot b o e n hb hx;obtain ⟨sl2,e2⟩:=slotF b hb _ e1;exact ⟨sl2,e2⟩
  . rw [d7 (ne b o e).1];exact x.un.free b o e n hx
  . obtain ⟨o1,e1⟩:=x.un.there b o e hx;by_cases hb:b∈frs X.stack
    . obtain ⟨sl,e2⟩:=slotF b hb _ e1;exact ⟨_,e2⟩
    . exact ⟨o1,keep b o1 e1 (ne b o e).1 (ne b o e).2 hb⟩
  . have:=x.un.tups b xs e;rw [d7 (neH b _ this).1];exact this
  . have:=x.un.frzs b o u e;rw [d7 (neH b _ this).1];exact this
  . obtain ⟨m,this⟩:=x.un.tbls b ps e;exact ⟨m,by rw [d7 (neH b _ this).1];exact this⟩
 have hok:HOk X.prog X.w (upd H2 a (z6 a C od)) h':=fun b o e=>by
  by_cases hb:b=a
  . subst hb;rw [i9] at e;cases e;exact ⟨⟨oe,he,hc,⟨vs,hd⟩,hdc _ he⟩,⟨oe,he⟩,fun h1 h2 ⟨ob,z1,z2⟩ k=>⟨ob,k _ z1,z2⟩⟩
  . rw [d7 hb] at e;refine (x.hok b o e).stay (fun c v hc q=>?_) (fun c q=>by rw [d7 (neH c _ q).1];exact q) fun c xs q=>by rw [d7 (neH c _ q).1];exact q
    have hcH:H2 c≠none:=by
     rcases hc with rfl | hc
     . rw [e];exact fun z=>nomatch z
     . rw [hc];exact fun z=>nomatch z
    refine keep c v q (fun z=>hcH (z ▸ ha)) (fun z=>hcH (z ▸ hT)) fun z=>hcH (frFree c z)
 exact ⟨I.call' (s':={ s2 with heap:=h' }) (ch:=[]) x.os un hok x.bare (fun _ z=>nomatch z),Same.upd_new ha⟩
end
section
variable {X:Cx} {pins:List (Addr×Obj)} {σ:List (Option V)} {H:Hp} {s:Shared}
theorem Dj (I:Inv X pins σ H s) (hN:X.N.Nodup) (hi:X.N[i]?=some n) (hk:X.env.scope.names.lookup n=some .local)
  (h:∀s',Inv X pins (σ.set i none) H s'->Q () s'):wpAny M A (do bindName X.env n .none;unbindBehindTheSuite X.env n pos) Q E s:=by
 obtain ⟨m,hn,hl⟩:=id I.loc
 have hcls:(X.env.scope.kind==.class||(X.env.scope.kind==.module&&X.env.locals != X.env.globals))=false:=by rw [I.ok.kind];rfl
 obtain ⟨oL,_,_,hoL,_⟩:=id hn
 refine wpAny_nameGoes_keeps hk hn hcls fun h' v hn' hs=>h _ ?_
 have hok:HOk X.prog X.w H h':=fun b ob e=>by
  refine (I.hok b ob e).stay (fun c w' hc q=>(hs.2 c ?_).trans q) (fun _ q=>q) fun _ _ q=>q
  rintro rfl;rcases hc with rfl | hc
  . rw [I.free] at e;cases e
  . rw [I.free] at hc;cases hc
 have neL:∀b o,X.s₀.heap.get? b=some o->b≠X.env.locals:=fun b o e=>Nat.ne_of_lt (Nat.lt_of_lt_of_le (Φ e) I.ok.above)
 refine ⟨I.ok,I.os,I.bare,⟨fun b o e n hb hx=>?_,fun b o e n hb hx=>?_,I.base.free,fun b o e hx=>?_,I.base.tups,I.base.frzs,I.base.tbls⟩,⟨_,hn',fun j y v' e1 e2 e3=>?_⟩,fun y c e=>?_,I.free,I.freeC,fun p hp=>?_,hok,by simpa using I.len⟩
 . exact (hs.2 b (neL b o e)).trans (I.base.keep b o e n hb hx)
 . obtain ⟨sl,e1⟩:=I.base.slot b o e n hb hx;exact ⟨sl,(hs.2 b (neL b o e)).trans e1⟩
 . obtain ⟨o',e1⟩:=I.base.there b o e hx;exact ⟨o',(hs.2 b (neL b o e)).trans e1⟩
 . have hj:j≠i:=fun z=>by
    subst z
    by_cases hlt:j<σ.length
    . rw [List.getElem?_set_self hlt] at e2;cases e2
    . rw [List.getElem?_eq_none (by simpa using hlt)] at e2;cases e2
   rw [List.getElem?_set_ne (Ne.symm hj)] at e2
   have hyn:y≠n:=fun z=>by subst z;exact hj (Lf hN e1 hi)
   obtain ⟨u,r,l⟩:=hl j y v' e1 e2 e3
   refine ⟨u,r,?_⟩
   rcases l with ⟨k,l⟩ | ⟨k,c,e,ob,z,zd⟩
   . exact .inl ⟨k,(by show (if y=n then v else m y)=some u;rw [ψ hyn];exact l)⟩
   . exact .inr ⟨k,c,e,ob,(hs.2 c (I.cne y c e)).trans z,zd⟩
 . obtain ⟨v,ob,z,zd⟩:=I.cell y c e;exact ⟨v,ob,(hs.2 c (I.cne y c e)).trans z,zd⟩
 . obtain ⟨e,n,ne,nf,d⟩:=I.pin p hp;exact ⟨(hs.2 p.1 ne).trans e,n,ne,nf,d⟩
abbrev Cx.held (X:Cx) (e:Value):Cx:={ X with A:=X.A.mark (some e),calm:=false,xe:=fun _ _=>False }
theorem Inv.held (I:Inv X pins σ H s) (e:Value):Inv (X.held e) pins σ H s:=
 ⟨⟨I.ok.mod,I.ok.kind,I.ok.glob,I.ok.blt,I.ok.above,I.ok.inj,I.ok.has,I.ok.cab,(fun z=>nomatch z),I.ok.frames,I.ok.stk,I.ok.exf,I.ok.bs,I.ok.bsz,I.ok.noex,I.ok.exfs,I.ok.funs,I.ok.frf⟩,I.os,I.bare,I.base,I.loc,I.cell,I.free,I.freeC,I.pin,I.hok,I.len⟩
theorem Inv.unheld (ok:X.Ok) (I:Inv (X.held e) pins σ H s):Inv X pins σ H s:=
 ⟨ok,I.os,I.bare,I.base,I.loc,I.cell,I.free,I.freeC,I.pin,I.hok,I.len⟩
theorem xH (G:i0 X.prog X.w X.K X.mg X.base x ps k sp) (hr:Room j X.A) (hg:Gl X x) (ha:PA X.nox (e::es) t) (I:Inv X pins σ H s) (h:t σ H fun vs H1=>Same H H1/\sp vs H1 Q E) (hkj:k<=j:=by omega) (hdb:(x==("__debug__":Str))=false:=by decide)
  (he:starEach (e::es) X.env=(false,eval e X.env)::starEach es X.env:=by rfl) (hpl:(backTo pos (starEach es X.env)).any (·.1)=false:=by rfl) :
  wpAny (model X.prog X.w) X.A (eval (.Call (.Name x p) (e::es) [] pos) X.env) (EP X pins σ Q) (fun ev s'=>∃H1 s1,Same H H1/\Inv X pins σ H1 s1/\CX1 X.prog X.w X.stack H1 s1 E ev s') s:=by
 obtain ⟨f,fd,F,b,m,kp⟩:=G
 refine wpAny_Call_Name_kw (V0 I hg m ?_ hdb)
 have I':Inv X.nox pins σ H s:=⟨⟨I.ok.mod,I.ok.kind,I.ok.glob,I.ok.blt,I.ok.above,I.ok.inj,I.ok.has,I.ok.cab,I.ok.hd,I.ok.frames,I.ok.stk,I.ok.exf,I.ok.bs,I.ok.bsz,I.ok.noex,I.ok.exfs,I.ok.funs,I.ok.frf⟩,I.os,I.bare,I.base,I.loc,I.cell,I.free,I.freeC,I.pin,I.hok,I.len⟩
 refine PySem.W.callWith_K (h₀:=X.base) I.ok.mod.kin kp (wpAny_mono (ha pos pins s σ H _ I' h) (fun us s1 ⟨vs,H1,I1,r,sH,q⟩=>⟨I1.kIn,?_⟩) fun _ _ z=>z.elim) he hpl
 have I1:Inv X pins σ H1 s1:=⟨I.ok,I1.os,I1.bare,I1.base,I1.loc,I1.cell,I1.free,I1.freeC,I1.pin,I1.hok,I1.len⟩
 have hl:us.length=ps.length:=by rw [<-r.length];exact F.len _ _ _ _ q
 have hb:=b s1 us I1.kIn (by rw [List.append_nil];exact hl)
 rw [List.append_nil] at hb
 refine wpAny_call (codeAny_mono (F.run X.A X.stack s1 H1 ⟨us,[]⟩ us vs Q E (hr.mono hkj) I1.env0 hb r q) fun r s' hq=>?_)
 cases r with
 | error e=>exact ⟨H1,s1,sH,I1,hq⟩
 | ok fl=>
  cases fl with
  | ret u=>exact I1.after hq
  | next=>exact False.elim hq
  | brk=>exact False.elim hq
  | cont=>exact False.elim hq
end
structure Lnd5 (X:Cx) (pins:List (Addr×Obj)) (σ:St) (H1:Hp) (s1:Shared) (C a:Addr) (od:Option Addr) (H2:Hp) (s2:Shared) (B:Heap) (T:Addr) (a0:Value) (h5:Heap):Prop where
 I:Inv X pins σ H1 s1
 x:XOut X.prog X.w X.stack H1 s1 C a od H2 s2
 na:s1.heap.get? a=none
 nT:s1.heap.get? T=none
 ha:H2 a=none
 hT:H2 T=none
 keep:∀b o,s2.heap.get? b=some o->b≠a->b≠T->b∉frs X.stack->B.get? b=some o
 up:s2.heap.UpToSlots h5
 fl:Heap.FlyingW B X.stack a (.ref C) a0 h5
 dc:l9 a od h5
section
variable {X:Cx} {EX:XW} {fr:Bool} {pins:List (Addr×Obj)} {σ:St} {H1 H2:Hp} {s1 s2:Shared} {C a T:Addr} {B h5:Heap} {a0:Value} {od:Option Addr}
theorem Lnd5.inv (L:Lnd5 X pins σ H1 s1 C a od H2 s2 B T a0 h5):Inv X pins σ (upd H2 a (z6 a C od)) { s2 with heap:=h5 }/\Same H2 (upd H2 a (z6 a C od)):=
 xI L.I L.x L.na L.nT L.ha L.hT (fun b o e h1 h2 h3=>L.fl.1 b o (L.keep b o e h1 h2 h3)) L.up L.fl L.dc
theorem Lnd5.again (L:Lnd5 X pins σ H1 s1 C a od H2 s2 B T a0 h5) (h:∀h6,Lnd5 X pins σ H1 s1 C a od H2 s2 B T a0 h6->Q () { s2 with heap:=h6 }) :
  wpAny (model X.prog X.w) A (setFlight (.ref a) none) Q E { s2 with heap:=h5 }:=
 wpAny_mono (Eg (E:=E) (E':=E) (.flight _ _) (lands_againW (Q:=fun _ s=>∃h',s={ s2 with heap:=h' }/\Heap.FlyingW B X.stack a (.ref C) a0 h'/\h5.UpToSlots h') (s:={ s2 with heap:=h5 }) L.fl fun h' fl up=>⟨h',rfl,fl,up⟩) (Wv (s:={ s2 with heap:=h5 }) L.fl.2.2.2 L.dc)) (fun _ s ⟨⟨h',e,fl,up⟩,d⟩=>by subst e;exact h h' ⟨L.I,L.x,L.na,L.nT,L.ha,L.hT,L.keep,L.up.trans up,fl,d⟩) fun _ _ z=>z.1
theorem wj (I:Inv X pins σ H1 s1) (hst:X.stack=X.env::X.outer) (hf:X.env.frame=some X.env.locals) (x:XOut X.prog X.w X.stack H1 s1 C a od H2 s2)
  (h:∀B T a0 h5,Lnd5 X pins σ H1 s1 C a od H2 s2 B T a0 h5->Q () { s2 with heap:=h5 }):wpAny (model X.prog X.w) X.A (noteFrame (.ref a) X.env) (fun _ s'=>wpAny (model X.prog X.w) X.A (setFlight (.ref a) none) Q E s') E s2:=by
 obtain ⟨oe,vs,T,oT,ts,a0,he,hc,h0,hd,h1,hTe,hT,hdT,h3,na,nT,ha,hHT,hod,hnd⟩:=id x.fly
 have F2:=I.stack2 x.un
 have hin:∀env∈X.stack,∀b,env.frame=some b->b∈a::T::frs X.stack:=fun env he b hb=>List.mem_cons_of_mem _ (List.mem_cons_of_mem _ (List.mem_filterMap.mpr ⟨env,he,hb⟩))
 have hfr:X.A.frames=some (X.env::X.outer):=by rw [<-hst];exact I.ok.frames
 have hfl:Heap.FlyingW (hideAll s2.heap (a::T::frs X.stack)) (X.env::X.outer) a (.ref C) a0 s2.heap:=⟨fun b o q=>of_hideAll _ q,hideAll_none _ (.head _),hst ▸ PySem.W.funFrames_hide F2 hin,oe,vs,T,oT,ts,he,⟨hc,h0⟩,hd,h1,hideAll_none _ (.tail _ (.head _)),hTe,hT,hdT,h3⟩
 refine Sv (od:=od) hfr hf hfl (fun o ho=>by rw [he] at ho;cases ho;exact hod) fun h4 hh up4 d4=>?_
 refine Jx (s:={ s2 with heap:=h4 }) hh d4 fun h5 fl up5 d5=>h (hideAll s2.heap (a::T::frs X.stack)) T a0 h5 ⟨I,x,na,nT,ha,hHT,fun b o q h1 h2 h3=>hideAll_get _ q fun z=>?_,up4.trans up5,(by rw [<-hst] at fl;exact fl),d5⟩
 rcases List.mem_cons.mp z with rfl | z
 . exact h1 rfl
 . rcases List.mem_cons.mp z with rfl | z
   . exact h2 rfl
   . exact h3 z
theorem Nx (s:Same H H1) (e:H1 b=none):H b=none:=by
 cases q:H b with
 | none=>rfl
 | some o=>rw [s b o q] at e;cases e
theorem _root_.L2.Fly.newd (f:Fly h0 H' C a od h):∀dx,od=some dx->h0.get? dx=none:=by obtain ⟨_,_,_,_,_,_,_,_,_,_,_,_,_,_,_,_,_,_,_,_,h⟩:=f;exact h
abbrev HD:=Ex->DS->SR
structure QY (X:Cx) (fr:Bool) (sts:List Stmt) (g:DS->SR):Prop where
 h:∀(pins:List (Addr×Obj)) (s:Shared) (σ:St) (H:Hp) (De:Ends) (Hc Hb H0:Hp) (ρ:DS) (P:Ex->Hp->Prop),Inv X pins σ H s->RS X.K Hc Hb H0 ρ σ H->SK X.K ⟨H,P⟩ fr Hc Hb De (g ρ) ->
  wpAny (model X.prog X.w) X.A (execs sts X.env) (SP X pins De) (fun ev s'=>∃H1 s1 x C a od H2,ev=.ref a/\Same H H1/\Inv X pins σ H1 s1/\XOut X.prog X.w X.stack H1 s1 C a od H2 s'/\X.mg (Str.ofString (Ex.cls x))=some (.ref C)/\P x H2/\XFs X.K x od H2) s
structure QH (X:Cx) (EX:XW) (fr:Bool) (hs:List ExceptHandler) (hd:HD):Prop where
 h:∀(pins:List (Addr×Obj)) (σ:St) (H1:Hp) (s1:Shared) (C a:Addr) (od:Option Addr) (H2:Hp) (s2:Shared) (B:Heap) (T:Addr) (a0:Value) (h5:Heap) (De:Ends) (Hc Hb H0:Hp) (ρ:DS) (x:Ex) (E:Value->Shared->Prop) (H:Hp),Same H H2->(∀dx,od=some dx->H dx=none)->XFs X.K x od H2->Lnd5 X pins σ H1 s1 C a od H2 s2 B T a0 h5->X.mg (Str.ofString x.cls)=some (.ref C) ->
  RS X.K Hc Hb H0 ρ σ H->SK X.K EX fr Hc Hb De (hd x ρ)->wpAny (model X.prog X.w) X.A (handleBy (.ref a) X.env hs) (SP X pins De) E { s2 with heap:=h5 }
noncomputable def Bm (g:DS->SR) (hd:HD):DS->SR:=fun ρ=>match g ρ with
 | .er x=>hd x ρ
 | r=>r
theorem jb {body:List Stmt} {h₀:ExceptHandler} {hs:List ExceptHandler} {g:DS->SR} {hd:HD} {pos:Pos} (hst:X.stack=X.env::X.outer) (hf:X.env.frame=some X.env.locals) (hb:QY X fr body g) (hh:QH X EX fr (h₀::hs) hd):QS X EX fr (.Try body (h₀::hs) [] [] pos) (Bm g hd):=by
 refine ⟨fun pins s σ H De I h=>?_⟩;obtain ⟨Hc,Hb,H0,ρ,sb,R,h⟩:=h;refine wpAny_Try_except (wpAny_mono (hb.h pins s σ H De Hc Hb H0 ρ (fun x H'=>Same H H'/\SK X.K EX fr Hc Hb De (hd x ρ)) I R ?_) (fun f s₁ hq=>?_) fun ev s' ⟨H1,s1,x,C,a,od,H2,e,sH,I1,xo,hm,⟨sm,hk⟩,xf⟩=>?_)
 . unfold Bm at h;cases q:g ρ with
   | nx ρ'=>rw [q] at h;exact h
   | bk ρ'=>rw [q] at h;exact h
   | ct ρ'=>rw [q] at h;exact h
   | rt d=>rw [q] at h;exact h
   | er x=>rw [q] at h;exact fun H' s'=>⟨s',h⟩
   | st=>rw [q] at h;exact h
 . cases f with
   | next=>exact wpAny_execs_nil hq
   | brk=>exact hq
   | cont=>exact hq
   | ret u=>exact hq
 . subst e;exact wj I1 hst hf xo fun B T a0 h5 L=>hh.h pins σ H1 s1 C a od H2 s' B T a0 h5 De Hc Hb H0 ρ x X.xe H sm (fun dx e=>Nx sH (I1.hok.none (xo.fly.newd dx e))) xf L hm R hk
end
noncomputable def R.kn {α:Type} (k:String->Bool) (r:R α):R α:=match r with
 | .er x=>if k x.cls=true then .er x else .st
 | r=>r
def R4 (k:String->Bool) (m:List D->R D) (fs:DE->R (List D)):DE->R D:=fun ρ=>(fs ρ).noE.bind fun ds=>(m ds).kn k
section
variable {X:Cx} {fr frc:Bool} {k:String->Bool} {fs:DE->R (List D)} {mm:List D->R D} {n:Nat} {m:List Bool}
theorem xG {K:Frag} {mg:Str->Option Value} {Hc Hb H0 H:Hp} {ρ:DS} {σ:St} {P:Ex->Hp->Prop} {kk:D->Prop} {Q:VK} (hl:∀ds,ds.length≠n->mm ds=.st) (hk:∀c,k c=true->∃C,mg (Str.ofString c)=some (.ref C)) (R:RS K Hc Hb H0 ρ σ H)
  (h:Rk (XW.at ⟨H,P⟩) (R4 k mm fs (vis m ρ)) kk) (hQ:∀d,kk d->∀v H',Out K frc (HeOf m ρ σ H0 H) H d v H'->Q v H'):TAd K F0 fs σ H fun vs H1=>Same H H1/\spD K mg frc mm n vs H1 Q (eOf K ⟨H,P⟩ mg):=by
 unfold R4 at h
 rw [Rk.bind] at h
 refine ⟨F0.same _,vis m ρ,HeOf m ρ σ H0 H,R.heH m,R.re m,(Rk.noE h).mono fun ds h vs H1 H1' s1 e1 r1=>⟨s1,ds,H1',e1.2.1,r1,?_,?_⟩⟩
 . apply Classical.byContradiction;intro hn;rw [hl ds hn] at h;exact h
 . cases q:mm ds with
   | ok d=>rw [q] at h;exact fun v H' o=>hQ d h v H' (o.after s1 e1)
   | st=>rw [q] at h;exact h
   | er x=>
    rw [q] at h
    unfold L2.R.kn at h
    dsimp only at h
    split at h
    . rename_i hx;obtain ⟨C,hC⟩:=hk _ hx;exact fun H' s'=>⟨C,hC,fun od xf=>⟨x,h H' (s1.trans s'),hC,xf⟩⟩
    . exact h.elim
theorem xF (h:∃H1 s1,Same H H1/\Inv X pins σ H1 s1/\CX1 X.prog X.w X.stack H1 s1 (eOf X.K ⟨H,P⟩ X.mg) ev s') :
  ∃H1 s1 x C a od H2,ev=.ref a/\Same H H1/\Inv X pins σ H1 s1/\XOut X.prog X.w X.stack H1 s1 C a od H2 s'/\X.mg (Str.ofString (Ex.cls x))=some (.ref C)/\P x H2/\XFs X.K x od H2:=by
 obtain ⟨H1,s1,sH,I,C,a,od,H2,e,xo,x,hp,hm,xf⟩:=h
 exact ⟨H1,s1,x,C,a,od,H2,e,sH,I,xo,hm,hp,xf⟩
theorem qp {pins:List (Addr×Obj)} {De:Ends} {st:Stmt} {s:Shared} {E:Value->Shared->Prop} (h:wpAny (model X.prog X.w) X.A (exec st X.env) (SP X pins De) E s):wpAny (model X.prog X.w) X.A (execs [st] X.env) (SP X pins De) E s:=by
 refine wpAny_execs_cons (thn h fun f s1 q=>?_);cases f with
 | next=>exact wpAny_execs_nil q
 | ret v=>exact q
 | brk=>exact q
 | cont=>exact q
variable {x:Str} {p cpos pos:Pos} {e:Expr} {es:List Expr} {ps:List Str} {kl j kk':Nat} {gg:DS->SR}
theorem qo (hk:∀c,k c=true->∃C,X.mg (Str.ofString c)=some (.ref C)) (G:i0 X.prog X.w X.K X.mg X.base x ps kl (spD X.K X.mg frc (mOf frc n kk' gg) n)) (hr:Room j X.A) (hg:Gl X x) (ha:QA X.nox F0 (e::es) fs) (hkj:kl<=j:=by omega) (hdb:(x==("__debug__":Str))=false:=by decide)
  (he:starEach (e::es) X.env=(false,eval e X.env)::starEach es X.env:=by rfl) (hpl:(backTo cpos (starEach es X.env)).any (·.1)=false:=by rfl) (hs:swapsWith (.Call (.Name x p) (e::es) [] cpos) none pos.line X.env=pure false:=by rfl) :
  QY X fr [.Expr (.Call (.Name x p) (e::es) [] cpos) pos] (J3 (R4 k (mOf frc n kk' gg) fs)):=by
 refine ⟨fun pins s σ H De Hc Hb H0 ρ P I R h=>?_⟩
 unfold J3 at h
 rw [SK.toS,<-Ae] at h
 refine qp (wpAny_Expr_any (wpAny_mono (xH (Q:=fun _ H'=>De.nx σ H') G hr hg ha.h I (xG Jy hk R h fun d z v H' o=>z σ H' H0 (R.grow o.1)) hkj hdb he hpl) (fun v s1 ⟨y,H1,I1,r1,q1⟩=>⟨σ,H1,I1,q1⟩) fun ev s' z=>xF z) I.quiet hs)
end
noncomputable def Ys:HD:=fun _ _=>.st
noncomputable def SR.gone (i:Nat):SR->SR
 | .nx ρ=>.nx (ρ.set i .em)
 | .bk ρ=>.bk (ρ.set i .em)
 | .ct ρ=>.ct (ρ.set i .em)
 | .rt d=>.rt d
 | _=>.st
def hAs (tb:String->Option Bool) (i:Nat) (g:DS->SR) (r:HD):HD:=fun x ρ=>match tb x.cls with
 | some true=>(g (ρ.set i (.im (.exc x.cls x.fs)))).gone i
 | some false=>r x ρ
 | none=>.st
theorem RS.gone {K:Frag} {Hc Hb H0 H:Hp} {ρ:DS} {σ:St} (R:RS K Hc Hb H0 ρ σ H) (i:Nat):RS K Hc Hb H0 (ρ.set i .em) (σ.set i none) H:=by
 have ne:∀(j:Nat) (z:Sl),(ρ.set i Sl.em)[j]?=some z->z≠.em->j≠i/\ρ[j]?=some z:=fun j z e hz=>by
  by_cases hj:j=i
  . subst hj;by_cases hl:j<ρ.length
    . rw [List.getElem?_set_self hl] at e;cases e;exact absurd rfl hz
    . rw [List.getElem?_eq_none (by simpa using hl)] at e;cases e
  . rw [List.getElem?_set_ne (Ne.symm hj)] at e;exact ⟨hj,e⟩
 refine ⟨R.sb,R.ext,by simpa using R.len,fun j d e=>?_,fun j d e=>?_,fun j k d e a h1 h2 h3 h4=>?_⟩
 . obtain ⟨hj,e⟩:=ne j _ e (by simp);rw [List.getElem?_set_ne (Ne.symm hj)];exact R.im j d e
 . obtain ⟨hj,e⟩:=ne j _ e (by simp);rw [List.getElem?_set_ne (Ne.symm hj)];exact R.ow j d e
 . obtain ⟨hj,e1⟩:=ne j _ h1 (by simp);obtain ⟨hk,e2⟩:=ne k _ h2 (by simp);rw [List.getElem?_set_ne (Ne.symm hj)] at h3;rw [List.getElem?_set_ne (Ne.symm hk)] at h4;exact R.ap j k d e a e1 e2 h3 h4
noncomputable def gD (De:Ends) (i:Nat):Ends:={ nx:=fun σ H=>De.nx (σ.set i none) H,rt:=De.rt,bk:=fun σ H=>De.bk (σ.set i none) H,ct:=fun σ H=>De.ct (σ.set i none) H }
theorem SK.gone {K:Frag} {EX:XW} {fr:Bool} {Hc Hb:Hp} {De:Ends} {i:Nat} {r:SR} (h:SK K EX fr Hc Hb De (r.gone i)):SK K F0 fr Hc Hb (gD De i) r:=by
 cases r with
 | nx ρ=>exact fun σ H H0 R=>h _ H H0 (R.gone i)
 | bk ρ=>exact fun σ H H0 R=>h _ H H0 (R.gone i)
 | ct ρ=>exact fun σ H H0 R=>h _ H H0 (R.gone i)
 | rt d=>exact h
 | er x=>exact h.elim
 | st=>exact h.elim
theorem Out.exc {K:Frag} {He H H2:Hp} {x:Ex} {a C:Addr} {od:Option Addr} (e1:nsIn K mainGlobals (Str.ofString x.cls)=some (some (.ref C))) (h0:Same He H) (s:Same H H2) (ha:H2 a=none) (nd:∀dx,od=some dx->H dx=none) (xf:XFs K x od H2):Out K false He H (.exc x.cls x.fs) (.ref a) (upd H2 a (z6 a C od)):=by
 have sm:Same H2 (upd H2 a (z6 a C od)):=Same.upd_new ha;rcases xf with e | ⟨dx,ns,ob,h1,h2,h3⟩
 . have e2:Ext He H He H2:=⟨Same.refl _,h0.trans s,fun _ _ z=>z⟩;exact .val (s.trans sm) (e2.trans s (.new (h0.trans s) ha)) (by simp only [RD];exact ⟨a,od,_,rfl,⟨C,e1,rfl⟩,i9,.inl e⟩)
 . have hd:=nd dx h1;have hd0:He dx=none:=Nx h0 hd;have e2:Ext He H (upd He dx (.frz ob (.xd ((Fx x.cls).zip (ns.map V.int))))) H2:=by
    refine ⟨Same.upd_new hd0,fun b o q=>?_,fun b q1 q2=>?_⟩
    . by_cases hb:b=dx
      . subst hb;rw [i9] at q;rw [h2];exact q
      . rw [d7 hb] at q;exact s _ _ (h0 _ _ q)
    . rw [d7 (fun z=>q1 (by rw [z];exact hd))];exact q2
   have hne:dx≠a:=fun z=>by rw [z,ha] at h2;cases h2
   exact .val (s.trans sm) (e2.trans s (.new e2.2.1 ha)) (by simp only [RD];exact ⟨a,od,_,rfl,⟨C,e1,rfl⟩,i9,.inr ⟨dx,ns,ob,h1,by rw [d7 hne,i9],h3⟩⟩)
structure Tbl (K:Frag) (cn:String) (Dd:Addr) (bmB:List Value) (newId:String) (tb:String->Option Bool):Prop where
 dn:nsIn K mainGlobals (Str.ofString cn)=some (some (.ref Dd))
 dq:XCl K Dd bmB newId
 cs:∀c b,tb c=some b->∃C,nsIn K mainGlobals (Str.ofString c)=some (some (.ref C))/\XCl K C bmB newId/\mroIn K C (.ref Dd)=some b
theorem ql {K:Frag} {h:Heap} {C:Addr} {v:Value} {b:Bool} {nm q:Str} {N:Addr} {bs bm:List Value} {hdct:Bool} {sn:List Str} {sub:List Value} {ab:Bool} {col:Option Bool} {dd:Option Addr} {k0 k1 k2 k3 k5:Option Value} {newId:String} (X:K.In h)
  (hC:h.get? C=some (excClassObj nm q C N bs bm hdct sn sub ab col dd k0 k1 k2 k3 k5 newId)) (hm:mroIn K C v=some b):(Value.ref C::bm).contains v=b:=by
 obtain ⟨cd,e1,e2⟩:=Option.bind_eq_some_iff.mp hm
 unfold PySem.W.clsIn at e1
 split at e1<;>cases e1
 rename_i ho
 have:=(X _ _ ho).symm.trans hC
 unfold excClassObj at this
 cases this
 split at e2
 . cases e2
 . exact Option.some.inj e2
section
variable {X:Cx} {EX:XW} {fr:Bool} {cn:String} {Dd:Addr} {bmB:List Value} {newId:String} {tb:String->Option Bool} {cp hpos:Pos} {b₀:Stmt} {suite:List Stmt} {rest:List ExceptHandler} {g:DS->SR} {hd:HD} {n:Str} {i:Nat}
theorem ja:QH X EX fr [] Ys:=⟨fun _ _ _ _ _ _ _ _ _ _ _ _ _ _ _ _ _ _ _ _ _ _ _ _ _ _ _ h=>h.elim⟩
theorem qh {pins:List (Addr×Obj)} {σ:St} {H1:Hp} {s1:Shared} {C a:Addr} {od:Option Addr} {H2:Hp} {s2:Shared} {B:Heap} {T:Addr} {a0:Value} {h5:Heap} {x:Ex} {b:Bool} {R:Result->Shared->Prop} (Tb:Tbl X.K cn Dd bmB newId tb) (hbase:bmB.contains (.type "BaseException")=true) (hg:Gl X (Str.ofString cn)) (L:Lnd5 X pins σ H1 s1 C a od H2 s2 B T a0 h5)
  (hmx:X.mg (Str.ofString x.cls)=some (.ref C)) (hb:tb x.cls=some b) (h:R (.ok (if b then .brk else .next)) { s2 with heap:=h5 }) (hdb:(Str.ofString cn==("__debug__":Str))=false) :
  codeAny (model X.prog X.w) (X.A.mark (some (.ref a))) (.handlers (.ref a) [.ExceptHandler (some (.Name (Str.ofString cn) cp)) none [] hpos] X.env) R { s2 with heap:=h5 }:=by
 obtain ⟨I5,sm⟩:=L.inv
 have hm:X.mg (Str.ofString cn)=some (.ref Dd):=PySem.W.mg_of L.I.ok.mod.kin L.I.ok.mod.glob Tb.dn
 obtain ⟨C',e1,e2,e3⟩:=Tb.cs _ _ hb
 have hm':=PySem.W.mg_of L.I.ok.mod.kin L.I.ok.mod.glob e1
 rw [hmx] at hm'
 cases hm'
 obtain ⟨oe,vs,he,hc,hd',_⟩:=L.fl.first
 have KI:X.K.In h5:=I5.kIn
 obtain ⟨bm,N,nm,qn,bs,hdct,sn,sub,ab,col,dd,k0,k1,k2,k3,k5,hC,TL⟩:=Sf KI e2
 obtain ⟨bm2,N2,nm2,qn2,bs2,hdct2,sn2,sub2,ab2,col2,dd2,j0,j1,j2,j3,j5,hD,TL2⟩:=Sf KI Tb.dq
 refine codeAny_handlers_test (V0 (X:=X.held (.ref a)) (I5.held _) hg hm ?_ hdb)
 exact yu hC hD he hc (TL2.hasType hbase) (by rw [ql KI hC e3];exact h)
theorem y2e (Tb:Tbl X.K cn Dd bmB newId tb) (hbase:bmB.contains (.type "BaseException")=true) (hg:Gl X (Str.ofString cn)) (hN:X.N.Nodup) (hi:X.N[i]?=some n) (hk:X.env.scope.names.lookup n=some .local) (hs:∀e,QB (X.held e) F0 fr (b₀::suite) g) (hr:QH X EX fr rest hd) (hdb:(Str.ofString cn==("__debug__":Str))=false:=by decide) :
  QH X EX fr (.ExceptHandler (some (.Name (Str.ofString cn) cp)) (some n) (b₀::suite) hpos::rest) (hAs tb i g hd):=by
 refine ⟨fun pins σ H1 s1 C a od H2 s2 B T a0 h5 De Hc Hb H0 ρ x E H sH nd xf L hmx R h=>?_⟩
 unfold hAs at h
 refine wpAny_handleBy_cons ?_ (by intro q;cases q)
 cases hb:tb x.cls with
 | none=>rw [hb] at h;exact h.elim
 | some b=>
  rw [hb] at h
  refine qh Tb hbase hg L hmx hb ?_ hdb
  cases b with
  | false=>exact hr.h pins σ H1 s1 C a od H2 s2 B T a0 h5 De Hc Hb H0 ρ x E H sH nd xf L hmx R h
  | true=>
   refine codeAny_handlers_suite_as (L.again fun h6 L6=>?_)
   obtain ⟨I6,sm⟩:=L6.inv
   refine Le I6 hN hi (.inl hk) (v:=.ref a) rfl (fun s3 I3=>?_) (.inr hk)
   obtain ⟨C',e1,e2,e3⟩:=Tb.cs _ _ hb
   have hm':=PySem.W.mg_of L.I.ok.mod.kin L.I.ok.mod.glob e1
   rw [hmx] at hm'
   cases hm'
   have o:Out X.K false (HeOf [] ρ σ H0 H) H (.exc x.cls x.fs) (.ref a) (upd H2 a (z6 a C od)):=.exc e1 (R.heH []) sH L.ha nd xf
   obtain ⟨H0n,R',apt⟩:=R.out o
   have R3:=R'.put apt i
   refine wpAny_mono ((hs (.ref a)).h pins s3 _ _ (gD De i) (I3.held (.ref a)) ⟨Hc,Hb,H0n,_,F0.same _,R3,h.gone⟩) (fun f s4 q=>?_) fun _ _ z=>z.elim
   cases f with
   | next=>obtain ⟨σ',H',I',q⟩:=q;exact Dj (I'.unheld L.I.ok) hN hi hk fun s5 I5=>⟨_,H',I5,q⟩
   | brk=>obtain ⟨σ',H',I',q⟩:=q;exact Dj (I'.unheld L.I.ok) hN hi hk fun s5 I5=>⟨_,H',I5,q⟩
   | cont=>obtain ⟨σ',H',I',q⟩:=q;exact Dj (I'.unheld L.I.ok) hN hi hk fun s5 I5=>⟨_,H',I5,q⟩
   | ret u=>obtain ⟨v,σ',H',I',rv,q⟩:=q;exact Dj (I'.unheld L.I.ok) hN hi hk fun s5 I5=>⟨v,_,H',I5,rv,q⟩
end
end L2
namespace L2
open PySem PySem.Spec PyProof.Rows
open PySem.Calls
section
variable {prog:Program} {w:World} {A:Around} {E:Value->Shared->Prop} {h:Heap} {g:Array GenState} {d:Drawn} {t:Nat} {os:OsState} {K:Frag} {C a:Addr} {o:Obj}
theorem X7 (L:Looks M h m r) (q:Q r ⟨h,g,d,t,os⟩):wpAny M A m Q E ⟨h,g,d,t,os⟩:=L A Q E _ (fun _ _ z=>z) q
theorem Zz {R:Result->Shared->Prop} (X:K.In h) (hx:h.get? a=some o) (hc:o.cls=.ref C) (hm:mroIn K C (.type "object")=some true) (hq:R (.ok (.ret (.ref C))) ⟨h,g,d,t,os⟩) :
  codeAny (model prog w) A (.call (.builtin "getset_descriptor.__get__") ⟨[.builtin "object.__class__",.ref a,.ref C],[]⟩) R ⟨h,g,d,t,os⟩:=by
 have hT5:(⟨h,g,d,t,os⟩:Shared).TypeIs (.builtin "object.__class__") "getset_descriptor":=PySem.F.typeOf_object_class
 have L1:Looks (model prog w) h (isSubtype (.ref C) (.type (".".intercalate ("object.__class__".cutAt '.').dropLast))) true:=by rw [PySem.F.owner_object_class];exact PySem.W.looks_mroIn X hm
 refine codeAny_call_builtin PySem.F.slot_gs_get.plain PySem.F.entry_gs_get (PySem.F.slot_gs_get.check _ _ _ _ _ _ _ _ hT5 (PySem.F.args_gs_get _ _ _) ?_)
 repeat (any_goals (first | assumption | (with_reducible refine wpAny_loadPart_at hx ?_;rw [hc]) | with_reducible refine X7 L1 ?_ | wp_step))
 refine ⟨Code.quiet_builtin _ (by decide +kernel),codeAny_builtin PySem.F.entry_object_class ?_⟩
 repeat (any_goals (first | assumption | (with_reducible refine wpAny_loadPart_at hx ?_;rw [hc]) | wp_step))
theorem wg (X:K.In h) (hx:h.get? a=some o) (hc:o.cls=.ref C) (hm:mroIn K C (.type "object")=some true) (hcl:PySem.W.findIn K (.ref C) "__class__"=some (some (.builtin "object.__class__"))) (hq:Q (.done (.ret (.ref C))) ⟨h,g,d,t,os⟩) :
  wpAny (model prog w) A (Builtin.«object.__getattribute__» ⟨[.ref a,.str "__class__" tk],[]⟩) Q E ⟨h,g,d,t,os⟩:=by
 have hT5:(⟨h,g,d,t,os⟩:Shared).TypeIs (.builtin "object.__class__") "getset_descriptor":=PySem.F.typeOf_object_class
 have L2:=PySem.W.looks_findIn (M:=model prog w) X hcl
 have f5:=PySem.F.typeOf_object_class
 have f6:=PySem.F.slot_gs_get.lookup
 have f7:=PySem.F.slot_gs_set.lookup
 repeat (any_goals (first | assumption | (with_reducible refine wpAny_loadPart_at hx ?_;rw [hc]) | with_reducible refine X7 L2 ?_ | wp_step))
 refine Zz X hx hc hm ?_
 repeat (any_goals (first | assumption | wp_step))
theorem wf (X:K.In h) (hx:h.get? a=some o) (hc:o.cls=.ref C) (hB:mroIn K C (.type "BaseException")=some true) (hq:Q () ⟨h,g,d,t,os⟩):wpAny M A (checkBuiltinCall "BaseException.__getattribute__" ⟨[.ref a,nameV],[]⟩) Q E ⟨h,g,d,t,os⟩:=by
 have hk:builtinKind "BaseException.__getattribute__"=some .slot:=by decide +kernel
 have hsplit:splitId "BaseException.__getattribute__"=some ("BaseException","__getattribute__"):=by decide +kernel
 have ha:=PySem.F.args_bexc_ga (.ref a) nameV;have L1:=PySem.W.looks_mroIn (M:=M) X hB;simp only [checkBuiltinCall,hk,hsplit];refine χ ?_
 . unfold isInstance;repeat (first | (with_reducible refine wpAny_loadPart_at hx ?_;rw [hc]) | with_reducible refine X7 L1 ?_ | wp_step)
   exact hq
theorem qf {tk:Tok} {R:Result->Shared->Prop} (X:K.In h) (hx:h.get? a=some o) (hc:o.cls=.ref C) (hm:mroIn K C (.type "object")=some true) (hB:mroIn K C (.type "BaseException")=some true) (hcl:PySem.W.findIn K (.ref C) "__class__"=some (some (.builtin "object.__class__"))) (hq:R (.ok (.ret (.ref C))) ⟨h,g,d,t,os⟩) :
  codeAny (model prog w) A (.call (.builtin "BaseException.__getattribute__") ⟨[.ref a,.str "__class__" tk],[]⟩) R ⟨h,g,d,t,os⟩:=
 codeAny_call_builtin PySem.F.attr_ValueError.ga.plain PySem.F.entry_bexc_ga (wf X hx hc hB (wg X hx hc hm hcl hq))
theorem y2f (X:K.In h) (hx:h.get? a=some o) (hc:o.cls=.ref C) (hm:mroIn K C (.type "object")=some true) (hB:mroIn K C (.type "BaseException")=some true) (hcl:PySem.W.findIn K (.ref C) "__class__"=some (some (.builtin "object.__class__")))
  (hga:PySem.W.findIn K (.ref C) "__getattribute__"=some (some (.builtin "BaseException.__getattribute__"))) (hgt:PySem.W.findIn K (.ref C) "__getattr__"=some none) (hq:Q (.ref C) ⟨h,g,d,t,os⟩):wpAny (model prog w) A (getAttrBy (.ref a) (.str "__class__" tk) false) Q E ⟨h,g,d,t,os⟩:=by
 have L1:=PySem.W.looks_findIn (M:=model prog w) X hga
 have L2:=PySem.W.looks_findIn (M:=model prog w) X hgt
 have f3:=(PySem.F.attr_ValueError).ga.bind (.ref a)
 have hx2:(Value.builtin "BaseException.__getattribute__"==Value.builtin "object.__getattribute__")=false:=by decide +kernel
 have hx1:(onTheHeap (Value.ref C)&&Value.builtin "BaseException.__getattribute__"==Value.builtin "object.__getattribute__")=false:=by rw [hx2];rfl
 repeat (any_goals (first | assumption | (with_reducible refine wpAny_loadPart_at hx ?_;rw [hc]) | with_reducible refine X7 L1 ?_ | with_reducible refine X7 L2 ?_ | wp_step))
 refine qf X hx hc hm hB hcl ?_
 repeat (any_goals (first | assumption | wp_step))
theorem we (X:K.In h) (hx:h.get? a=some o) (hc:o.cls=.ref C) (hm:mroIn K C (.type "object")=some true) (hB:mroIn K C (.type "BaseException")=some true) (hcl:PySem.W.findIn K (.ref C) "__class__"=some (some (.builtin "object.__class__")))
  (hga:PySem.W.findIn K (.ref C) "__getattribute__"=some (some (.builtin "BaseException.__getattribute__"))) (hgt:PySem.W.findIn K (.ref C) "__getattr__"=some none) (hq:Q (some (.ref C)) ⟨h,g,d,t+1,os⟩):wpAny (model prog w) A (getAttr? (.ref a) "__class__") Q E ⟨h,g,d,t,os⟩:=by
 unfold getAttr? getAttrBy?
 repeat (any_goals (first | assumption | with_reducible apply y2f X hx hc hm hB hcl hga hgt | wp_step))
end
structure XF (K:Frag) (C:Addr):Prop where
 ob:mroIn K C (.type "object")=some true
 be:mroIn K C (.type "BaseException")=some true
 cl:PySem.W.findIn K (.ref C) "__class__"=some (some (.builtin "object.__class__"))
 ga:PySem.W.findIn K (.ref C) "__getattribute__"=some (some (.builtin "BaseException.__getattribute__"))
 gt:PySem.W.findIn K (.ref C) "__getattr__"=some none
theorem XF.cls {K:Frag} {C:Addr} (F:XF K C):∃c' d' cd sl,K.lookup C=some ⟨c',d',.cls cd,sl⟩:=by obtain ⟨cd,e1,e2⟩:=Option.bind_eq_some_iff.mp F.ob;unfold PySem.W.clsIn at e1;split at e1<;>cases e1;rename_i ho;exact ⟨_,_,_,_,ho⟩
theorem Ks {K:Frag} {C a:Addr} (F:XF K C):PySem.W.KitX K (.ref a) (.ref C) (fun h=>∃ob,h.get? a=some ob/\ob.cls=.ref C) where
 ty:=fun M h X ⟨o,h1,h2⟩=>h2 ▸ (PySem.W.Looks.ld h1).andThen .now
 it:=fun _ _ X _=>by obtain ⟨c',d',cd,sl,ho⟩:=F.cls;intro A' Q' E' s' k q;unfold isType loadHead;exact χ (wpAny_loadPart (k _ _ (X _ _ ho)) (ω q))
 ne:=fun h tp dd its n sl X htp=>by
  obtain ⟨c',d',cd,sl,ho⟩:=F.cls;refine Bool.eq_false_iff.mpr fun q=>?_
  have e:C=tp:=Value.ref.inj (beq_iff_eq.mp q);subst e;have z:=(X _ _ ho).symm.trans htp;cases z
 ca:=fun {prog w A E Q s} X ⟨o,hx,hc⟩ k=>by obtain ⟨h,g,d,t,os⟩:=s;exact we X hx hc F.ob F.be F.cl F.ga F.gt k
def Fi (K:Frag):List V->Hp->VK->Prop:=fun xs H Q=>match xs with
 | [.ref a,.ref p]=>∃C od b,H a=some (z6 a C od)/\XF K C/\(kitOne K (.ref C) (.ref p)=some b\/∃Ds:List Addr,H p=some (.tup (Ds.map V.ref))/\PySem.W.kitAny K (.ref C) (Ds.map Value.ref)=some b)/\Q (.bl b) H
 | [.ref a,.ty T]=>∃C od b,H a=some (z6 a C od)/\XF K C/\kitOne K (.ref C) (.type T)=some b/\Q (.bl b) H
 | _=>False
theorem Uu:∀{Ds:List Addr} {us:List Value},Vals (Ds.map V.ref) us->us=Ds.map Value.ref
 | [],_,.nil=>rfl
 | _::_,_,.cons r t=>by rw [Uu t,show _=_ from r];rfl
theorem Zy:CallR X (.builtin "isinstance") (Fi X.K):=by
 intro pins s σ H xs us Q I r h;unfold Fi at h;split at h
 . rename_i a p;obtain ⟨C,od,b,ha,F,hk,q⟩:=h;cases r with
   | cons r1 r=>cases r with
    | cons r2 r=>
     cases r
     cases (show _=_ from r1)
     cases (show _=_ from r2)
     obtain ⟨⟨ob,o1,o2,_⟩,_⟩:=I.hok a _ ha
     rcases hk with hk | ⟨Ds,hp,hk⟩
     . exact kia_one (Ks F) I.kIn ⟨ob,o1,o2⟩ hk (fun z=>by cases z) fun tk=>⟨.bl b,H,I.tok tk,rfl,q⟩
     . obtain ⟨_,its,rv,ot,n,t1,⟨t2,t3⟩,_⟩:=I.hok p _ hp;obtain ⟨oc,od,odt,osl⟩:=ot;dsimp only at t1 t3;subst t1 t3;rw [Uu rv] at n;exact PySem.W.kia_tup (Ks F) I.kIn ⟨ob,o1,o2⟩ n hk (fun z=>by cases z) fun tk=>⟨.bl b,H,I.tok tk,rfl,q⟩
 . rename_i a T;obtain ⟨C,od,b,ha,F,hk,q⟩:=h;cases r with
   | cons r1 r=>cases r with
    | cons r2 r=>
     cases r
     cases (show _=_ from r1)
     cases (show _=_ from r2)
     obtain ⟨⟨ob,o1,o2,_⟩,_⟩:=I.hok a _ ha
     exact kia_one (Ks F) I.kIn ⟨ob,o1,o2⟩ hk (fun z=>by cases z) fun tk=>⟨.bl b,H,I.tok tk,rfl,q⟩
 . exact h.elim
noncomputable def D7 (tb:String->Option Bool):D->Option D
 | .exc c _=>(tb c).map .bl
 | _=>none
structure Bel (K:Frag) (y:Value) (tb:String->Option Bool):Prop where
 h:∀c b,tb c=some b->∃C,nsIn K mainGlobals (Str.ofString c)=some (some (.ref C))/\XF K C/\kitOne K (.ref C) y=some b
theorem RD.exc {K:Frag} {H:Hp} {c:String} {fs:List D} {v:V} (r:RD K H (.exc c fs) v):∃a C od,v=.ref a/\nsIn K mainGlobals (Str.ofString c)=some (some (.ref C))/\H a=some (z6 a C od)/\XFs K ⟨c,fs⟩ od H:=by simp only [RD] at r;obtain ⟨a,od,o,e,⟨C,h1,h2⟩,h3,h4⟩:=r;subst h2;exact ⟨a,C,od,e,h1,h3,h4⟩
section
variable {X:Cx} {EX:XW} {a b:Expr} {pos p:Pos} {x:Str} {f:DE->R D} {tb:String->Option Bool}
theorem Zx {K:Frag} {σ:St} {H:Hp} {Q:VK} {y:V} {yv:Value} (hy:(∃Dd,y=.ref Dd/\yv=.ref Dd)\/∃T,y=.ty T/\yv=.type T) (B:Bel K yv tb) (h:TEd K EX false (eUn (D7 tb) f) σ H Q):tCB (Fi K) (D3 (TEd K EX false f) (D3 (tC y) R9)) σ H Q:=by
 obtain ⟨sx,ρ,H0,s,e,h⟩:=h;unfold eUn at h;rw [Rk.bind] at h;refine TEd.go sx s e h fun d h v H1 H1' s1 e1 r1=>?_
 obtain ⟨z,hz,h⟩:=h.of;cases d<;>simp only [D7] at hz<;>first | cases hz | skip
 rename_i c _;obtain ⟨b,hb,rfl⟩:=Option.map_eq_some_iff.mp hz;obtain ⟨a,C,od,rfl,hn,ha,_⟩:=r1.exc;obtain ⟨C',h1,h2,h3⟩:=B.h c b hb;rw [hn] at h1;cases h1;have q:=h (.bl b) H1 (.val s1 e1 (by simp only [RD]));rcases hy with ⟨Dd,rfl,rfl⟩ | ⟨T,rfl,rfl⟩
 . exact ⟨C,od,b,e1.2.1 _ _ ha,h2,.inl h3,q⟩
 . exact ⟨C,od,b,e1.2.1 _ _ ha,h2,h3,q⟩
theorem P0 (hg:Gl X x) (hm:X.mg x=none) (hv:bootBuiltins x=some (.builtin "isinstance")) (ha:QE X EX false a f) (hb:PE X b (tC y)) (hy:(∃Dd,y=.ref Dd/\yv=.ref Dd)\/∃T,y=.ty T/\yv=.type T) (B:Bel X.K yv tb) (hn:x≠"__name__":=by decide) (hdb:(x==("__debug__":Str))=false:=by decide)
 (he:starEach [a,b] X.env=(false,eval a X.env)::starEach [b] X.env:=by rfl) (hpl:(backTo pos (starEach [b] X.env)).any (·.1)=false:=by rfl) (hs:starEach [b] X.env=(false,eval b X.env)::starEach [] X.env:=by rfl) :
 QE X EX false (.Call (.Name x p) [a,b] [] pos) (eUn (D7 tb) f):=⟨(Lb Zy hg hm hv (O0 ha.h (O0 hb pa_nil hs) he) hn hdb he hpl).imp fun _ _ _ q=>Zx hy B q⟩
end
end L2
namespace L2
open PySem PySem.Spec PyProof.Rows
section
open PySem.AutoSeq1 (wpAny_loadPart')
end
end L2
namespace L2
open PySem PySem.Spec PyProof.Rows
section
open PySem.AutoSeq1 (wpAny_loadPart')
end
end L2
namespace L2
open PySem PySem.Spec PyProof.Rows
end L2
namespace L2
open PySem PySem.Spec PyProof.Rows
open PySem.Calls
open Builtin Builtin.ObjectAttr
section
open PySem.AutoSeq1 (wpAny_loadPart')
end
end L2
namespace L2
open PySem PySem.Spec PyProof.Rows
noncomputable def X6:D->D->Option D
 | .bl a,.bl b=>some (.bl (!(a==b)))
 | .int _,.bl _=>some (.bl true)
 | _,_=>none
noncomputable def Nw:R2:=fun x y H Q=>(∃a b,x=.bl a/\y=.bl b/\Q (.bl (!(a==b))) H)\/∃i b,x=.int i/\y=.bl b/\Q (.bl true) H
section
variable {X:Cx} {K:Frag}
theorem Se:OpR X (compareOp .IsNot) Nw:=by
 intro pins s σ H x y v u Q I rx ry h;rcases h with ⟨a,b,rfl,rfl,q⟩ | ⟨i,b,rfl,rfl,q⟩
 . cases rx;cases ry;exact isnot_bool (Qu I q rfl)
 . obtain ⟨t,rfl⟩:=rx;cases ry;exact ω (Qu I q rfl)
theorem Sd:OpD K false X6 Nw:=by
 intro H0 H x y d e z Q s rx ry ho k;unfold X6 at ho;split at ho<;>cases ho
 . cases rx.bl;cases ry.bl;exact .inl ⟨_,_,rfl,rfl,k _ H (.pure s (.mkBl _))⟩
 . cases rx.int;cases ry.bl;exact .inr ⟨_,_,rfl,rfl,k _ H (.pure s (.mkBl _))⟩
end
section
variable {prog:Program} {w:World} {A:Around} {R:Result->Shared->Prop} {I:Addr} {fp wr:List Addr} {n:Nat} {P:Nat->Value->Prop} {St:Nat->Heap->Prop}
theorem Zw (kw:List (Str×Value)) (W:Walks prog w A.in1 I fp wr n P St) (bt:Nat->Nat->Bool) (cm:CmpOf prog w A.in1 .Gt P bt) (S:Addr) (nf:S∉fp) :
  ∀(k j:Nat) (s:Shared) (vb:Value) (c:Nat),n - (j+1)=k->j+1<=n->St (j+1) s.heap->P (argBest bt j) vb->s.heap.get? S=some { cls:=.type "list",dict:=none,data:=.seq #[vb,vb] c,slots:=#[] } ->
  (∀v h' tk,P (argBest bt (n - 1)) v->(∀b o,b∉wr->b≠S->s.heap.get? b=some o->h'.get? b=some o)->R (.ok (.ret v)) { s with heap:=h',toks:=tk })->codeAny (model prog w) A (.builtin "max.loop" ⟨[.ref I,.none,.ref S],kw⟩) R s:=by
 have nw:S∉wr:=fun h=>nf (W.sub _ h)
 have nm:(toString "max"++toString ".loop":String)="max.loop":=by decide
 intro k
 induction k with
 | zero=>
  intro j s vb c ek ej st pb eS fin
  have jn:j+1=n:=by omega
  refine codeAny_builtin PySem.F.entry_max_loop ?_
  rw [Around.under_plainId PySem.F.plain_max_loop _]
  show wpAny _ A.in1 (seqItems? (.ref S) >>= _) _ _ _
  refine χ (wpAny_seqItems eS rfl ?_)
  show wpAny _ A.in1 (tryCatch (pyNext (.ref I)) _ >>= _) _ _ _
  refine χ (wpAny_tryCatch (W.done s _ _ (jn ▸ st) fun h' tk kp=>?_))
  have eS':=kp S _ nw eS
  show wpAny _ A.in1 (updateSeq S (fun _=>#[]) >>= _) _ _ _
  refine χ ?_
  refine wpAny_updateSeq eS' rfl (χ (wpAny_letGo (ω ?_)))
  exact fin vb _ tk (by rw [<-jn];exact pb) fun b o hbw hbS e=>(Heap.get?_update_other _ _ (Ne.symm hbS)).trans (kp b o hbw e)
 | succ k ih=>
  intro j s vb c ek ej st pb eS fin
  have jl:j+1<n:=by omega
  refine codeAny_builtin PySem.F.entry_max_loop ?_
  rw [Around.under_plainId PySem.F.plain_max_loop _]
  show wpAny _ A.in1 (seqItems? (.ref S) >>= _) _ _ _
  refine χ (wpAny_seqItems eS rfl ?_)
  show wpAny _ A.in1 (tryCatch (pyNext (.ref I)) _ >>= _) _ _ _
  refine χ (wpAny_tryCatch (W.item (j+1) s _ _ jl st fun v h' tk pv st' kp=>?_))
  have eS':=kp S _ nw eS
  show wpAny _ A.in1 (tryCatch (holding [v,v] (richCompare .Gt v vb >>= _)) _ >>= _) _ _ _
  refine χ (wpAny_tryCatch (wpAny_holding (χ (cm (j+1) (argBest bt j) v vb _ _ _ pv pb ?_))))
  refine χ (wpAny_holding (wpAny_truthy_bool ?_))
  refine χ (wpAny_letGo (ω ?_))
  cases hb:bt (j+1) (argBest bt j) with
  | true=>
   rw [ξ rfl]
   refine χ ?_
   refine wpAny_updateSeq eS' rfl (χ (wpAny_letGo ?_))
   rw [nm]
   refine ω ⟨plainId_quiet PySem.F.plain_max_loop _,ih (j+1) _ v _ (by omega) jl (W.frame _ _ _ st' fun b hbf o e=>?_) (by simp only [argBest,hb,if_true];exact pv) (Heap.get?_update_self _ eS' rfl) fun v' h'' tk'' pv' kp'=>?_⟩
   . exact (Heap.get?_update_other _ _ (fun z:S=b=>nf (by rw [z];exact hbf))).trans e
   . exact fin v' h'' tk'' pv' fun b o hbw hbS e=>kp' b o hbw hbS ((Heap.get?_update_other _ _ (Ne.symm hbS)).trans (kp b o hbw e))
  | false=>
   rw [ψ η]
   refine χ (wpAny_letGo ?_)
   rw [nm]
   exact ω ⟨plainId_quiet PySem.F.plain_max_loop _,ih (j+1) _ vb c (by omega) jl st' (by simp only [argBest,hb,Bool.false_eq_true,if_false];exact pb) eS' fun v' h'' tk'' pv' kp'=>fin v' h'' tk'' pv' fun b o hbw hbS e=>kp' b o hbw hbS (kp b o hbw e)⟩
theorem xE (kw:List (Str×Value)) (W:Walks prog w A.in1 I fp wr n P St) (bt:Nat->Nat->Bool) (cm:CmpOf prog w A.in1 .Gt P bt) (S:Addr) (nf:S∉fp) (n0:0<n) (st:St 0 s.heap)
  (eS:s.heap.get? S=some { cls:=.type "list",dict:=none,data:=.seq #[] c,slots:=#[] }) (fin:∀v h' tk,P (argBest bt (n - 1)) v->(∀b o,b∉wr->b≠S->s.heap.get? b=some o->h'.get? b=some o)->R (.ok (.ret v)) { s with heap:=h',toks:=tk }) :
  codeAny (model prog w) A (.builtin "max.loop" ⟨[.ref I,.none,.ref S],kw⟩) R s:=by
 have nw:S∉wr:=fun h=>nf (W.sub _ h)
 have nm:(toString "max"++toString ".loop":String)="max.loop":=by decide
 refine codeAny_builtin PySem.F.entry_max_loop ?_
 rw [Around.under_plainId PySem.F.plain_max_loop _]
 show wpAny _ A.in1 (seqItems? (.ref S) >>= _) _ _ _
 refine χ (wpAny_seqItems eS rfl ?_)
 show wpAny _ A.in1 (tryCatch (pyNext (.ref I)) _ >>= _) _ _ _
 refine χ (wpAny_tryCatch (W.item 0 s _ _ n0 st fun v h' tk pv st' kp=>?_))
 have eS':=kp S _ nw eS
 show wpAny _ A.in1 (updateSeq S (fun _=>#[v,v]) >>= _) _ _ _
 refine χ ?_
 refine wpAny_updateSeq eS' rfl ?_
 rw [nm]
 refine ω ⟨plainId_quiet PySem.F.plain_max_loop _,Zw kw W bt cm S nf _ 0 _ v _ rfl n0 (W.frame _ _ _ st' fun b hbf o e=>?_) pv (Heap.get?_update_self _ eS' rfl) fun v' h'' tk'' pv' kp'=>?_⟩
 . exact (Heap.get?_update_other _ _ (fun z:S=b=>nf (by rw [z];exact hbf))).trans e
 . exact fin v' h'' tk'' pv' fun b o hbw hbS e=>kp' b o hbw hbS ((Heap.get?_update_other _ _ (Ne.symm hbS)).trans (kp b o hbw e))
theorem wd (q:Str) (dv:Value) (W:Walks prog w A.in1 I fp wr n P St) (S:Addr) (nf:S∉fp) (n0:n=0) (st:St 0 s.heap)
  (eS:s.heap.get? S=some { cls:=.type "list",dict:=none,data:=.seq #[] c,slots:=#[] }) (fin:∀h' tk,(∀b o,b∉wr->b≠S->s.heap.get? b=some o->h'.get? b=some o)->R (.ok (.ret dv)) { s with heap:=h',toks:=tk }) :
  codeAny (model prog w) A (.builtin "max.loop" ⟨[.ref I,.none,.ref S],[(q,dv)]⟩) R s:=by
 refine codeAny_builtin PySem.F.entry_max_loop ?_
 rw [Around.under_plainId PySem.F.plain_max_loop _]
 show wpAny _ A.in1 (seqItems? (.ref S) >>= _) _ _ _
 refine χ (wpAny_seqItems eS rfl ?_)
 show wpAny _ A.in1 (tryCatch (pyNext (.ref I)) _ >>= _) _ _ _
 refine χ (wpAny_tryCatch (W.done s _ _ (n0 ▸ st) fun h' tk kp=>?_))
 show wpAny _ A.in1 (rule _ >>= _) _ _ _
 exact χ (wpAny_rule (ω (fin h' tk fun b o hb _ e=>kp b o hb e)))
end
theorem wc (a v:Value):argsOk "max" ⟨[a],[(Str.ofString "default",v)]⟩:=by unfold argsOk;kernel_rfl
section
variable {prog:Program} {w:World} {A:Around} {E:Value->Shared->Prop} {s:Shared}
theorem wb
  (h:wpAny (model prog w) A.in1 (pyIter x) (fun it s₂=>∃I fp wr n P St bt,it=.ref I/\Walks prog w A.in1 I fp wr n P St/\St 0 s₂.heap/\(∀b∈fp,b<s₂.heap.objs.size)/\CmpOf prog w A.in1 .Gt P bt /\
   ∀v h' tk,((0<n/\P (argBest bt (n - 1)) v)\/(n=0/\v=dv))->(∀b o,b∉wr->s₂.heap.get? b=some o->h'.get? b=some o)->Q v { s₂ with heap:=h',toks:=tk }) E s) :
  wpAny (model prog w) A (call (.builtin "max") [x] [(Str.ofString "default",dv)]) Q E s:=by
 have nm:(toString "max"++toString ".loop":String)="max.loop":=by decide
 refine kmk_tree PySem.F.kind_max PySem.F.plain_max PySem.F.entry_max (wc _ _) ?_
 show wpAny _ A.in1 (Builtin.Builtins.bindParams "max" ["key","default"] 0 ⟨[],[(Str.ofString "default",dv)]⟩ >>= _) _ _ s
 refine χ (wpAny_of_eq (show Builtin.Builtins.bindParams "max" ["key","default"] 0 ⟨[],[(Str.ofString "default",dv)]⟩=pure [none,some dv] from rfl) ?_)
 refine χ (ω ?_)
 refine χ (wpAny_mono h (fun it s₂ g=>?_) fun _ _ e=>e)
 obtain ⟨I,fp,wr,n,P,St,bt,rfl,W,st,bd,cm,hQ⟩:=g
 refine χ (wpAny_newObj_type ?_)
 have nf:s₂.heap.objs.size∉fp:=fun hm=>Nat.lt_irrefl _ (bd _ hm)
 rw [nm]
 refine ω ⟨plainId_quiet PySem.F.plain_max_loop _,?_⟩
 by_cases n0:0<n
 . exact xE _ W bt cm s₂.heap.objs.size nf n0 (W.frame _ _ _ st fun b _ o e=>Ψ _ e) (Ξ _ rfl) fun v h' tk pv kp=>
    hQ v h' tk (.inl ⟨n0,pv⟩) fun b o hbw e=>kp b o hbw (Nat.ne_of_lt (Φ e)) (Ψ _ e)
 . exact wd _ dv W s₂.heap.objs.size nf (by lia) (W.frame _ _ _ st fun b _ o e=>Ψ _ e) (Ξ _ rfl) fun h' tk kp=>
    hQ dv h' tk (.inr ⟨by lia,rfl⟩) fun b o hbw e=>kp b o hbw (Nat.ne_of_lt (Φ e)) (Ψ _ e)
variable {h₀:Heap} {L:Addr} {m:Str->Option Value} {news:List (Addr×Obj)}
theorem wa (hh:A.handled=none) (F:Fr h₀ L s.heap m) (N:News h₀ L s.heap news) (hl:s.heap.IsList l vs.toArray) (hi:IntsAre vs ns)
  (h:∀v h' tk,Fr h₀ L h' m->News h₀ L h' news->((ns=[]/\v=dv)\/∃M t,v=.int M t/\M∈ns/\∀a,a∈ns->a<=M)->Q v { s with heap:=h',toks:=tk }) :
  wpAny (model prog w) A (call (.builtin "max") [.ref l] [(Str.ofString "default",dv)]) Q E s:=by
 obtain ⟨xs,e⟩:=hi.allInts.items
 have en:ns=xs.toList.map (·.1):=by rw [<-hi.numsOf,<-nums_intItems,<-e]
 have el:ns.length=xs.size:=by rw [en,List.length_map,Array.length_toList]
 rw [e] at hl
 refine wb (iter_intList hl fun s₂ e st bd lI=>?_)
 subst e
 refine ⟨_,_,_,_,_,_,_,rfl,Walks.list (A:=A.in1) hh _ l lI (intItems xs),st,bd,CmpOf.ints_gt (numAt xs) (fun _ _=>intItems_at),fun v h' tk pv kp=>?_⟩
 have kp':=old_kept kp
 refine h v h' tk (F.grownK kp') (N.grown kp') ?_
 rcases pv with ⟨n0,pv⟩ | ⟨n0,rfl⟩
 . right;have n0':0<xs.size:=by simpa [intItems] using n0
   have pv':(intItems xs)[argBest (fun i j=>decide (numAt xs i > numAt xs j)) (xs.size - 1)]?=some v:=by simpa [intItems] using pv
   obtain ⟨t,rfl⟩:=intItems_at pv';obtain ⟨h1,h2⟩:=argBest_gt (numAt xs) (xs.size - 1);refine ⟨_,t,rfl,?_,fun a ha=>?_⟩
   . rw [en,numAt_eq];exact O3 (by rw [List.length_map,Array.length_toList];lia)
   . rw [en] at ha;obtain ⟨j,hj,rfl⟩:=mem_getD ha;rw [List.length_map,Array.length_toList] at hj;rw [<-numAt_eq];exact h2 j (by lia)
 . left;have:xs.size=0:=by simpa [intItems] using n0
   exact ⟨List.length_eq_zero_iff.mp (by lia),rfl⟩
end
def mxD (d:Int):List Int->Int
 | []=>d
 | n::ns=>K4 n ns
def S9:List D->Option D
 | [.lst ds,.int d]=>(u8 ds).map fun ns=>.int (mxD d ns)
 | _=>none
def Gk:List V->Hp->VK->Prop:=fun xs H Q=>∃p ns d,xs=[.ref p,.int d]/\H p=some (.lst (ns.map V.int))/\Q (.int (mxD d ns)) H
theorem TEd.mono' {K:Frag} {EX:XW} {fr:Bool} {f:DE->R D} {σ:St} {H:Hp} {Q Q':VK} (h:TEd K EX fr f σ H Q) (hq:∀v H',Q v H'->Q' v H'):TEd K EX fr f σ H Q':=by obtain ⟨sx,ρ,H0,s,e,h⟩:=h;exact ⟨sx,ρ,H0,s,e,h.mono fun a k v H' o=>hq _ _ (k v H' o)⟩
section
variable {X:Cx} {EX:XW} {e d:Expr} {p kp pos:Pos} {x:Str} {t1 t2:TE} {f1 f2:DE->R D}
theorem vZ (hc:X.calm=true) (hg:Gl X x) (hm:X.mg x=none) (hv:bootBuiltins x=some (.builtin "max")) (ha:PE X e t1) (hd:PE X d t2) (hn:x≠"__name__":=by decide) (hdb:(x==("__debug__":Str))=false:=by decide)
  (hs:starEach [e] X.env=(false,eval e X.env)::starEach [] X.env:=by rfl) :
  PE X (.Call (.Name x p) [e] [⟨some (Str.ofString "default"),d,kp⟩] pos) (tCB Gk (D3 t1 (D3 t2 R9))):=by
 intro pins s σ H Q I h
 refine wpAny_Call_Name_kw (N7 I hg hm hv ?_ hn hdb)
 refine callWith_kw ?_ (by rw [hs];rfl) (by rw [hs];rfl)
 refine thn (O0 ha pa_nil hs pos pins s σ H (fun vs H1=>t2 σ H1 fun u H2=>Gk (vs++[u]) H2 Q) I h) fun us s1 ⟨vs,H1,I1,r1,q1⟩=>?_
 refine kws_cons (thn (hd pins s1 σ H1 _ I1 q1) fun u s2 ⟨y,H2,I2,r2,q2⟩=>kws_nil ?_)
 obtain ⟨a,ns,i,e1,ea,q⟩:=q2
 obtain ⟨rfl,rfl⟩:vs=[.ref a]/\y=.int i:=by
  cases vs with
  | nil=>cases e1
  | cons b r=>
   cases r with
   | nil=>cases e1;exact ⟨rfl,rfl⟩
   | cons c r=>cases r<;>cases e1
 obtain ⟨u1,rfl,ru⟩:=D4 r1
 cases ru
 obtain ⟨t,rfl⟩:=r2
 obtain ⟨its,rv,pl,_⟩:=I2.list (.of ea)
 obtain ⟨m,hnn,_⟩:=id I2.loc
 refine wa (I2.ok.hd hc) (Att.fr_all hnn) (Lg (g:=Att.noObjs s2.heap) (L:=X.env.locals)) pl.isList (Wi rv) fun v h' tk F N hM=>?_
 rcases hM with ⟨rfl,rfl⟩ | ⟨M,t,rfl,hM,hle⟩
 . exact ⟨.int i,H2,I2.frn hnn F N,⟨_,rfl⟩,q⟩
 . cases ns with
   | nil=>cases hM
   | cons n ns=>
    obtain ⟨a1,a2⟩:=Jr ns n
    have e:M=K4 n ns:=Int.le_antisymm (a2 M hM) (hle _ a1)
    exact ⟨.int M,H2,I2.frn hnn F N,⟨t,rfl⟩,by rw [e];exact q⟩
theorem vW {K:Frag}:E2 K false S9 Gk:=by
 intro H0 H xs ds z Q s r ho k;unfold S9 at ho;split at ho<;>first | cases ho | skip
 rename_i es i;cases hq:u8 es with
 | none=>rw [hq] at ho;cases ho
 | some ns=>
  rw [hq] at ho
  cases ho
  simp only [RDs] at r
  obtain ⟨x1,r1,rfl,q1,x2,r2,rfl,q2,rfl⟩:=r
  obtain ⟨a,ys,rfl,ha,ra⟩:=q1.lst
  have e:=Ec hq ra
  subst e
  cases q2.int
  exact ⟨a,ns,i,rfl,s _ _ ha,k _ H (.pure s (.mkInt _))⟩
theorem qe (hc:X.calm=true) (hg:Gl X x) (hm:X.mg x=none) (hv:bootBuiltins x=some (.builtin "max")) (ha:QE X EX false e f1) (hd:QE X EX false d f2) (hn:x≠"__name__":=by decide) (hdb:(x==("__debug__":Str))=false:=by decide)
  (hs:starEach [e] X.env=(false,eval e X.env)::starEach [] X.env:=by rfl) :
  QE X EX false (.Call (.Name x p) [e] [⟨some (Str.ofString "default"),d,kp⟩] pos) (eCB S9 (a8 f1 (a8 f2 b8))):=
 ⟨(vZ hc hg hm hv ha.h hd.h hn hdb hs).imp fun _ _ _ q=>(Hx (Fu vW q)).mono' fun _ _ q=>(Hx q).mono' fun _ _ q=>Og q⟩
end
noncomputable def SR.thn (r:SR) (g:DS->SR):SR:=match r with
 | .nx ρ'=>g ρ'
 | r=>r
noncomputable def SR.out (fr:Bool) (r:SR):R D:=match r with
 | .rt d=>.ok d
 | .nx _=>if fr=true then .st else .ok .non
 | .er x=>.er x
 | _=>.st
theorem wV (g1 g2:DS->SR) (ρ:DS):c7 g1 g2 ρ=(g1 ρ).thn g2:=rfl
theorem zu4 (ρ:DS) (g:DS->SR):(SR.nx ρ).thn g=g ρ:=rfl
theorem zu5 (d:D) (g:DS->SR):(SR.rt d).thn g=.rt d:=rfl
theorem zu6 (x:Ex) (g:DS->SR):(SR.er x).thn g=.er x:=rfl
theorem zu7 (g:DS->SR):(SR.st).thn g=.st:=rfl
theorem zq8 (c:Prop) [Decidable c] (a b:SR) (g:DS->SR):(if c then a else b).thn g=if c then a.thn g else b.thn g:=by split<;>rfl
theorem qc (fr:Bool) (n k:Nat) (g:DS->SR) (ds:List D):mOf fr n k g ds=if ds.length=n then (g (ds.map .im++List.replicate k .em)).out fr else .st:=rfl
theorem zu9 (fr:Bool) (d:D):(SR.rt d).out fr=.ok d:=rfl
theorem zua (ρ:DS):(SR.nx ρ).out false=.ok .non:=rfl
theorem zub (fr:Bool) (x:Ex):(SR.er x).out fr=.er x:=rfl
theorem zuc (fr:Bool):(SR.st).out fr=.st:=rfl
theorem zq9 (fr:Bool) (c:Prop) [Decidable c] (a b:SR):(if c then a else b).out fr=if c then a.out fr else b.out fr:=by split<;>rfl
theorem zud (m:List Bool) (f:DE->R D) (ρ:DS):e7 m f ρ=(f (vis m ρ)).toS fun d=>.rt d:=rfl
theorem zue (fr:Bool) (i:Nat) (m:List Bool) (f:DE->R D) (ρ:DS):i4 fr i m f ρ=(f (vis m ρ)).toS fun d=>.nx (F8 fr i d (j7 (keeps fr d) m ρ)):=rfl
theorem zzc (t:DE->R Bool) (g1 g2:DS->SR) (ρ:DS):sIf t g1 g2 ρ=(t (see ρ)).toS fun b=>if b=true then g1 ρ else g2 ρ:=rfl
theorem y8 (a:α) (k:α->SR):R.toS (.ok a) k=k a:=rfl
theorem zuf (k:α->SR):R.toS (.st:R α) k=.st:=rfl
theorem zqa (c:Prop) [Decidable c] (a b:R α) (k:α->SR):R.toS (if c then a else b) k=if c then R.toS a k else R.toS b k:=by split<;>rfl
theorem Jh (a:α):(R.ok a).noE=.ok a:=rfl
theorem zzd (m:List Bool):vis m []=[]:=by cases m<;>rfl
theorem zze (s:Sl) (r:DS):vis [] (s::r)=s.see false::vis [] r:=rfl
theorem zzf (b:Bool) (m:List Bool) (s:Sl) (r:DS):vis (b::m) (s::r)=s.see b::vis m r:=rfl
theorem Gz:see []=[]:=rfl
theorem Gy (s:Sl) (r:DS):see (s::r)=s.see true::see r:=rfl
theorem zug (b:Bool):Sl.see b .em=none:=rfl
theorem Jg (b:Bool) (d:D):Sl.see b (.im d)=some d:=rfl
theorem Kr (d:D):Sl.see true (.ow d)=some d:=rfl
theorem zqb (d:D):Sl.see false (.ow d)=none:=rfl
theorem zuh (m:List Bool) (ρ:DS):j7 true m ρ=ρ:=rfl
theorem zm2 (fr:Bool) (i:Int):keeps fr (.int i)=true:=by cases fr<;>rfl
theorem zm3 (fr:Bool) (ds:List D):keeps fr (.tup ds)=i7 ds:=by cases fr<;>simp only [keeps,D.noL,D.shal,if_true,Bool.false_eq_true,if_false]
theorem Vi (ds:List D):keeps true (.lst ds)=i7 ds:=rfl
theorem zui:i7 []=true:=by simp only [i7]
theorem zuj (d:D) (r:List D):i7 (d::r)=(d.noL&&i7 r):=by simp only [i7]
theorem Um (i:Int):(D.int i).noL=true:=by simp only [D.noL]
theorem zqc (ds:List D):(D.tup ds).noL=i7 ds:=by simp only [D.noL]
theorem zzg (i:Nat) (d:D) (ρ:DS):F8 false i d ρ=ρ.set i (.im d):=rfl
theorem zzh (i:Nat) (d:D) (ρ:DS):F8 true i d ρ=ρ.set i (.ow d):=rfl
theorem zzi (ρ:DE):sel [] ρ=[]:=rfl
theorem zzj (j:Nat) (r:List Nat) (ρ:DE):sel (j::r) ρ=(ρ[j]?).getD none::sel r ρ:=rfl
theorem y2g (d:D) (r:DE):a7 0 (some d::r)=.ok d:=rfl
theorem y2h (i:Nat) (d:Option D) (r:DE):a7 (i+1) (d::r)=a7 i r:=rfl
theorem zzk (g:Int->Int->D) (i j:Int):dI g (.int i) (.int j)=some (g i j):=rfl
theorem Hr (C:Int->Int->Prop) [∀i j,Decidable (C i j)] (g:Int->Int->D) (i j:Int):dIC C g (.int i) (.int j)=if C i j then some (g i j) else none:=rfl
theorem zzl (b:Bool):asB (.bl b)=some b:=rfl
theorem znt (b:Bool):l4 (.bl b)=some b:=rfl
theorem Ac (i j:Int):(i==j)=decide (i=j):=by rw [Bool.eq_iff_iff];simp
theorem zuk (i j:Int):dEq (.int i) (.int j)=some (.bl (decide (i=j))):=by unfold dEq;rw [ξ (by simp [D.pl,D.dep])];simp only [eqD,Ac]
theorem zul (i j:Int):dNe (.int i) (.int j)=some (.bl (!decide (i=j))):=by unfold dNe;rw [ξ (by simp [D.pl,D.dep])];simp only [eqD,Ac]
theorem zum (a b c e:Int):dNe (.tup [.int a,.int b]) (.tup [.int c,.int e])=some (.bl (!(decide (a=c)&&decide (b=e)))):=by unfold dNe;rw [ξ (by simp [D.pl,D.dep,pls,h7])];simp only [eqD,l7,Ac,Bool.and_true]
theorem Jf (a:D) (r:List D):dIx (.tup (a::r)) (.int 0)=some a:=by simp only [dIx,dOr,z8,y24]
theorem Je (a b:D) (r:List D):dIx (.tup (a::b::r)) (.int 1)=some b:=by simp only [dIx,dOr,z8,y25]
theorem Py {ds:List D} {j:Nat} {d:D} (h:ds[j]?=some d):dIx (.lst ds) (.int (j:Int))=some d:=by simp only [dIx,dOr,z8,Ke h]
theorem wU (ns:List D):m5 [.lst ns]=some (.int ns.length):=rfl
theorem zun (ns:List D):m5 [.tup ns]=some (.int ns.length):=rfl
theorem zzm (b c:Bool):(if b=true then R.ok true else R.ok c)=R.ok (b||c):=by cases b<;>rfl
theorem zuo (b c:Bool):(if b=true then R.ok c else R.ok false)=R.ok (b&&c):=by cases b<;>rfl
theorem zup (b c:Bool):(if b=true then R.ok (D.bl true) else R.ok (D.bl c))=R.ok (D.bl (b||c)):=by cases b<;>rfl
theorem zqd (b c:Bool):(if b=true then R.ok (D.bl c) else R.ok (D.bl false))=R.ok (D.bl (b&&c)):=by cases b<;>rfl
theorem zuq (i:Int):k7 "int" (.int i)=some (.bl true):=by simp [k7,B6,E3,D9]
theorem zur (i:Int):k7 "bool" (.int i)=some (.bl false):=by simp [k7,B6,E3,D9]
theorem Sc (ds:List D):k7 "tuple" (.tup ds)=some (.bl true):=by simp [k7,B6,E3,D9]
theorem zus (ds:List D):k7 "list" (.lst ds)=some (.bl true):=by simp [k7,B6,E3,D9]
noncomputable def SR.itr (r:SR) (k:DS->SR):SR:=match r with
 | .nx ρ2=>k ρ2
 | .ct ρ2=>k ρ2
 | .bk ρ2=>.nx ρ2
 | .rt d=>.rt d
 | .er x=>.er x
 | .st=>.st
theorem Jd (ρ:DS) (k:DS->SR):(SR.nx ρ).itr k=k ρ:=rfl
theorem An {bn:D->Option (List D)} {f:DE->R D} {cs:DE} {α:Type} {en:α->D} {bs:α->List D} {g:α->D} (xs:List α) (hb:∀x∈xs,bn (en x)=some (bs x)) (hf:∀x∈xs,f ((bs x).map some++cs)=.ok (g x)):J0 bn K6 f cs (xs.map en)=.ok (xs.map g):=by
 induction xs with
 | nil=>rfl
 | cons x xs ih=>
  simp only [List.map_cons,J0,hb x (by simp),K6,R.of_some,R.bind_ok,Jh,if_true,hf x (by simp),ih (fun y hy=>hb y (by simp [hy])) (fun y hy=>hf y (by simp [hy]))]
theorem Am {bn:D->Option (List D)} {t:DE->R Bool} {f:DE->R D} {cs:DE} {α:Type} {en:α->D} {bs:α->List D} {p:α->Bool} {g:α->D} (xs:List α) (hb:∀x∈xs,bn (en x)=some (bs x)) (ht:∀x∈xs,t ((bs x).map some++cs)=.ok (p x)) (hf:∀x∈xs,p x=true->f ((bs x).map some++cs)=.ok (g x)):J0 bn t f cs (xs.map en)=.ok ((xs.filter p).map g):=by
 induction xs with
 | nil=>rfl
 | cons x xs ih=>
  have ih':=ih (fun y hy=>hb y (by simp [hy])) (fun y hy=>ht y (by simp [hy])) (fun y hy=>hf y (by simp [hy]))
  simp only [List.map_cons,J0,hb x (by simp),ht x (by simp),R.of_some,R.bind_ok,Jh,ih']
  cases e:p x with
  | true=>simp only [if_true,hf x (by simp) e,Jh,R.bind_ok,List.filter_cons,e,List.map_cons]
  | false=>simp only [Bool.false_eq_true,if_false,List.filter_cons,e]
theorem Q2 {tg:Tg} {g:DS->SR} {α:Type} {en:α->D} (P:List α->DS->Prop) (xs:List α) (ρ:DS) (h0:P xs ρ) (hs:∀x r ρ,P (x::r) ρ->∃ρ1 ρ2,S5 tg (en x) ρ=some ρ1/\(g ρ1=.nx ρ2\/g ρ1=.ct ρ2)/\P r ρ2):∃ρ',z9 tg g (xs.map en) ρ=.nx ρ'/\P [] ρ':=by
 induction xs generalizing ρ with
 | nil=>exact ⟨ρ,rfl,h0⟩
 | cons x r ih=>
  obtain ⟨ρ1,ρ2,e1,e2,q⟩:=hs x r ρ h0
  obtain ⟨ρ',e',p'⟩:=ih ρ2 q
  refine ⟨ρ',?_,p'⟩
  rcases e2 with e2 | e2<;>simp only [List.map_cons,z9,e1,e2,e']
noncomputable def L (ns:List Int):D:=.lst (ns.map .int)
theorem V6 (f:α->D) (xs:List α) (h:∀x∈xs,(f x).noL=true):i7 (xs.map f)=true:=by
 induction xs with
 | nil=>simp only [List.map_nil,i7]
 | cons a r ih=>simp only [List.map_cons,i7,h a (by simp),ih fun x hx=>h x (by simp [hx]),Bool.and_self]
theorem zut (ns:List Int):keeps true (L ns)=true:=by unfold L;rw [Vi];exact V6 _ _ fun x _=>Um x
theorem zzn (ns:List Int):m5 [L ns]=some (.int ns.length):=by unfold L;rw [wU,List.length_map]
theorem zqe (ns:List Int):items (L ns)=some (ns.map .int):=rfl
theorem Fh (h0:0<=x) (h1:x.toNat<ns.length):dIx (L ns) (.int x)=some (.int (ns.getD x.toNat 0)):=by
 have e:(ns.map D.int)[x.toNat]?=some (.int (ns.getD x.toNat 0)):=by rw [List.getElem?_map,List.getElem?_eq_getElem h1,List.getD_eq_getElem?_getD,List.getElem?_eq_getElem h1];rfl
 have:=Py e;rwa [show ((x.toNat:Nat):Int)=x by lia] at this
theorem Yr {ns:List Int} {k:Nat} (h1:k<ns.length):dIx (L ns) (.int (k:Int))=some (.int (ns.getD k 0)):=Fh (x:=(k:Int)) (by lia) (by simpa using h1)
theorem Ci (h:ns.length<100000):v4 (L ns) [.int x]=some (L (ns++[x])):=by simp only [L,v4,List.length_map,h,if_true,List.map_append,List.map_cons,List.map_nil]
theorem qb {n:Nat} {x:Int} (h0:0<=x) (h1:x<n):ixN n x=some x.toNat:=by unfold ixN;rw [ξ h0,ξ h1]
theorem map_set (f:α->β) (xs:List α) (j:Nat) (a:α):(xs.map f).set j (f a)=(xs.set j a).map f:=by rw [List.map_set]
theorem Zv (h0:0<=x) (h1:x<ns.length):D8 (L ns) (.int x) (.int y)=some (L (ns.set x.toNat y)):=by simp only [L,D8,List.length_map,qb h0 h1,Option.map_some,map_set]
theorem Zu (h0:0<=x) (h1:x<=ns.length) (h:ns.length<100000):W5 (L ns) [.int x,.int y]=some (L (ns.take x.toNat++y::ns.drop x.toNat)):=by simp only [L,W5,List.length_map];rw [ξ (by refine ⟨by lia,?_,h⟩;have:ns.length<2 ^ 63:=(by lia);lia)];congr 2;simp only [v9,W6,List.length_map,ψ (show ¬x<0 by lia),List.map_append,List.map_take,List.map_cons,List.map_drop];rw [Nat.min_eq_left (by lia)]
theorem zuv (ns:List Int) (lo hi:Option Int):dSl (.scr ns) lo hi=some (L (n9 ns lo hi)):=rfl
theorem all_map (xs:List α) (f:α->Bool):W7 [.lst (xs.map fun x=>D.bl (f x))]=some (.bl (xs.all f)):=by
 have:xs.map (fun x=>D.bl (f x))=(xs.map f).map D.bl:=by rw [List.map_map];rfl
 rw [this];simp only [W7,Wu,Option.map_some,List.all_map];rfl
theorem Dw {tg:Tg} {g:DS->SR} (n:Nat) (en:Nat->D) (P:Nat->DS->Prop) (ρ:DS) (h0:P 0 ρ)
  (hs:∀i,i<n->∀ρ,P i ρ->∃ρ1 ρ2,S5 tg (en i) ρ=some ρ1/\(g ρ1=.nx ρ2\/g ρ1=.ct ρ2)/\P (i+1) ρ2) :
  ∃ρ',z9 tg g ((List.range n).map en) ρ=.nx ρ'/\P n ρ':=by
 have key:∀k s ρ,s+k=n->P s ρ->∃ρ',z9 tg g ((List.range' s k).map en) ρ=.nx ρ'/\P n ρ':=by
  intro k;induction k with
  | zero=>intro s ρ e h;exact ⟨ρ,rfl,by rwa [<-e]⟩
  | succ k ih=>
   intro s ρ e h
   obtain ⟨ρ1,ρ2,e1,e2,q⟩:=hs s (by lia) ρ h
   obtain ⟨ρ',e',p'⟩:=ih (s+1) ρ2 (by lia) q
   refine ⟨ρ',?_,p'⟩
   rw [List.range'_succ,List.map_cons]
   rcases e2 with e2 | e2<;>simp only [z9,e1,e2,e']
 rw [List.range_eq_range']
 exact key n 0 ρ (by lia) h0
theorem Ua (n:Nat) (g:Nat->D):((zD 0 ((List.range n).map g).length).zip ((List.range n).map g)).map (fun p=>D.tup [p.1,p.2])=(List.range n).map fun (i:Nat)=>D.tup [.int (i:Int),g i]:=by
 simp only [zD,List.length_map,List.length_range];have:∀(l:List Nat),((l.map fun (i:Nat)=>D.int (0+i)).zip (l.map g)).map (fun p=>D.tup [p.1,p.2])=l.map fun (i:Nat)=>D.tup [.int (i:Int),g i]:=fun l=>by
  induction l with
  | nil=>rfl
  | cons a r ih=>simp only [Int.zero_add] at ih ⊢;simp only [List.map_cons,List.zip_cons_cons,ih]
 exact this _
theorem Px (xs:List α) (d:α):xs=(List.range xs.length).map fun i=>xs.getD i d:=by
 apply List.ext_getElem?;intro i;by_cases h:i<xs.length
 . rw [List.getElem?_map,List.getElem?_range h,Option.map_some,List.getD_eq_getElem?_getD,List.getElem?_eq_getElem h];rfl
 . rw [List.getElem?_eq_none (by lia),List.getElem?_eq_none (by simp;lia)]
theorem zzr (ns:List Int):isT "list" (L ns)=true:=by simp only [L,isT,beq_self_eq_true]
theorem zuw (m:List Bool) (ρ:DS):j7 false m ρ=frz m ρ:=rfl
theorem zzs (ρ:DS):frz [] ρ=ρ:=by cases ρ<;>rfl
theorem zzt (m:List Bool):frz m []=[]:=by cases m<;>rfl
theorem zzu (b:Bool) (m:List Bool) (s:Sl) (r:DS):frz (b::m) (s::r)=s.frz b::frz m r:=rfl
theorem zux (b:Bool) (d:D):Sl.frz b (.im d)=.im d:=rfl
theorem zqf (d:D):Sl.frz false (.ow d)=.ow d:=rfl
theorem zqg (d:D):Sl.frz true (.ow d)=.im d:=rfl
theorem Zt (h:-(2 ^ 64)<j/\j<2 ^ 64):Bu (.int i) (.int j)=some (.int (i * j)):=by unfold Bu;rw [Hr,ξ (show CMul i j from Or.inr h)]
theorem C6 (h:0<j):v6 (.int i) (.int j)=some (.int (i % j)):=by unfold v6;rw [Hr,ξ h]
theorem Nv (h:0<j/\j<1073741824):W9 (.int i) (.int j)=some (.int (i / j)):=by unfold W9;rw [Hr,ξ (show O6 i j from h)]
theorem zqh (ds:List D):items (.lst ds)=some ds:=rfl
theorem zqi (ds:List D):items (.tup ds)=some ds:=rfl
theorem zj4 (ds:List D):keeps false (.lst ds)=false:=by simp only [keeps,D.noL,Bool.false_eq_true,if_false]
noncomputable def T2 (p:Int×Int):D:=.tup [.int p.1,.int p.2]
noncomputable def T3 (p:Int×Int×Int):D:=.tup [.int p.1,.int p.2.1,.int p.2.2]
theorem Eb (h:ois l'=true) (p:l.Perm l'):o9 l=o9 l':=
 Dx (Dy ((O4 l).trans p) h) (((O4 l).trans p).trans (O4 l').symm) (Q5 (Dy p h)) (Q5 h)
noncomputable def insB {α:Type} (lt:α->α->Bool) (d:α):List α->List α
 | []=>[d]
 | e::r=>if lt e d=true then e::insB lt d r else d::e::r
def sortB {α:Type} (lt:α->α->Bool):List α->List α
 | []=>[]
 | d::r=>insB lt d (sortB lt r)
section
variable {α:Type} (f:α->D)
theorem Tz (d:α):∀l:List α,F6 (f d) (l.map f)=(insB (fun a b=>ltT (f a) (f b)) d l).map f
 | []=>rfl
 | e::r=>by
  simp only [List.map_cons,F6,insB];split
  . rw [List.map_cons,Tz d r]
  . rfl
theorem V9:∀l:List α,o9 (l.map f)=(sortB (fun a b=>ltT (f a) (f b)) l).map f
 | []=>rfl
 | d::r=>by simp only [List.map_cons,o9,sortB,V9 r,Tz]
variable (lt:α->α->Bool)
theorem Ut (d:α):∀l:List α,(insB lt d l).Perm (d::l)
 | []=>.refl _
 | e::r=>by
  unfold insB;split
  . exact ((Ut d r).cons e).trans (.swap d e r)
  . exact .refl _
theorem Aq:∀l:List α,(sortB lt l).Perm l
 | []=>.refl _
 | d::r=>(Ut lt d (sortB lt r)).trans ((Aq r).cons d)
end
def so2 (ls:List (Int×Int)):List (Int×Int):=sortB (fun a b=>ltT (T2 a) (T2 b)) ls
def so3 (ls:List (Int×Int×Int)):List (Int×Int×Int):=sortB (fun a b=>ltT (T3 a) (T3 b)) ls
def soI (ls:List Int):List Int:=sortB (fun a b=>ltT (.int a) (.int b)) ls
theorem Ab (ls:List (Int×Int)):o9 (ls.map T2)=(so2 ls).map T2:=V9 _ _
theorem Jp (ls:List (Int×Int×Int)):o9 (ls.map T3)=(so3 ls).map T3:=V9 _ _
theorem Di (ls:List Int):o9 (ls.map D.int)=(soI ls).map D.int:=V9 _ _
theorem F1 (ls:List (Int×Int)):(so2 ls).Perm ls:=Aq _ _
theorem Q1 (ls:List (Int×Int×Int)):(so3 ls).Perm ls:=Aq _ _
theorem Dv (ls:List Int):(soI ls).Perm ls:=Aq _ _
theorem U2 (xs:List α) (f:α->D) (p:D->Bool) (h:∀x,p (f x)=true):(xs.map f).all p=true:=by rw [List.all_eq_true];intro d hd;obtain ⟨x,_,rfl⟩:=List.mem_map.mp hd;exact h x
theorem J5 (xs:List α) (f:α->D) (h:∀x,(f x).oi=true):ois (xs.map f)=true:=
 ois_mem.mpr fun d hd=>by obtain ⟨x,_,rfl⟩:=List.mem_map.mp hd;exact h x
theorem U8 (xs:List α) (f:α->D) (n:Nat) (h:∀x,(f x).dep<=n):h7 (xs.map f)<=n:=by
 induction xs with
 | nil=>simp only [List.map_nil,h7,Nat.zero_le]
 | cons a r ih=>simp only [List.map_cons,h7];have:=h a;lia
theorem Y9 (xs:List α) (f:α->D) (h:∀x,(f x).pl=true):pls (xs.map f)=true:=by
 induction xs with
 | nil=>simp only [List.map_nil,pls]
 | cons a r ih=>simp only [List.map_cons,pls,h a,ih,Bool.and_self]
theorem O9 (p:Int×Int):(T2 p).oi=true:=by simp [T2,D.oi,ois]
theorem Nu (p:Int×Int×Int):(T3 p).oi=true:=by simp [T3,D.oi,ois]
theorem Fg (p:Int):(D.int p).oi=true:=by simp [D.oi]
theorem U1 (p:Int×Int):(T2 p).dep<=1:=by simp [T2,D.dep,h7]
theorem qa (p:Int×Int×Int):(T3 p).dep<=1:=by simp [T3,D.dep,h7]
theorem O8 (p:Int×Int):(T2 p).pl=true:=by simp [T2,D.pl,pls]
theorem Z5 (p:Int×Int):(T2 p).noL=true:=by simp [T2,D.noL,i7]
theorem kZ (p:Int×Int×Int):(T3 p).noL=true:=by simp [T3,D.noL,i7]
theorem Pw (p q:Int×Int):(d8 (T2 p) (T2 q)).isSome=true:=by simp only [T2,d8,j4];repeat (first | rfl | split)
theorem kY (p q:Int×Int×Int):(d8 (T3 p) (T3 q)).isSome=true:=by simp only [T3,d8,j4];repeat (first | rfl | split)
theorem kX (h:T3 p=T3 q):p=q:=by obtain ⟨a,b,c⟩:=p;obtain ⟨a',b',c'⟩:=q;simp only [T3,D.tup.injEq,List.cons.injEq,D.int.injEq,and_true] at h;simp only [Prod.mk.injEq];exact h
theorem Y8 (h:T2 p=T2 q):p=q:=by obtain ⟨a,b⟩:=p;obtain ⟨a',b'⟩:=q;simp only [T2,D.tup.injEq,List.cons.injEq,D.int.injEq,and_true] at h;simp only [Prod.mk.injEq];exact h
theorem O2 {α β:Type} {f:α->β} (hf:∀x y,f x=f y->x=y):∀{a b:List α},a.map f=b.map f->a=b
 | [],[],_=>rfl
 | [],_::_,h=>by simp at h
 | _::_,[],h=>by simp at h
 | x::a,y::b,h=>by simp only [List.map_cons,List.cons.injEq] at h;rw [hf _ _ h.1,O2 hf h.2]
theorem Ty (p:a.Perm b):so3 a=so3 b:=by have:=Eb (J5 b T3 Nu) (p.map T3);rw [Jp,Jp] at this;exact O2 (fun _ _=>kX) this
theorem Q0 (p:a.Perm b):so2 a=so2 b:=by have:=Eb (J5 b T2 O9) (p.map T2);rw [Ab,Ab] at this;exact O2 (fun _ _=>Y8) this
theorem Hq (h1:∀y∈ys,y<=m) (h2:m∈ys\/(ys=[]/\d=m)):mxD d ys=m:=by
 cases ys with
 | nil=>
  rcases h2 with h2 | h2
  . cases h2
  . exact h2.2
 | cons n ns=>
  rcases h2 with h2 | h2
  . obtain ⟨a,b⟩:=Jr ns n;exact Int.le_antisymm (h1 _ a) (b _ h2)
  . cases h2.1
theorem zzx (ds:List D):isT "list" (.lst ds)=true:=by simp only [isT,beq_self_eq_true]
theorem zv4 (ds:List D):Ck [.tup ds]=some (.lst ds):=rfl
theorem zqj (ds:List D):B9 [.lst ds]=some (.tup ds):=rfl
theorem zo (ls:List (Int×Int)):i7 (ls.map T2)=true:=V6 _ _ fun x _=>Z5 x
theorem zm5 (ls:List (Int×Int×Int)):i7 (ls.map T3)=true:=V6 _ _ fun x _=>kZ x
theorem kW (h:ls.length<100000):v4 (.lst (ls.map T2)) [.tup [.int a,.int b]]=some (.lst ((ls++[(a,b)]).map T2)):=by simp only [v4,List.length_map,h,if_true,List.map_append,List.map_cons,List.map_nil];rfl
theorem xD (hp:d.pl=true) (hd:d.dep<=20):dNe d d=some (.bl false):=by unfold dNe;rw [ξ ⟨hp,hp,hd⟩,Ky d hp];rfl
theorem Ho (p q:Int×Int):eqD (T2 p) (T2 q)=decide (p=q):=by obtain ⟨a,b⟩:=p;obtain ⟨c,d⟩:=q;simp only [T2,eqD,l7,Ac,Bool.and_true,Prod.mk.injEq,Bool.decide_and]
theorem Pv (p:Int×Int) (ls:List (Int×Int)):dIn false (T2 p) (.tup (ls.map T2))=some (.bl (decide (p∈ls))):=by
 have h1:=U8 ls T2 1 U1;have e:(ls.map T2).any (fun e=>eqD e (T2 p))=decide (p∈ls):=by
  rw [List.any_map,Bool.eq_iff_iff,List.any_eq_true,decide_eq_true_eq];constructor
  . rintro ⟨x,hx,h⟩;simp only [Function.comp,Ho,decide_eq_true_eq] at h;rw [<-h];exact hx
  . intro h;exact ⟨p,h,by simp only [Function.comp,Ho,decide_true]⟩
 unfold dIn dOr K8;simp only [O8,Y9 ls T2 O8,true_and,ξ (show h7 (ls.map T2)<=20 by lia),e,Bool.false_eq_true,if_false]
theorem Nt (x:Int) (t:Int×Int×Int):dIn false (.int x) (T3 t)=some (.bl (decide (x=t.1)||(decide (x=t.2.1)||decide (x=t.2.2)))):=by unfold dIn dOr K8;simp only [T3,D.pl,pls,h7,D.dep,Bool.and_self,Nat.max_self,true_and,Nat.zero_le,if_true,List.any_cons,List.any_nil,Bool.or_false,eqD,Ac,Bool.false_eq_true,if_false];simp only [show ∀a b:Int,decide (a=b)=decide (b=a) from fun a b=>by rw [Bool.eq_iff_iff];simp [eq_comm]]
theorem zv7 (t:Int×Int×Int):K7 [T3 t]=some (.int (t.1+(t.2.1+(t.2.2+0)))):=by simp only [T3,K7,u8,Option.map_some,List.sum_cons,List.sum_nil]
theorem zv8 (t:Int×Int):K7 [T2 t]=some (.int (t.1+(t.2+0))):=by simp only [T2,K7,u8,Option.map_some,List.sum_cons,List.sum_nil]
theorem zv9 (t:Int×Int):k7 "tuple" (T2 t)=some (.bl true):=Sc _
theorem zva (t:Int×Int):m5 [T2 t]=some (.int 2):=rfl
theorem zzy (t:Int×Int):dIx (T2 t) (.int 0)=some (.int t.1):=Jf _ _
theorem zzz (t:Int×Int):dIx (T2 t) (.int 1)=some (.int t.2):=Je _ _ _
theorem Pu (a b:List (Int×Int)) (h:a.length+b.length<=100000):x4 (.lst (a.map T2)) (.lst (b.map T2))=some (.lst ((a++b).map T2)):=by simp only [x4,List.length_map,h,if_true,List.map_append]
theorem Sb:∀{xs:List V} {us:List Value},xs.length=us.length->(∀(i:Nat) x u,xs[i]?=some x->us[i]?=some u->RelV x u)->Vals xs us
 | [],[],_,_=>.nil
 | [],_::_,h,_=>by simp at h
 | _::_,[],h,_=>by simp at h
 | x::xs,u::us,h,k=>.cons (k 0 x u rfl rfl) (Sb (by simpa using h) fun i y v a b=>k (i+1) y v (by simpa using a) (by simpa using b))
def tLR (ta:TA):TE:=fun σ H Q=>ta σ H fun vs H1=>∃j:Int,vs=[.int j]/\0<=j/\j<=100000/\∀l,H1 l=none->Q (.ref l) (upd H1 l (.lst ((List.range j.toNat).map fun (k:Nat)=>V.int (k:Int))))
section
variable {X:Cx} {σ:St} {H:Hp} {Q:VK}
theorem zR (hc:X.calm=true) (hgl:Gl X "list") (hml:X.mg "list"=none) (hg:Gl X "range") (hm:X.mg "range"=none) (ha:PA X [a] ta) (hs:starEach [a] X.env=[(false,eval a X.env)]:=by rfl)
  (hs2:starEach [.Call (.Name "range" p') [a] [] pos'] X.env=(false,eval (.Call (.Name "range" p') [a] [] pos') X.env)::starEach [] X.env:=by rfl) (hpl:(backTo pos (starEach [] X.env)).any (·.1)=false:=by rfl) :
  PE X (.Call (.Name "list" p) [.Call (.Name "range" p') [a] [] pos'] [] pos) (tLR ta):=by
 intro pins s σ H Q I h
 refine wpAny_Call_Name_kw (N7 I hgl hml boot_list ?_)
 refine PyProof.Rows.callWith_type1 ?_ hs2 hpl
 rw [hs2]
 show wpAny _ _ (spliced ((false,eval (.Call (.Name "range" p') [a] [] pos') X.env)::backTo pos (starEach [] X.env))) _ _ s
 refine Calls.spliced_cons ?_
 refine Call_ (N7 I hg hm boot_range (PyProof.Rows.callWith_type1 (thn (ha pos' pins s σ H _ I h) fun us s1 ⟨vs,H1,I1,r1,q1⟩=>?_) hs rfl))
 obtain ⟨j,e,j0,j1,q⟩:=q1
 subst e
 cases r1 with
 | cons r rr=>
  cases rr
  obtain ⟨t,rfl⟩:=r
  refine call_range_1 ?_
  refine Calls.spliced_nil ?_
  obtain ⟨hp,hhp⟩:∃hp,hp=s1.heap.push { cls:=.type "range",data:=.fields #[.int 0 s1.toks,.int j t,.int 1 (s1.toks+1)] }:=⟨_,rfl⟩
  have I2:Inv X pins σ H1 { s1 with heap:=hp,toks:=s1.toks+1+1 }:=I1.kept fun b o e=>by rw [hhp];exact Ψ _ e
  have hr:IsRange hp s1.heap.objs.size 0 j 1 s1.toks t (s1.toks+1):=by rw [hhp];exact IsRange.new ..
  rw [<-hhp]
  refine call_list_range (n:=j.toNat) (I2.ok.hd hc) hr (small_one (by lia) (by lia) (by lia) (by lia)) (by rw [rangeSize_one];split<;>lia) (by lia) fun h' tk acc c' kp hl hit=>?_
  have hz:((List.range j.toNat).map fun (k:Nat)=>V.int (k:Int)).length<=sizeLine:=by rw [List.length_map,List.length_range];exact W8 (by lia)
  have rv:Vals ((List.range j.toNat).map fun (k:Nat)=>V.int (k:Int)) acc.toList:=by
   refine Sb (by rw [List.length_map,List.length_range,Array.length_toList];exact hit.1.symm) fun i x u hx hu=>?_
   rw [Array.getElem?_toList] at hu;obtain ⟨t',rfl⟩:=hit.2 i u hu;rw [List.getElem?_map] at hx;cases hr:(List.range j.toNat)[i]? with
   | none=>rw [hr] at hx;cases hx
   | some k=>
    rw [hr] at hx
    cases hx
    have:=List.getElem?_range (i:=i) (n:=j.toNat) (by apply Classical.byContradiction;intro hn;rw [List.getElem?_eq_none (by rw [List.length_range];lia)] at hr;cases hr)
    rw [this] at hr;cases hr
    exact ⟨t',by simp⟩
  exact ⟨.ref hp.objs.size,_,I2.laid (t':=tk) kp (ζ _) (show ObjOk X.prog X.w _ h' _ (.lst _) from ⟨hz,acc.toList,c',rv,by simpa using hl⟩),rfl,q _ (I2.hok.fresh (ζ _))⟩
end
def eLR (fs:DE->R (List D)):DE->R D:=fun ρ=>(fs ρ).bind fun ds=>match ds with
 | [.int j]=>if 0<=j/\j<=100000 then .ok (L ((List.range j.toNat).map fun (k:Nat)=>(k:Int))) else .st
 | _=>.st
section
variable {X:Cx} {EX:XW} {σ:St} {H:Hp} {Q:VK}
theorem y2i {K:Frag} {fs:DE->R (List D)} (h:TEd K EX true (eLR fs) σ H Q):tLR (TAd K EX fs) σ H Q:=by
 obtain ⟨sx,ρ,H0,s,e,h⟩:=h;unfold eLR at h;rw [Rk.bind] at h;refine TAd.go sx s e h fun ds h vs H1 H1' s1 e1 r1=>?_
 split at h
 . rename_i j;split at h
   . rename_i hj;obtain ⟨x,rfl,q1⟩:=r1.uno;cases q1.int;refine ⟨j,rfl,hj.1,hj.2,fun l hl=>h _ _ (Out.after s1 e1 (.new e1.2.1 hl fun H' hH=>?_))⟩;simp only [OB,L];refine ⟨_,hH,?_⟩;rw [show (List.range j.toNat).map (fun (k:Nat)=>V.int (k:Int))=((List.range j.toNat).map fun (k:Nat)=>(k:Int)).map V.int by rw [List.map_map];rfl];exact RDs.ofInts _
   . exact h.elim
 . exact h.elim
theorem y2j (hc:X.calm=true) (hgl:Gl X "list") (hml:X.mg "list"=none) (hg:Gl X "range") (hm:X.mg "range"=none) (ha:QA X EX [a] fs) (hs:starEach [a] X.env=[(false,eval a X.env)]:=by rfl)
 (hs2:starEach [.Call (.Name "range" p') [a] [] pos'] X.env=(false,eval (.Call (.Name "range" p') [a] [] pos') X.env)::starEach [] X.env:=by rfl) (hpl:(backTo pos (starEach [] X.env)).any (·.1)=false:=by rfl) :
 QE X EX true (.Call (.Name "list" p) [.Call (.Name "range" p') [a] [] pos'] [] pos) (eLR fs):=⟨(zR hc hgl hml hg hm ha.h hs hs2 hpl).imp fun _ _ _ q=>y2i q⟩
end
noncomputable def hid (as:List Addr) (H:Hp):Hp:=fun b=>if b∈as then none else H b
theorem kU (h:a∈as):hid as H a=none:=ξ h
theorem Dh (h:a∉as):hid as H a=H a:=ψ h
theorem Dg {α:Type} {l:List α} {i j:Nat} {x y:α} (h:(l.set i x)[j]?=some y):(i=j/\x=y)\/(i≠j/\l[j]?=some y):=by
 by_cases e:i=j
 . subst e;by_cases hl:i<l.length
   . rw [List.getElem?_set_self hl] at h;exact .inl ⟨rfl,Option.some.inj h⟩
   . rw [List.getElem?_eq_none (by rw [List.length_set];lia)] at h;cases h
 . rw [List.getElem?_set_ne e] at h;exact .inr ⟨e,h⟩
mutual
noncomputable def D.ob:D->Bool
 | .int _=>true
 | .bl _=>true
 | .tup ds=>obs ds
 | _=>false
noncomputable def obs:List D->Bool
 | []=>true
 | d::ds=>d.ob&&obs ds
end
mutual
noncomputable def C2:D->D->Option Bool
 | .int i,.int j=>some (decide (i<j))
 | .bl a,.bl b=>some (decide (b2i a<b2i b))
 | .tup ds,.tup es=>r9 ds es
 | _,_=>none
noncomputable def r9:List D->List D->Option Bool
 | [],[]=>some false
 | [],_::_=>some true
 | _::_,[]=>some false
 | d::ds,e::es=>if eqD d e=true then r9 ds es else C2 d e
end
mutual
theorem Gj:∀{d:D},d.ob=true->d.pl=true
 | .int _,_=>rfl
 | .bl _,_=>rfl
 | .tup ds,h=>by simp only [D.pl];exact Pt (by simpa only [D.ob] using h)
 | .non,p=>by simp [D.ob] at p
 | .str _,p=>by simp [D.ob] at p
 | .lst _,p=>by simp [D.ob] at p
 | .dk _ _,p=>by simp [D.ob] at p
 | .dt _ _,p=>by simp [D.ob] at p
 | .dn _ _,p=>by simp [D.ob] at p
 | .scr _,p=>by simp [D.ob] at p
 | .exc _ _,p=>by simp [D.ob] at p
theorem Pt:∀{ds:List D},obs ds=true->pls ds=true
 | [],_=>rfl
 | d::ds,h=>by simp only [obs,Bool.and_eq_true] at h;simp only [pls,Gj h.1,Pt h.2,Bool.and_self]
end
section
variable {X:Cx} {pins:List (Addr×Obj)} {σ:St} {H:Hp} {s:Shared}
theorem Ps (I:Inv X pins σ H s) (hu:A.units+n<cLine) (lt:∀{d e:D} {x y:V} {u v:Value} {b:Bool},d.ob=true->e.ob=true->d.dep<=n->RD X.K H d x->RD X.K H e y->RelV x u->RelV y v->C2 d e=some b->RcLt A s u v b) :
  ∀{ds es:List D} {xs ys:List V} {us vs:List Value} {b:Bool},obs ds=true->obs es=true->h7 ds<=n->RDs X.K H ds xs->RDs X.K H es ys->Vals xs us->Vals ys vs->r9 ds es=some b->LexR A s us vs b
 | [],[],_,_,_,_,b,_,_,_,r1,r2,q1,q2,h=>by simp only [RDs] at r1 r2;subst r1;subst r2;cases q1;cases q2;simp only [r9,Option.some.injEq] at h;subst h;exact .nn
 | [],e::es,_,_,_,_,b,_,_,_,r1,r2,q1,q2,h=>by simp only [RDs] at r1 r2;subst r1;obtain ⟨y,ys,rfl,_,_⟩:=r2;cases q1;cases q2;simp only [r9,Option.some.injEq] at h;subst h;exact .nc
 | d::ds,[],_,_,_,_,b,_,_,_,r1,r2,q1,q2,h=>by simp only [RDs] at r1 r2;subst r2;obtain ⟨y,ys,rfl,_,_⟩:=r1;cases q1;cases q2;simp only [r9,Option.some.injEq] at h;subst h;exact .cn
 | d::ds,e::es,_,_,_,_,b,p1,p2,hd,r1,r2,q1,q2,h=>by
  simp only [RDs] at r1 r2;obtain ⟨x,xs,rfl,rx,rxs⟩:=r1;obtain ⟨y,ys,rfl,ry,rys⟩:=r2;simp only [obs,Bool.and_eq_true] at p1 p2;simp only [h7] at hd;cases q1 with
  | cons a1 a2=>
   cases q2 with
   | cons b1 b2=>
    have eq:=Z1 (A:=A) I n (Gj p1.1) (Gj p2.1) (by lia) hu rx ry a1 b1
    simp only [r9] at h
    split at h
    . rename_i w;rw [w] at eq;exact .eq eq (Ps I hu lt p1.2 p2.2 (by lia) rxs rys a2 b2 h)
    . rename_i w;rw [show eqD d e=false by simpa using w] at eq;exact .lt eq (lt p1.1 p2.1 (by lia) rx ry a1 b1 h)
theorem Wa (h:C2 d e=some b):(∃i j,d=.int i/\e=.int j/\b=decide (i<j))\/(∃p q,d=.bl p/\e=.bl q/\b=decide (b2i p<b2i q))\/∃ds es,d=.tup ds/\e=.tup es/\r9 ds es=some b:=by
 cases d with
 | int i=>cases e with
  | int j=>exact .inl ⟨_,_,rfl,rfl,(Option.some.inj h).symm⟩
  | _=>exact nomatch h
 | bl p=>cases e with
  | bl q=>exact .inr (.inl ⟨_,_,rfl,rfl,(Option.some.inj h).symm⟩)
  | _=>exact nomatch h
 | tup ds=>cases e with
  | tup es=>exact .inr (.inr ⟨_,_,rfl,rfl,h⟩)
  | _=>exact nomatch h
 | _=>exact nomatch h
theorem kT (I:Inv X pins σ H s):∀(n:Nat) {A:Around} {d e:D} {x y:V} {u v:Value} {b:Bool},A.units+n<cLine->d.ob=true->e.ob=true->d.dep<=n->RD X.K H d x->RD X.K H e y->RelV x u->RelV y v->C2 d e=some b->RcLt A s u v b:=by
 have low:∀{A:Around} {d e:D} {x y:V} {u v:Value} {b:Bool},RD X.K H d x->RD X.K H e y->RelV x u->RelV y v->((∃i j,d=.int i/\e=.int j/\b=decide (i<j))\/(∃p q,d=.bl p/\e=.bl q/\b=decide (b2i p<b2i q)))->RcLt A s u v b:=by
  intro A d e x y u v b rx ry ru rv h;rcases h with ⟨i,j,rfl,rfl,rfl⟩ | ⟨p,q,rfl,rfl,rfl⟩
  . cases rx.int;cases ry.int;obtain ⟨t,rfl⟩:=ru;obtain ⟨t',rfl⟩:=rv;exact fun prog w E Q q=>HT.rcLt_int A s _ _ _ _ prog w E Q q
  . cases rx.bl;cases ry.bl;obtain rfl:_=Value.bool p:=ru;obtain rfl:_=Value.bool q:=rv;exact fun prog w E Q q=>PyProof.Rows.lt_bool q
 intro n;induction n with
 | zero=>
  intro A d e x y u v b hu p1 p2 hd rx ry ru rv h
  rcases Wa h with z | z | ⟨ds,es,rfl,rfl,h⟩
  . exact low rx ry ru rv (.inl z)
  . exact low rx ry ru rv (.inr z)
  . simp only [D.dep] at hd;lia
 | succ n ih=>
  intro A d e x y u v b hu p1 p2 hd rx ry ru rv h
  rcases Wa h with z | z | ⟨ds,es,rfl,rfl,h⟩
  . exact low rx ry ru rv (.inl z)
  . exact low rx ry ru rv (.inr z)
  . obtain ⟨a,xs,rfl,ha,ra⟩:=rx.tup;obtain ⟨c,ys,rfl,hc,rc⟩:=ry.tup;cases ru;cases rv;obtain ⟨its,r1,t1⟩:=I.tupA ha;obtain ⟨its2,r2,t2⟩:=I.tupA hc;simp only [D.dep] at hd;simp only [D.ob] at p1 p2;have hu1:A.in1.units+n<cLine:=by show A.units+1+n<cLine;lia
    exact RcLt.tuples t1 t2 (Ps I hu1 (fun {d e x y u v b} q1 q2 q3 q4 q5 q6 q7 q8=>ih hu1 q1 q2 q3 q4 q5 q6 q7 q8) p1 p2 (by lia) ra rc r1 r2 h) (by lia)
end
def K3:D->D->Option D:=fun d e=>if d.ob=true/\e.ob=true/\d.dep<=20 then (C2 d e).map D.bl else none
def Yq (K:Frag):R2:=fun x y H Q=>∃d e b,RD K H d x/\RD K H e y/\d.ob=true/\e.ob=true/\d.dep<=20/\C2 d e=some b/\Q (.bl b) H
theorem Nr (hu:X.A.units+64<cLine):OpR X (compareOp .Lt) (Yq X.K):=by intro pins s σ H x y v u Q I rx ry h;obtain ⟨d,e,b,h1,h2,p1,p2,h3,h4,q⟩:=h;exact kT I 20 (by lia) p1 p2 h3 h1 h2 rx ry h4 X.prog X.w X.xe _ ⟨.bl _,H,I,rfl,q⟩
theorem Pr {K:Frag}:OpD K false K3 (Yq K):=by
 intro H0 H x y d e z Q s rx ry ho k;unfold K3 at ho;split at ho
 . rename_i h;cases hc:C2 d e with
   | none=>rw [hc] at ho;cases ho
   | some b=>
    rw [hc] at ho;cases ho
    exact ⟨d,e,b,rx.mono s,ry.mono s,h.1,h.2.1,h.2.2,hc,k _ H (.pure s (.mkBl _))⟩
 . cases ho
mutual
noncomputable def nkD:D->Option NK
 | .int n=>some (.i n)
 | .tup ds=>(F4 ds).map .t
 | _=>none
noncomputable def F4:List D->Option (List NK)
 | []=>some []
 | d::ds=>match nkD d,F4 ds with
  | some k,some ks=>some (k::ks)
  | _,_=>none
end
mutual
theorem Y7 {K:Frag} {H:Hp}:∀{d:D} {k:NK} {x:V},nkD d=some k->RD K H d x->NKr H k x
 | .int n,k,x,e,r=>by simp only [nkD,Option.some.injEq] at e;subst e;cases r.int;simp only [NKr]
 | .tup ds,k,x,e,r=>by simp only [nkD,Option.map_eq_some_iff] at e;obtain ⟨ks,e,rfl⟩:=e;obtain ⟨a,xs,rfl,ha,ra⟩:=r.tup;simp only [NKr];exact ⟨a,xs,rfl,ha,Sa e ra⟩
 | .non,_,_,e,_=>by simp [nkD] at e
 | .bl _,_,_,e,_=>by simp [nkD] at e
 | .str _,_,_,e,_=>by simp [nkD] at e
 | .lst _,_,_,e,_=>by simp [nkD] at e
 | .dk _ _,_,_,e,_=>by simp [nkD] at e
 | .dt _ _,_,_,e,_=>by simp [nkD] at e
 | .dn _ _,_,_,e,_=>by simp [nkD] at e
 | .scr _,_,_,e,_=>by simp [nkD] at e
 | .exc _ _,_,_,e,_=>by simp [nkD] at e
theorem Sa {K:Frag} {H:Hp}:∀{ds:List D} {ks:List NK} {xs:List V},F4 ds=some ks->RDs K H ds xs->NKrs H ks xs
 | [],ks,xs,e,r=>by simp only [F4,Option.some.injEq] at e;subst e;simp only [RDs] at r;subst r;simp only [NKrs]
 | d::ds,ks,xs,e,r=>by
  simp only [RDs] at r;obtain ⟨x,r,rfl,r1,r2⟩:=r;simp only [F4] at e;split at e
  . rename_i k ks' e1 e2;cases e;simp only [NKrs];exact ⟨x,_,rfl,Y7 e1 r1,Sa e2 r2⟩
  . cases e
end
noncomputable def putQ (qs:List (NK×Addr)) (k:NK) (b:Addr):List (NK×Addr):=if k∈qs.map (·.1) then qs else qs++[(k,b)]
noncomputable def z3 (qs:List (NK×Addr)) (vs:List Value):List (NK×Addr×Value):=(qs.zip vs).map fun q=>(q.1.1,q.1.2,q.2)
theorem Cp:∀(qs:List (NK×Addr)) (vs:List Value),qs.length=vs.length->(z3 qs vs).map (·.1)=qs.map (·.1)
 | [],_,_=>rfl
 | q::qs,[],h=>by simp at h
 | q::qs,v::vs,h=>by have:=Cp qs vs (by simpa using h);simp only [z3,List.zip_cons_cons,List.map_cons] at this ⊢;rw [this]
theorem Pq (qs:List (NK×Addr)) (vs:List Value) (h:qs.length=vs.length):(z3 qs vs).length=qs.length:=by simp only [z3,List.length_map,List.length_zip];lia
theorem Rz (xs:List (NK×Addr×α)) (k:NK):((xs.find? fun x=>decide (x.1=k)).map (·.2)).isSome=decide (k∈xs.map (·.1)):=by
 rw [Option.isSome_map,Bool.eq_iff_iff,List.find?_isSome,decide_eq_true_eq,List.mem_map];constructor
 . rintro ⟨x,hx,e⟩;exact ⟨x,hx,by simpa using e⟩
 . rintro ⟨x,hx,e⟩;exact ⟨x,hx,by simpa using e⟩
theorem kS (qs:List (NK×Addr)) (vs:List Value) (h:qs.length=vs.length) (k:NK) (b:Addr) (u:Value):storedH (z3 qs vs) k b u=z3 (putQ qs k b) (l6 (qs.map (·.1)) vs k u)/\(putQ qs k b).length=(l6 (qs.map (·.1)) vs k u).length:=by
 unfold storedH putQ l6;have e:=Rz (z3 qs vs) k;rw [Cp qs vs h] at e;rw [show (atKey (z3 qs vs) k).isSome=decide (k∈qs.map (·.1)) from e];by_cases hk:k∈qs.map (·.1)
 . rw [ξ (decide_eq_true hk),ξ hk,ξ hk];have go:∀(qs:List (NK×Addr)) (vs:List Value),qs.length=vs.length->(z3 qs vs).map (putAt k u)=z3 qs (List.zipWith (fun k' d'=>if k'=k then u else d') (qs.map (·.1)) vs)/\qs.length=(List.zipWith (fun k' d'=>if k'=k then u else d') (qs.map (·.1)) vs).length:=by
    intro qs;induction qs with
    | nil=>intro vs _;exact ⟨rfl,rfl⟩
    | cons q qs ih=>
     intro vs h
     cases vs with
     | nil=>simp at h
     | cons v vs=>
      obtain ⟨i1,i2⟩:=ih vs (by simpa using h)
      simp only [z3,List.zip_cons_cons,List.map_cons,List.zipWith_cons_cons,List.length_cons] at i1 i2 ⊢
      refine ⟨?_,by lia⟩
      rw [i1]
      congr 1
      unfold putAt
      by_cases z:q.1=k
      . simp only [ξ z]
      . simp only [ψ z]
   exact go qs vs h
 . rw [ψ (by simpa using hk),ψ hk,ψ hk];refine ⟨?_,by simp;lia⟩;unfold z3;rw [List.zip_append h,List.map_append];rfl
section
variable {X:Cx} {pins:List (Addr×Obj)} {σ:St} {H:Hp} {s:Shared}
theorem yt {ks:List NK} {k:NK} {v:V} {u:Value} (ru:RelV v u) {xs:List V} {vs:List Value} (r:Vals xs vs):Vals (l6 ks xs k v) (l6 ks vs k u):=by
 unfold l6;split
 . have go:∀(ks:List NK) (xs:List V) (vs:List Value),Vals xs vs->Vals (List.zipWith (fun k' d'=>if k'=k then v else d') ks xs) (List.zipWith (fun k' d'=>if k'=k then u else d') ks vs):=by
    intro ks
    induction ks with
    | nil=>intro xs vs _;exact .nil
    | cons k' ks ih=>
     intro xs vs r
     cases r with
     | nil=>exact .nil
     | cons a1 a2=>
      simp only [List.zipWith_cons_cons]
      refine .cons ?_ (ih _ _ a2)
      split
      . exact ru
      . exact a1
   exact go ks xs vs r
 . exact r.append (.cons ru .nil)
theorem Aa (I:Inv X pins σ H s) (e:H a=some (.ext (dnP a qs xs ob))) (n:DN H a qs):s.heap.get? a=some ob/\∃vs,Vals xs vs/\qs.length=vs.length/\Heap.DictOfH (deepKind X.prog X.w) s.heap a (z3 qs vs):=by obtain ⟨p,_,_⟩:=(show ObjOk X.prog X.w H s.heap a (.ext (dnP a qs xs ob)) from I.hok a _ e);obtain ⟨p3,vs,es,ep,p1,p2,p4,p5,p6⟩:=p;refine ⟨p3,vs,p1,p2,ob,es,ep,p3,p4,p5,p6,fun x hx=>?_,by rw [Cp qs vs p2];exact n.1⟩;obtain ⟨q,hq,rfl⟩:=List.mem_map.mp hx;have hq':=(List.of_mem_zip hq).1;exact ⟨T5 I (n.2.1 _ hq').1 rfl,(n.2.1 _ hq').2⟩
end
def Nq:S3:=fun o i v H Q=>∃(a:Addr) (qs:List (NK×Addr)) (xs:List V) (k:NK) (b:Addr) (ob:Obj),o=.ref a/\i=.ref b/\H a=some (.ext (dnP a qs xs ob))/\DN H a qs/\NKr H k (.ref b)/\k.dep<=8/\qs.length<sizeLine/\∀ob',Q (upd H a (.ext (dnP a (putQ qs k b) (l6 (qs.map (·.1)) xs k v) ob')))
theorem Np (hu:X.A.units+64<cLine):Ce X Nq:=by
 intro pins s σ H o i v ov iv u Q I ro ri rv h;obtain ⟨a,qs,xs,k,b,ob,rfl,rfl,e,n,hk,hd,hl,q⟩:=h;cases ro;cases ri;obtain ⟨_,vs,p1,p2,dd⟩:=Aa I e n;have hz:(z3 qs vs).length<=sizeLine:=by rw [Pq qs vs p2];lia
 refine wpAny_setItem_heap (knd:=deepKind X.prog X.w) (hsz:=hz) (by show X.A.units+1+8<cLine;lia) ⟨T5 I hk rfl,hd⟩ dd fun h' dd' hs=>?_
 obtain ⟨e1,e2⟩:=kS qs vs p2 k b u;rw [e1] at dd';obtain ⟨o',es,ep,d1,d2,d3,d4,_⟩:=dd';refine ⟨_,?_,q o'⟩;exact Do I (by rw [e];exact True.intro) hs ⟨o',d1⟩ ⟨⟨d1,_,es,ep,yt rv p1,e2,d2,d3,d4⟩,⟨o',d1⟩,dnP.stay⟩
def dSetN:D->D->D->Option D
 | .dn ks ds,.tup es,v=>match nkD (.tup es) with
  | some k=>if ks.length<100000/\k.dep<=8 then some (.dn (C8 ks k) (l6 ks ds k v)) else none
  | none=>none
 | _,_,_=>none
theorem Ry {K:Frag}:Fs K dSetN Nq:=by
 intro H0 H a d d' dk dv y v Q s h0 ob rk rv hm k;cases d<;>simp only [dSetN] at hm<;>first | cases hm | skip
 cases dk<;>simp only [dSetN] at hm<;>first | cases hm | skip
 rename_i ks ds es;split at hm
 . rename_i kk hkk;split at hm
   . rename_i hl;cases hm;simp only [OB] at ob;obtain ⟨qs,xs,ob0,hx,hk,n,rx⟩:=ob;have rk':=rk;obtain ⟨b,ys,rfl,hb,rb⟩:=rk.tup;have nk:=Y7 hkk rk';have hlen:qs.length=ks.length:=by rw [<-hk,List.length_map]
     have mono:∀a ys,H0 a=some (.tup ys)->H a=some (.tup ys):=fun c ys q=>s _ _ q
     refine ⟨a,qs,xs,kk,b,ob0,rfl,rfl,hx,n.tk mono,NKr.mono mono nk,hl.2,by rw [hlen];exact Q6 hl.1,fun ob'=>k _ ?_⟩;simp only [OB];refine ⟨_,_,ob',i9,?_,?_,by rw [hk];exact Ju kk rv rx⟩
     . unfold putQ C8;rw [hk];split
       . exact hk
       . rw [List.map_append,hk];rfl
     . obtain ⟨n1,n2,n3,n4⟩:=n;unfold putQ;split
       . exact ⟨n1,n2,n3,n4⟩
       . rename_i hn;refine ⟨?_,fun q hq=>?_,n3,?_⟩
         . rw [List.map_append,List.map_cons,List.map_nil];exact List.nodup_append.mpr ⟨n1,by simp,fun x hx y hy e=>hn (by rw [List.mem_singleton.mp hy] at e;have e':x=kk:=e;rw [<-e'];exact hx)⟩
         . rcases List.mem_append.mp hq with z | z
           . exact n2 q z
           . rw [List.mem_singleton.mp z];exact ⟨nk,hl.2⟩
         . have:=Q6 hl.1;rw [θ,List.length_singleton];lia
   . cases hm
 . cases hm
section
variable {X:Cx} {EX:XW} {fr:Bool} {m:List Bool} {pos:Pos} {e:Expr} {fk fv:DE->R D}
theorem kR (hu:X.A.units+64<cLine) (ho:PE X o (l8 i)) (hk:QE X EX false ix fk) (hv:QE X EX false e fv)
 (ha:∀v,assign (.Subscript o ix tpos) X.env v=(do
  let ov <-holding [v] (eval o X.env)
  let iv <-holding [v,ov] (eval ix X.env)
  standAt tpos
  holding [v,ov,iv] (setItem ov iv v)
  release [v,ov,iv] []):=by intro _;rfl) (hs:swapsWithSole [.Subscript o ix tpos] e pos.line X.env=pure false:=by rfl) (hw:swappedStores [.Subscript o ix tpos] e X.env=pure none:=by rfl)
 (h1:(assignEach [.Subscript o ix tpos] X.env).map (·.2)=[assign (.Subscript o ix tpos) X.env]:=by rfl):QS X EX fr (.Assign [.Subscript o ix tpos] e pos) (G4 dSetN i m fk fv):=⟨(Ja hv.h (Jb ho hk.h (Np hu) ha) hs hw h1).imp fun _ _ _ q=>Gp Ry q⟩
noncomputable def X5:DE->R D:=fun _=>.ok (.dn [] [])
theorem pe_dnewN:PE X (.Dict [] [] pos) (fun _ H Q=>∀p ob,H p=none->(p==sysModules)=false->Q (.ref p) (upd H p (.ext (dnP p [] [] ob)))):=fun pins s σ H Q I h=>
 wpAny_Dict_empty ⟨.ref s.heap.objs.size,_,I.laid (a:=s.heap.objs.size) (o:=.ext (dnP s.heap.objs.size [] [] { cls:=.type "dict",data:=.dict #[] })) (t':=s.toks) (fun _ _ q=>Ψ _ q) (ζ _) ⟨⟨Ξ _ rfl,[],#[],0,.nil,rfl,⟨rfl,rfl,rfl⟩,rfl,rfl⟩,⟨_,Ξ _ rfl⟩,dnP.stay⟩,rfl,h _ _ (I.hok.fresh (ζ _)) (beq_eq_false_iff_ne.mpr (Ne.symm (Nat.ne_of_lt I.big)))⟩
theorem Hm:QE X EX true (.Dict [] [] pos) X5:=⟨pe_dnewN.imp fun σ H Q ⟨sx,ρ,H0,s,e,h⟩ p ob hp hq=>h _ _ (.new s hp fun H' hH=>by simp only [OB];exact ⟨[],[],ob,hH,rfl,⟨List.nodup_nil,fun q hq=>(by simp at hq),hq,Nat.zero_le _⟩,.nil⟩)⟩
end
section
open PySem.SeqAt
open PySem.AutoSeq1 (wpAny_loadPart')
open PySem.MeetsSeq PySem.MeetsSeq2 PySem.MeetsSeq3
end
end L2
namespace L2
open PySem PySem.Spec PyProof.Rows
section
def Bl:D->Option Int->Option Int->Option D
 | .tup ds,lo,hi=>if ¬(HT.sIx ds.length 0 lo=0/\HT.sIx ds.length ds.length hi=ds.length) then some (.tup (n9 ds lo hi)) else none
 | _,_,_=>none
theorem kQ {K:Frag}:SlD K false Bl (Zj K):=by
 intro H0 H x d z lo hi Q s r ho k;cases d<;>simp only [Bl] at ho<;>first | cases ho | skip
 split at ho<;>cases ho;rename_i hw;obtain ⟨a,xs,rfl,ha,ra⟩:=r.tup;have hl:=ra.length;refine ⟨a,xs,rfl,.of (s _ _ ha),by rw [<-hl];exact hw,fun p hp=>k _ _ (.val (Same.upd_new hp) (.new s hp) ?_)⟩;simp only [RD];exact ⟨p,G0 xs lo hi,rfl,i9,(ra.cut lo hi).mono (Same.upd_new (s.none hp))⟩
end
noncomputable def m8 (es:Array DictEntry) (ep:Nat):Obj:={ cls:=.type "dict",data:=.dict es ep }
section
open PySem.SeqAt
open PySem.AutoSeq1 (wpAny_loadPart')
end
mutual
noncomputable def B0:NK->D
 | .i n=>.int n
 | .t ks=>.tup (J4 ks)
noncomputable def J4:List NK->List D
 | []=>[]
 | k::ks=>B0 k::J4 ks
end
mutual
theorem No {K:Frag} {H:Hp}:∀{k:NK} {x:V},NKr H k x->RD K H (B0 k) x
 | .i n,x,h=>by simp only [NKr] at h;subst h;simp only [B0,RD]
 | .t ks,x,h=>by simp only [NKr] at h;obtain ⟨a,xs,rfl,ha,hs⟩:=h;simp only [B0,RD];exact ⟨a,xs,rfl,ha,Pp hs⟩
theorem Pp {K:Frag} {H:Hp}:∀{ks:List NK} {xs:List V},NKrs H ks xs->RDs K H (J4 ks) xs
 | [],xs,h=>by simp only [NKrs] at h;subst h;simp only [J4,RDs]
 | k::ks,xs,h=>by simp only [NKrs] at h;obtain ⟨x,r,rfl,h1,h2⟩:=h;simp only [J4,RDs];exact ⟨x,r,rfl,No h1,Pp h2⟩
end
end L2
namespace L2
open PySem PySem.Spec PyProof.Rows
noncomputable def L9 (a b:Value):Obj:={ cls:=.type "tuple",data:=.seq #[a,b] }
noncomputable def u7 (l:Addr) (i:Nat):Obj:={ cls:=.type "tuple_iterator",data:=.fields #[.ref l,.int i 0] }
abbrev up1 (i:Nat):Obj->Obj:=Obj.mapFields (·.setIfInBounds 1 (rawInt ((i:Int)+1)))
def y00 (i:Addr) (x:Value) (f:Obj->Obj) (A:Around) (s:Shared):Prop:=∀(prog:Program) (w:World) (E:Value->Shared->Prop) (Q:Value->Shared->Prop),Q x { s with heap:=s.heap.update i f }->wpAny (model prog w) A (Builtin.SmallTypes.nextOf (.ref i)) Q E s
def y01 (i:Addr) (A:Around) (s:Shared):Prop:=∀(prog:Program) (w:World) (E:Value->Shared->Prop) (Q:Value->Shared->Prop),
 (∀h' e,(∀c o,c≠i->s.heap.get? c=some o->h'.get? c=some o)->(∃o,h'.get? e=some o/\o.cls=.type "StopIteration")->E (.ref e) { s with heap:=h' })->wpAny (model prog w) A (Builtin.SmallTypes.nextOf (.ref i)) Q E s
section
open PySem.SeqAt
open PySem.AutoSeq1 (wpAny_loadPart')
theorem yr (it l:Addr) (items:Array Value) (i n:Nat) (dd:Option Addr) (sl:Array (Option Value)) (x:Value) (hx:items[i]?=some x) :
  Meets (Builtin.«tuple_iterator.__next__» ⟨[.ref it],[]⟩) (fun _ R s=>s.heap.get? it=some (u7 l i)/\s.heap.get? l=some { cls:=.type "tuple",dict:=dd,data:=.seq items n,slots:=sl }/\R (.ok (.ret x)) { s with heap:=s.heap.update it (up1 i) }):=
 .of_wp fun prog w A R s h=>by
  obtain ⟨hp,g,dr,tk,os⟩:=s;obtain ⟨hl,hd,h⟩:=h;unfold u7 at hl;have hat:items[((i:Nat):Int).toNat]?=some x:=by simpa using hx
  wp_walk using wpAny_loadPart' hl,wpAny_loadPart' hd
  rw [hat]
  wp_walk using wpAny_loadPart' hl,wpAny_loadPart' hd
  exact ⟨_,rfl,h⟩
theorem xC (it l:Addr) (items:Array Value) (i n:Nat) (dd:Option Addr) (sl:Array (Option Value)) (hx:items[i]?=none) :
  Meets (Builtin.«tuple_iterator.__next__» ⟨[.ref it],[]⟩) (fun A R s=>s.heap.get? it=some (u7 l i)/\s.heap.get? l=some { cls:=.type "tuple",dict:=dd,data:=.seq items n,slots:=sl }/\A.in1.handled=none /\
   ∀h' e,(∀c o,c≠it->s.heap.get? c=some o->h'.get? c=some o)->(∃o,h'.get? e=some o/\o.cls=.type "StopIteration")->R (.error (.ref e)) { s with heap:=h' }):=
 .of_wp fun prog w A R s h=>by
  obtain ⟨hp,g,dr,tk,os⟩:=s;obtain ⟨hl,hd,hh,h⟩:=h;unfold u7 at hl;have hat:items[((i:Nat):Int).toNat]?=none:=by simpa using hx
  wp_walk using wpAny_loadPart' hl,wpAny_loadPart' hd
  rw [hat]
  wp_walk using wpAny_loadPart' hl,wpAny_loadPart' hd
  unfold raiseNew;refine χ (wpAny_handled ?_);rw [hh];refine χ (ω (wpAny_throw (h _ _ (fun c o hc e=>?_) ⟨_,Ξ _ rfl,rfl⟩)));refine Ψ _ (Ψ _ ?_);rw [Heap.get?_update_ne _ _ _ _ hc];exact e
theorem yq {it l:Addr} {items:Array Value} {i:Nat} {x:Value} {A:Around} {s:Shared} (hit:s.heap.get? it=some (u7 l i)) (hl:s.heap.IsTuple l items) (hx:items[i]?=some x):y00 it x (up1 i) A s:=fun prog w E Q q=>by obtain ⟨⟨cl,dd,da,sl⟩,ho,hc,n,hd⟩:=hl;simp only at hc hd;subst hc hd;unfold Builtin.SmallTypes.nextOf;exact χ (wpAny_callSpecial?_slot (name:=Str.ofString "__next__") ⟨_,hit,rfl⟩ F.slot_tuple_iterator_next (call_meets F.slot_tuple_iterator_next ⟨_,hit,rfl⟩ F.entry_tuple_iterator_next (F.args_tuple_iterator_next_1 _) (yr it l items i n dd sl x hx) ⟨hit,ho,ω q⟩))
theorem xB {it l:Addr} {items:Array Value} {i:Nat} {A:Around} {s:Shared} (hh:A.handled=none) (hit:s.heap.get? it=some (u7 l i)) (hl:s.heap.IsTuple l items) (hx:items[i]?=none):y01 it A s:=fun prog w E Q q=>by obtain ⟨⟨cl,dd,da,sl⟩,ho,hc,n,hd⟩:=hl;simp only at hc hd;subst hc hd;unfold Builtin.SmallTypes.nextOf;exact χ (wpAny_callSpecial?_slot (name:=Str.ofString "__next__") ⟨_,hit,rfl⟩ F.slot_tuple_iterator_next (call_meets F.slot_tuple_iterator_next ⟨_,hit,rfl⟩ F.entry_tuple_iterator_next (F.args_tuple_iterator_next_1 _) (xC it l items i n dd sl hx) ⟨hit,ho,hh,q⟩))
end
end L2
namespace L2
open PySem PySem.Spec PyProof.Rows
section
theorem G5 {h:Heap} {c e:Addr} {f:Obj->Obj} (n:c≠e):(h.update e f).get? c=h.get? c:=Heap.get?_update_ne _ _ _ _ n
end
section
open PySem.SeqAt
open PySem.AutoSeq1 (wpAny_loadPart')
end
end L2
namespace L2
open PySem PySem.Spec PyProof.Rows
section
open PySem.SeqAt
open PySem.AutoSeq1 (wpAny_loadPart')
end
section
open PySem.SeqAt
open PySem.AutoSeq1 (wpAny_loadPart')
end
end L2
namespace L2
open PySem PySem.Spec PyProof.Rows
noncomputable def C0 (d:Addr):Obj:={ cls:=.type "dict_items",data:=.fields #[.ref d] }
noncomputable def m4 (f0:Value) (d:Addr) (i n ep:Nat) (ok ov:Value):Obj:={ cls:=.type "dict_itemiterator",data:=.fields #[f0,.bool false,.ref d,.int i 0,.int n 0,.int ep 0,ok,ov] }
def itH (hp:Heap) (it:Addr) (i:Nat) (k v:Value):Heap:=
 (((((hp.update it (Obj.mapFields (·.setIfInBounds (2+1) (rawInt ((i:Int)+1))))).push (L9 k v)).update it (Obj.mapFields (·.setIfInBounds 6 k))).update it (Obj.mapFields (·.setIfInBounds (6+1) v))).update it (Obj.mapFields (·.setIfInBounds 0 (rawInt hp.objs.size)))).update it (Obj.mapFields (·.setIfInBounds 1 (.bool false)))
theorem kP (hl:hp.get? it=some (m4 .none d i n ep ok ov)) :
  (itH hp it i k v).get? it=some (m4 (rawInt hp.objs.size) d (i+1) n ep k v)/\(itH hp it i k v).get? hp.objs.size=some (L9 k v)/\∀c o,c≠it->hp.get? c=some o->(itH hp it i k v).get? c=some o:=by
 have e1:(hp.update it (Obj.mapFields (·.setIfInBounds (2+1) (rawInt ((i:Int)+1))))).get? it=some (m4 .none d (i+1) n ep ok ov):=by rw [Heap.get?_update_self _ hl rfl];simp [m4,Obj.mapFields,rawInt]
 have s1:(hp.update it (Obj.mapFields (·.setIfInBounds (2+1) (rawInt ((i:Int)+1))))).objs.size=hp.objs.size:=Heap.size_update ..
 have k1:∀c o,c≠it->hp.get? c=some o->(hp.update it (Obj.mapFields (·.setIfInBounds (2+1) (rawInt ((i:Int)+1))))).get? c=some o:=fun c o n e=>by rw [G5 n];exact e
 have ne:hp.objs.size≠it:=Nat.ne_of_gt (Φ hl)
 unfold itH
 generalize hp.update it (Obj.mapFields (·.setIfInBounds (2+1) (rawInt ((i:Int)+1))))=H1 at *
 have e2:(H1.push (L9 k v)).get? it=some (m4 .none d (i+1) n ep ok ov):=Ψ _ e1
 have t2:(H1.push (L9 k v)).get? hp.objs.size=some (L9 k v):=by rw [<-s1];exact Ξ _ rfl
 have e3:((H1.push (L9 k v)).update it (Obj.mapFields (·.setIfInBounds 6 k))).get? it=some (m4 .none d (i+1) n ep k ov):=by rw [Heap.get?_update_self _ e2 rfl];rfl
 have e4:(((H1.push (L9 k v)).update it (Obj.mapFields (·.setIfInBounds 6 k))).update it (Obj.mapFields (·.setIfInBounds (6+1) v))).get? it=some (m4 .none d (i+1) n ep k v):=by rw [Heap.get?_update_self _ e3 rfl];rfl
 have e5:((((H1.push (L9 k v)).update it (Obj.mapFields (·.setIfInBounds 6 k))).update it (Obj.mapFields (·.setIfInBounds (6+1) v))).update it (Obj.mapFields (·.setIfInBounds 0 (rawInt hp.objs.size)))).get? it=some (m4 (rawInt hp.objs.size) d (i+1) n ep k v):=by rw [Heap.get?_update_self _ e4 rfl];rfl
 refine ⟨by rw [Heap.get?_update_self _ e5 rfl];rfl,by rw [G5 ne,G5 ne,G5 ne,G5 ne];exact t2,fun c o n e=>?_⟩
 rw [G5 n,G5 n,G5 n,G5 n]
 exact Ψ _ (k1 c o n e)
section
open PySem.SeqAt
open PySem.AutoSeq1 (wpAny_loadPart')
theorem vV (d:Addr) (es:Array DictEntry) (ep:Nat) (hd:(d==sysModules)=false) :
  Meets (Builtin.«dict.items» ⟨[.ref d],[]⟩) (fun _ R s=>s.heap.get? d=some (m8 es ep)/\R (.ok (.ret (.ref s.heap.objs.size))) { s with heap:=s.heap.push (C0 d) }):=
 .of_wp fun prog w A R s h=>by
  obtain ⟨hp,g,dr,tk,os⟩:=s;obtain ⟨hl,h⟩:=h;unfold m8 at hl
  wp_walk using wpAny_loadPart' hl
  exact ⟨_,rfl,h⟩
theorem xA (v d:Addr) (es:Array DictEntry) (ep:Nat) :
  Meets (Builtin.«dict_items.__iter__» ⟨[.ref v],[]⟩) (fun _ R s=>s.heap.get? v=some (C0 d)/\s.heap.get? d=some (m8 es ep)/\R (.ok (.ret (.ref s.heap.objs.size))) { s with heap:=s.heap.push (m4 .none d 0 es.size ep .none .none) }):=
 .of_wp fun prog w A R s h=>by
  obtain ⟨hp,g,dr,tk,os⟩:=s;obtain ⟨hl,hd,h⟩:=h;unfold m8 at hd;unfold C0 at hl
  wp_walk using wpAny_loadPart' hl,wpAny_loadPart' hd
  exact ⟨_,rfl,h⟩
theorem xx (it d:Addr) (es:Array DictEntry) (ep i:Nat) (ok ov:Value) (hi:i<es.size) :
  Meets (Builtin.«dict_itemiterator.__next__» ⟨[.ref it],[]⟩) (fun _ R s=>s.heap.get? it=some (m4 .none d i es.size ep ok ov)/\s.heap.get? d=some (m8 es ep) /\
   R (.ok (.ret (.ref s.heap.objs.size))) { s with heap:=itH s.heap it i es[i].key es[i].val }):=
 .of_wp fun prog w A R s h=>by
  obtain ⟨hp,g,dr,tk,os⟩:=s;obtain ⟨hl,hd,h⟩:=h;unfold m8 at hd;unfold m4 at hl;have hsz:(((es.size:Int) != (es.size:Int))=true)=False:=by simp
  have hep:(((ep:Int) != (ep:Int))=true)=False:=by simp
  have hat:(if (i:Int)<0 then none else es[((i:Nat):Int).toNat]?)=some es[i]:=by rw [ψ (by lia)];simp [hi]
  wp_walk using wpAny_loadPart' hl,wpAny_loadPart' hd
  rw [hat]
  wp_walk using wpAny_loadPart' hl,wpAny_loadPart' hd
  have hown:Builtin.Dict_items.ownsTuple ((Manifest.find? "dict_itemiterator").elim "dict_itemiterator" fun x=>x.tpName)=true:=by decide +kernel
  refine ⟨_,rfl,?_⟩;rw [ξ hown,ψ (by decide +kernel),Heap.size_update];exact h
theorem vU (it d:Addr) (es:Array DictEntry) (ep i:Nat) (ok ov:Value) (hi:es.size<=i) :
  Meets (Builtin.«dict_itemiterator.__next__» ⟨[.ref it],[]⟩) (fun A R s=>s.heap.get? it=some (m4 .none d i es.size ep ok ov)/\s.heap.get? d=some (m8 es ep)/\A.in1.handled=none /\
   ∀h' e,(∀c o,c≠it->s.heap.get? c=some o->h'.get? c=some o)->(∃o,h'.get? e=some o/\o.cls=.type "StopIteration")->R (.error (.ref e)) { s with heap:=h' }):=
 .of_wp fun prog w A R s h=>by
  obtain ⟨hp,g,dr,tk,os⟩:=s;obtain ⟨hl,hd,hh,h⟩:=h;unfold m8 at hd;unfold m4 at hl;have hsz:(((es.size:Int) != (es.size:Int))=true)=False:=by simp
  have hep:(((ep:Int) != (ep:Int))=true)=False:=by simp
  have hat:(if (i:Int)<0 then none else es[((i:Nat):Int).toNat]?)=none:=by rw [ψ (by omega)];simp [hi]
  wp_walk using wpAny_loadPart' hl,wpAny_loadPart' hd
  rw [hat]
  wp_walk using wpAny_loadPart' hl,wpAny_loadPart' hd
  unfold raiseNew;refine χ (wpAny_handled ?_);rw [hh];refine χ (ω (wpAny_throw (h _ _ (fun c o hc e=>?_) ⟨_,Ξ _ rfl,rfl⟩)));refine Ψ _ (Ψ _ ?_);rw [Heap.get?_update_ne _ _ _ _ hc];exact e
end
end L2
namespace L2
open PySem PySem.Spec PyProof.Rows
section
variable {prog:Program} {w:World} {A:Around} {E:Value->Shared->Prop} {s:Shared} {d it v:Addr} {es:Array DictEntry} {ep i:Nat} {ok ov:Value}
theorem zQ:entryFor table "dict_itemiterator.__iter__"=some Builtin.«dict_keyiterator.__iter__»:=entryFor_alias (id':="dict_keyiterator.__iter__") (by kernel_rfl) rfl (by decide +kernel) (by kernel_rfl)
theorem zc (hit:s.heap.get? it=some (m4 .none d i es.size ep ok ov)) (h:Q (.ref it) s):wpAny (model prog w) A (pyIter (.ref it)) Q E s:=by refine wpAny_pyIter_slot ⟨_,hit,rfl⟩ F.slot_dict_itemiterator_iter (wpAny_call_entry F.slot_dict_itemiterator_iter ⟨_,hit,rfl⟩ zQ ?_ (F.args_dict_itemiterator_iter_1 _));show wpAny _ _ (ret (.ref it)) _ _ s;exact ω ⟨_,rfl,"dict_itemiterator",_,⟨_,hit,rfl⟩,F.slot_dict_itemiterator_next.lookup,h⟩
theorem zb (hv:s.heap.get? v=some (C0 d)) (hm:s.heap.get? d=some (m8 es ep)) (hQ:Q (.ref s.heap.objs.size) { s with heap:=s.heap.push (m4 .none d 0 es.size ep .none .none) }) :
  wpAny (model prog w) A (pyIter (.ref v)) Q E s:=
 wpAny_pyIter_slot ⟨_,hv,rfl⟩ F.slot_dict_items_iter (call_meets F.slot_dict_items_iter ⟨_,hv,rfl⟩ F.entry_dict_items_iter (F.args_dict_items_iter_1 _) (xA v d es ep)
  ⟨hv,hm,⟨"dict_itemiterator",_,⟨_,Ξ _ rfl,rfl⟩,F.slot_dict_itemiterator_next.lookup,hQ⟩⟩)
theorem za (hit:s.heap.get? it=some (m4 .none d i es.size ep ok ov)) (hm:s.heap.get? d=some (m8 es ep)) (hi:i<es.size)
  (hQ:Q (some (.ref s.heap.objs.size)) { s with heap:=itH s.heap it i es[i].key es[i].val }):wpAny (model prog w) A (pyNext (.ref it)) Q E s:=by
 unfold pyNext
 exact χ (wpAny_attempt (wpAny_callSpecial?_slot (name:=Str.ofString "__next__") ⟨_,hit,rfl⟩ F.slot_dict_itemiterator_next
  (call_meets F.slot_dict_itemiterator_next ⟨_,hit,rfl⟩ F.entry_dict_itemiterator_next (F.args_dict_itemiterator_next_1 _) (xx it d es ep i ok ov hi) ⟨hit,hm,ω hQ⟩)))
theorem yp (hh:A.handled=none) (hit:s.heap.get? it=some (m4 .none d i es.size ep ok ov)) (hm:s.heap.get? d=some (m8 es ep)) (hi:es.size<=i)
  (hQ:∀h',(∀c o,c≠it->s.heap.get? c=some o->h'.get? c=some o)->Q none { s with heap:=h' }):wpAny (model prog w) A (pyNext (.ref it)) Q E s:=by
 unfold pyNext
 refine χ (wpAny_attempt (wpAny_callSpecial?_slot (name:=Str.ofString "__next__") ⟨_,hit,rfl⟩ F.slot_dict_itemiterator_next
  (call_meets F.slot_dict_itemiterator_next ⟨_,hit,rfl⟩ F.entry_dict_itemiterator_next (F.args_dict_itemiterator_next_1 _) (vU it d es ep i ok ov hi) ⟨hit,hm,hh,fun h' e kp he=>?_⟩)))
 obtain ⟨o,ho,hc⟩:=he
 exact χ (wpAny_isInstance (T:="StopIteration") (b:=true) ⟨o,ho,hc⟩ isSubtype_stop (ω (hQ h' kp)))
end
theorem Hl (I:Inv X pins σ H s) (e:H a=some (.ext (dnP a qs xs ob))) (n:DN H a qs) :
  ∃vs es ep,ob=m8 es ep/\s.heap.get? a=some (m8 es ep)/\Vals xs vs/\qs.length=vs.length/\es.toList=(z3 qs vs).map dnE:=by
 obtain ⟨g0,vs,p1,p2,o,es,ep,d1,d2,d3,d4,_⟩:=Aa I e n
 rw [g0] at d1;cases d1
 have eo:ob=m8 es ep:=by obtain ⟨cl,di,da,sl⟩:=ob;obtain ⟨q1,q2,q3⟩:=d2;simp only at q1 q2 q3 d3;subst q1 q2 q3 d3;rfl
 exact ⟨vs,es,ep,eo,by rw [g0,eo],p1,p2,d4⟩
theorem Tx (h:m8 es ep=m8 es' ep'):es=es'/\ep=ep':=by unfold m8 at h;injection h with _ _ h;injection h with h1 h2;exact ⟨h1,h2⟩
theorem yZ {P:Program} {w:World} {K:Frag} {elts:List Expr} {k:Nat} {pos:Pos} {it d:Addr} {qs:List (NK×Addr)} {ys:List V} {es:Array DictEntry} {ep:Nat} (hl:qs.length=ys.length) (hes:es.size=qs.length) :
  Turn P w K (.Tuple elts k pos) (ItP (fun H=>H d=some (.ext (dnP d qs ys (m8 es ep)))/\DN H d qs) ((qs.map fun q=>V.ref q.2).zip ys)) [it] it
   (fun i h=>∃ok ov,h.get? it=some (m4 .none d i es.size ep ok ov)) where
 mem:=by simp
 obj:=fun i h ⟨ok,ov,hz⟩ c hc=>by
  have hc':c=it:=by simpa using hc
  subst hc';exact ⟨_,hz,fun v e=>by cases e⟩
 keep:=fun i h h' ⟨ok,ov,hz⟩ kp=>⟨ok,ov,kp it (by simp) _ hz⟩
 item:=by
  intro X hP hw hK hc i pins s σ H E I hf st hg;subst hP hw hK;obtain ⟨⟨hS,n⟩,hlt⟩:=hg;obtain ⟨ok,ov,hz⟩:=st;obtain ⟨vs,es',ep',eo,ed,p1,p2,d4⟩:=Hl I hS n;obtain ⟨rfl,rfl⟩:=Tx eo;rw [List.length_zip,List.length_map] at hlt;have hi:i<es.size:=by lia
  have hiq:i<qs.length:=by lia
  obtain ⟨y,ey⟩:∃y,ys[i]?=some y:=⟨ys[i]'(by lia),by simp⟩;obtain ⟨u,hu,ru⟩:=p1.get ey;have hz3:(z3 qs vs)[i]?=some (qs[i].1,qs[i].2,u):=by unfold z3;have hzz:(qs.zip vs)[i]?=some (qs[i],u):=List.getElem?_zip_eq_some.mpr ⟨List.getElem?_eq_getElem hiq,hu⟩;rw [List.getElem?_map,hzz];rfl
  have he:es[i]=dnE (qs[i].1,qs[i].2,u):=by
   have h1:es.toList[i]?=some (dnE (qs[i].1,qs[i].2,u)):=by rw [d4,List.getElem?_map,hz3];rfl
   rw [Array.getElem?_toList,Array.getElem?_eq_getElem hi] at h1;exact Option.some.inj h1
  obtain ⟨f1,f2,f3⟩:=kP (k:=es[i].key) (v:=es[i].val) hz;refine za hz ed hi ⟨.ref s.heap.objs.size,rfl,?_⟩;generalize itH s.heap it i es[i].key es[i].val=HF at f1 f2 f3;rw [he] at f1 f2;refine wpAny_letOwnedTupleGo_items f1 fun h' hz' hs'=>?_
  have nT:s.heap.objs.size≠it:=Nat.ne_of_gt (Φ hz);have up:∀{c o},c≠it->HF.get? c=some o->h'.get? c=some o:=fun n e=>hs'.extBut _ _ n e
  have ht:IsTp h' s.heap.objs.size ([Value.ref qs[i].2,u]:List Value).toArray:=.mk' (up nT f2);have sub:∀c∈[it],o6 X pins H c:=hf;have I2:=I.turnedT (tk:=s.toks) (h':=h') (xs:=[V.ref qs[i].2,y]) (its:=[Value.ref qs[i].2,u]) sub (fun c o hcw e=>by
   have hc':c≠it:=by simpa using hcw
   exact up hc' (f3 c o hc' e)) (ζ _) ht (.cons rfl (.cons ru .nil)) Hy
  have HT:H s.heap.objs.size=none:=I.hok.fresh (ζ _);refine ⟨.ref s.heap.objs.size,upd H s.heap.objs.size (.tup [V.ref qs[i].2,y]),I2,rfl,⟨s.heap.objs.size,_,_,rfl,HT,rfl,?_⟩,⟨_,_,hz'⟩,fun c hc'=>?_⟩
  . rw [List.getElem?_zip_eq_some];exact ⟨by rw [List.getElem?_map,List.getElem?_eq_getElem hiq];rfl,ey⟩
  . rw [d7]
    . exact (hf c hc').1
    . intro e;have hc'':c=it:=by simpa using hc'
      rw [hc''] at e;exact nT e.symm
 done:=by
  intro X hP hw hK hc i pins s σ H E I hf st hg;subst hP hw hK;obtain ⟨⟨hS,n⟩,hle⟩:=hg;obtain ⟨ok,ov,hz⟩:=st;obtain ⟨vs,es',ep',eo,ed,p1,p2,d4⟩:=Hl I hS n;obtain ⟨rfl,rfl⟩:=Tx eo;rw [List.length_zip,List.length_map] at hle;refine yp (I.ok.hd hc) hz ed (by lia) fun h' kp=>⟨rfl,?_⟩
  exact I.turnedN (tk:=s.toks) (wr:=[it]) hf fun c o hcw e=>kp c o (by simpa using hcw) e
 self:=fun A i s Q E ⟨ok,ov,st⟩ h=>zc st h
def kN (td:TE):TI:=fun σ H R=>td σ H fun x H1=>∃(a:Addr) (qs:List (NK×Addr)) (ys:List V) (ob:Obj),x=.ref a/\H1 a=some (.ext (dnP a qs ys ob))/\DN H1 a qs/\qs.length=ys.length /\
 R (ItP (fun H=>H a=some (.ext (dnP a qs ys ob))/\DN H a qs) ((qs.map fun q=>V.ref q.2).zip ys)) H1
section
variable {X:Cx} {o:Expr} {td:TE} {apos cpos tpos:Pos} {elts:List Expr} {k:Nat}
theorem xw (ho:PE X o td) (hbase:attributeBase o "items" X.env (eval o X.env)=eval o X.env:=by rfl) (hline:(apos.endLine==cpos.line)=true:=by rfl) :
  PI X (.Tuple elts k tpos) (.Call (.Attribute o "items" apos) [] [] cpos) (kN td):=by
 intro pins s σ H R I h
 refine wpAny_Call_method0_late hbase hline (thn (ho pins s σ H _ I h) fun u s1 ⟨x,H1,I1,r1,a,qs,ys,ob,ex,e,n,hlq,q⟩=>?_)
 subst ex
 cases r1
 obtain ⟨vs,es,ep,rfl,ed,p1,p2,d4⟩:=Hl I1 e n
 have hsz:es.size=qs.length:=by rw [<-Array.length_toList,d4,List.length_map,Pq qs vs p2]
 refine ⟨"dict","dict.items",PySem.F.plainAttrs_dict,PySem.F.slot_dict_items,PySem.F.type_dict_items,⟨_,ed,rfl⟩,fun b eb=>?_,Calls.callWith_builtin rfl (PySem.evalArgs_none ?_)⟩
 . cases eb;exact ⟨_,ed,rfl⟩
 . refine call_meets F.slot_dict_items ⟨_,ed,rfl⟩ F.entry_dict_items (F.args_dict_items_1 _) (vV a es ep n.2.2.1) ⟨ed,?_⟩;have kp:∀c o,s1.heap.get? c=some o->(s1.heap.push (C0 a)).get? c=some o:=fun c o e=>Ψ _ e
   refine zb (s:={ s1 with heap:=s1.heap.push (C0 a) }) (Ξ _ rfl) (kp _ _ ed) ?_;have I2:Inv X pins σ H1 { s1 with heap:=s1.heap.push (C0 a) }:=I1.kept (t':=s1.toks) kp;have kp2:∀c o,(s1.heap.push (C0 a)).get? c=some o->((s1.heap.push (C0 a)).push (m4 .none a 0 es.size ep .none .none)).get? c=some o:=fun c o e=>Ψ _ e
   have I3:=I2.kept (t':=s1.toks) kp2;refine ⟨(s1.heap.push (C0 a)).objs.size,[(s1.heap.push (C0 a)).objs.size],_,_,H1,rfl,I3,yZ hlq hsz,⟨_,_,Ξ _ rfl⟩,fun c hc=>?_,q⟩;have hc':c=(s1.heap.push (C0 a)).objs.size:=by simpa using hc
   rw [hc'];exact I2.fpOk (ζ _) (I2.hok.fresh (ζ _))
end
def R1 (f:DE->R D):DE->R (List D):=fun ρ=>(f ρ).bind fun d=>match d with
 | .dn ks ds=>if ks.length=ds.length then .ok ((ks.zip ds).map fun p=>D.tup [B0 p.1,p.2]) else .st
 | _=>.st
theorem Rx {K:Frag} {H0:Hp}:∀{qs:List (NK×Addr)},(∀q∈qs,NKr H0 q.1 (.ref q.2))->RDs K H0 (qs.map fun q=>B0 q.1) (qs.map fun q=>V.ref q.2)
 | [],_=>.nil
 | q::qs,h=>.cons (No (h q (by simp))) (Rx fun p hp=>h p (by simp [hp]))
theorem Rw (ho:QE X EX false o f) (hbase:attributeBase o "items" X.env (eval o X.env)=eval o X.env:=by rfl) (hline:(apos.endLine==cpos.line)=true:=by rfl) :
  QI X EX false (.Tuple elts k tpos) (.Call (.Attribute o "items" apos) [] [] cpos) (R1 f):=⟨(xw ho.h hbase hline).imp fun σ H Q ⟨sx,ρ,H0,s,e,h⟩=>by
 unfold R1 at h
 rw [Rk.bind] at h
 refine TEd.go sx s e h fun d h v H1 H1' s1 e1 r1=>?_
 split at h
 . rename_i ks ds;split at h
   . rename_i hl;simp only [RD] at r1;obtain ⟨a,qs,ys,ob,rfl,h1,hk,n,ra⟩:=r1;have mono:∀b zs,H1' b=some (.tup zs)->H1 b=some (.tup zs):=fun b zs q=>e1.2.1 _ _ q
     have hq:qs.length=ys.length:=by rw [<-ra.length,<-hl,<-hk,List.length_map]
     refine ⟨a,qs,ys,ob,rfl,e1.2.1 _ _ h1,n.tk mono,hq,h _ H1 H1' s1 e1 ?_⟩;rw [show (ks.zip ds).map (fun p=>D.tup [B0 p.1,p.2])=((qs.map fun q=>B0 q.1).zip ds).map fun p=>D.tup [p.1,p.2] by rw [<-hk,List.zip_map_left,List.zip_map_left,List.map_map,List.map_map];rfl];exact Hu (fun H s=>⟨s _ _ h1,n.tk fun b zs q=>s _ _ q⟩) (Rx fun q hq=>(n.2.1 q hq).1) ra
   . exact h.elim
 . exact h.elim⟩
noncomputable def valN {α:Type} (ks:List NK) (xs:List α) (k:NK):Option α:=((ks.zip xs).find? fun p=>decide (p.1=k)).map (·.2)
section
open HT
open PySem.SeqAt
open PySem.AutoSeq1 (wpAny_loadPart')
open PySem.MeetsSeq PySem.MeetsSeq2 PySem.MeetsSeq3
end
end L2
namespace L2
open PySem PySem.Spec PyProof.Rows
structure FnAt (K:Frag) (x:Str) (st:Stmt) (f:Addr):Prop where
 ns:nsIn K mainGlobals x=some (some (.ref f))
 fn:∃fd,Fun K x x st f fd
section
variable {P:Program} {w:World} {K:Frag} {mg:Str->Option Value} {base h:Heap} {x:Str} {st:Stmt} {f:Addr} {ps:List Str} {k:Nat} {sp:Sp}
theorem fat {oc:Value} {od an:Option Addr} {osl:Array (Option Value)} {kV doc pm cdv ct:Value} (a:nsIn K mainGlobals x=some (some (.ref f))) (l:K.lookup f=some ⟨oc,od,.func (PySem.W.fnOf x x (J8 st) (y9 st) (d9 st) .none kV doc pm an cdv ct),osl⟩)
 (c:codeIn K cdv x=true) (k:keepIn K (.ref f)=true):FnAt K x st f:=⟨a,_,qU l c k⟩
theorem Nn (h:us.length=1):∃a,us=[a]:=match us,h with | [a],_=>⟨a,rfl⟩
theorem Nm (h:us.length=2):∃a b,us=[a,b]:=match us,h with | [a,b],_=>⟨a,b,rfl⟩
theorem y02 (h:us.length=3):∃a b c,us=[a,b,c]:=match us,h with | [a,b,c],_=>⟨a,b,c,rfl⟩
theorem got (X:K.In h) (G:h.Ns mainGlobals mg) (A:FnAt K x st f) (ok:∀{fd},Fun K x x st f fd->FnOk P w K mg base (CX1 P w) k f fd ps sp)
  (hb:∀(kV doc pm:Value) (an:Option Addr) (cdv ct:Value) (us:List Value),us.length=ps.length->bindArgs (PySem.W.fnOf x x (J8 st) (y9 st) (d9 st) .none kV doc pm an cdv ct) ⟨us,[]⟩=pure (ps.zip us):=by intro _ _ _ _ _ _ us hl;first | (obtain ⟨_,rfl⟩:=Nn hl;rfl) | (obtain ⟨_,_,rfl⟩:=Nm hl;rfl) | (obtain ⟨_,_,_,rfl⟩:=y02 hl;rfl) | (obtain ⟨_,_,_,_,rfl⟩:=lenE4 hl;rfl)):i0 P w K mg base x ps k sp:=by
 obtain ⟨fd,F⟩:=A.fn
 exact ⟨f,fd,ok F,F.binds hb,PySem.W.mg_of X G A.ns,F.kp⟩
theorem kM (X:K.In h) (G:h.Ns mainGlobals mg) (hfa:mg x=some (.ref fa)) (A:FnAt K x st f) (hb:∀(s:Shared) (v kV doc pm:Value) (an:Option Addr) (cdv ct:Value),BindsTo s (PySem.W.fnOf x x (J8 st) (y9 st) (d9 st) .none kV doc pm an cdv ct) ⟨[v],[]⟩ [(z,v)])
  (ok:∀base:Heap,K.In base->base.Ns mainGlobals mg->∀{fd},Fun K x x st f fd->FnOk P w K mg base (CX1 P w) k f fd ps sp) :
  ∃fd:FuncData,(∀(s:Shared) (v:Value),BindsTo s fd ⟨[v],[]⟩ [(z,v)])/\∀base:Heap,K.In base->base.Ns mainGlobals mg->FnOk P w K mg base (CX1 P w) k fa fd ps sp:=by
 have e:=hfa.symm.trans (PySem.W.mg_of X G A.ns)
 cases e
 obtain ⟨fd,F⟩:=A.fn
 have F':=F
 obtain ⟨oc,od,kV,doc,pm,an,cdv,ct,osl,rfl,lk,hcd⟩:=F'.ex
 exact ⟨_,fun s v=>hb s v _ _ _ _ _ _,fun base kb nb=>ok base kb nb F⟩
theorem fsc (a:sc.kind=.function:=by rfl) (b:sc.isCoroutine=false:=by rfl) (c:sc.isGenerator=false:=by rfl) (d:N.Nodup:=by decide +kernel) (e:N.take ps.length=ps:=by rfl)
 (f:∀x∈ps,sc.names.lookup x=some .local\/sc.names.lookup x=some .cell:=by decide +kernel) (g:∀y∈sc.names,y.2≠.free:=by decide +kernel):FnScope N ps sc:=⟨a,b,c,d,e,f,g⟩
end
section
variable {X:Cx} {EX:XW} {fr fr':Bool} {a b e:Expr} {f g:DE->R D} {pos p:Pos} {m:List Bool} {j:Nat}
theorem qI (hr:Room j X.A) (ha:QE X EX false a f) (hb:QE X EX false b g) (hs:Kd b:=by exact fun _ _=>rfl):QE X EX false (.Subscript a b pos) (eOp dIx f g):=Fm (y2c hr.units) jg ha hb hs
theorem qL (hm:X.mg "len"=none) (ha:QE X EX false e f) (hg:Gl X "len":=by rfl) (he:starEach [e] X.env=(false,eval e X.env)::starEach [] X.env:=by rfl) (hpl:(backTo pos (starEach [] X.env)).any (·.1)=false:=by rfl) :
 QE X EX false (.Call (.Name "len" p) [e] [] pos) (eCB m5 (a8 f b8)):=z7 qz qy hg hm PySem.boot_len (a9 ha b9 he) (he:=he) (hpl:=hpl)
theorem sA (i:Nat) (hN:X.N.Nodup) (he:QE X EX fr' e f) (hi:X.N[i]?=some x:=by rfl) (hx:Loc X.env.scope x:=by first | exact .inl rfl | exact .inr rfl) (hs:swapsWith e (some (.Name x pos')) pos.line X.env=pure false:=by rfl) (hf:X.fn x=true\/X.env.scope.names.lookup x=some .local:=by first | exact .inl rfl | exact .inr rfl | assumption) :
 QS X EX fr (.Assign [.Name x pos'] e pos) (i4 fr' i m f):=jd hN hi hx he hs hf
theorem tE (hr:Room j X.A) (ha:QE X EX false a f) (hb:QE X EX false b g) (hm:behindInMarks .Eq b=false):QT X EX (.Compare a [.Eq] [b] pos) (c9 asB (eOp dEq f g)):=j9 (G9 hr.units) G8 ha hb hm
theorem tN (hr:Room j X.A) (ha:QE X EX false a f) (hb:QE X EX false b g) (hm:behindInMarks .NotEq b=false):QT X EX (.Compare a [.NotEq] [b] pos) (c9 asB (eOp dNe f g)):=j9 (jm hr.units) jk ha hb hm
end
section
open PySem.AutoSeq1 (wpAny_loadPart')
abbrev enO (i:Addr):Obj:={ cls:=.type "enumerate",data:=.fields #[.none,.bool false,.ref i,rawInt 0,.none,.none] }
abbrev eH (h:Heap) (l:Addr):Heap:=(h.push (u7 l 0)).push (enO h.objs.size)
theorem zA (l:Addr) (items:Array Value) (ot:Obj) (hc:ot.cls=.type "tuple") (n:Nat) (hd:ot.data=.seq items n) :
  Meets (Builtin.«enumerate.__new__» ⟨[.type "enumerate",.ref l],[]⟩) (fun _ R s=>s.heap.get? l=some ot/\R (.ok (.ret (.ref (s.heap.push (u7 l 0)).objs.size))) { s with heap:=eH s.heap l }):=by
 refine .of_wp fun prog w A R s z=>?_
 have se:=sub_enumerate
 have tt:s.heap.IsTuple l items:=⟨_,z.1,hc,n,hd⟩
 have k:=z.2
 have t1:=z.1
 obtain ⟨oc,od,odt,osl⟩:=ot
 dsimp only at hc hd
 subst hc hd
 obtain ⟨hp,g,dr,tk,os⟩:=s
 wp_walk using wpAny_loadPart' t1
 refine wpAny_stack_any fun fr=>?_
 refine ω ?_
 split
 . rename_i c _ _ _ _ _;generalize (c==Value.type "enumerate")=bb;cases bb<;>(wp_walk using wpAny_loadPart' t1,wpAny_pyIter_tuple tt;exact ⟨_,rfl,k⟩)
 . wp_walk using wpAny_loadPart' t1,wpAny_pyIter_tuple tt
   exact ⟨_,rfl,k⟩
theorem yY {prog:Program} {w:World} {A:Around} {E:Value->Shared->Prop} {s:Shared} {l:Addr} {items:Array Value} {Q:Value->Shared->Prop} (hL:s.heap.IsTuple l items)
  (h:∀h',IsEnum h' (s.heap.objs.size+1) s.heap.objs.size 0 .none->h'.get? s.heap.objs.size=some (u7 l 0)->h'.objs.size=s.heap.objs.size+2->(∀b o,s.heap.get? b=some o->h'.get? b=some o)->Q (.ref (s.heap.objs.size+1)) { s with heap:=h' }):wpAny (model prog w) A (call (.type "enumerate") [.ref l]) Q E s:=by
 obtain ⟨ot,hl,hc,n,hd⟩:=hL
 have z1:(s.heap.push (u7 l 0)).objs.size=s.heap.objs.size+1:=Heap.size_push ..
 have e2:(eH s.heap l).get? (s.heap.objs.size+1)=some (enO s.heap.objs.size):=z1 ▸ Ξ (s.heap.push (u7 l 0)) (o:=enO s.heap.objs.size) rfl
 have e1:(eH s.heap l).get? s.heap.objs.size=some (u7 l 0):=Ψ _ (Ξ _ rfl)
 refine callType_new F.called_enumerate (by decide) (F.typeCall_enumerate_1 _) (F.newCall_enumerate_1 _) (fun v=>F.args_object_init_2 v _) F.entry_enumerate_new (zA l items ot hc n hd) ⟨hl,?_⟩
 show _/\_
 rw [z1]
 exact ⟨⟨_,e2,rfl⟩,h _ e2 e1 (by rw [Heap.size_push,z1]) fun b o q=>Ψ _ (Ψ _ q)⟩
theorem Ll (hh:A.handled=none) (it l:Addr) (hne:l≠it) (items:Array Value) :
  Draws prog w A it [it,l] items.size (fun i v=>items[i]?=some v) (fun i h=>h.get? it=some (u7 l i)/\h.IsTuple l items) where
 live:=fun _ _ st=>⟨_,st.1⟩
 frame:=fun _ _ _ st hk=>⟨hk it (by simp) _ st.1,let ⟨o,ho,r⟩:=st.2;⟨o,hk l (by simp) o ho,r⟩⟩
 item:=fun i s Q E hi st hQ=>by refine yq st.1 st.2 (x:=items[i]) (by simp [hi]) prog w E Q ?_;have hs:Heap.SameBut it s.heap (s.heap.update it (up1 i)):=Heap.SameBut.update ..;refine hQ _ _ s.toks (by simp [hi]) ⟨?_,let ⟨o,ho,r⟩:=st.2;⟨o,(hs.2 l hne).trans ho,r⟩⟩ hs;rw [Heap.get?_update_self _ st.1 rfl];simp [u7,Obj.mapFields,rawInt]
 done:=fun s Q E st hE=>xB hh st.1 st.2 (by simp) prog w E Q fun h' e k hs=>hE h' e (fun b o hb q=>k b o hb q) hs
end
theorem xv {prog:Program} {w:World} {A:Around} {E:Value->Shared->Prop} {s:Shared} {e it:Addr} {fp:List Addr} {n i:Nat} {P:Nat->Value->Prop} {St:Nat->Heap->Prop} {Q:Option Value->Shared->Prop} (D:Draws prog w A.in1 it fp n P St) (hei:e≠it) (hef:e∉fp) (hi:i<n)
  (he:∃old,IsEnum s.heap e it i old) (h1:St i s.heap)
  (q:∀T vals h' tk,(∃t x,P i x/\vals=#[.int i t,x])->s.heap.objs.size<=T->IsTp h' T vals->((∃x,IsEnumOut h' e it ((i:Int)+1) x T)/\St (i+1) h'/\T≠e/\T≠it)->(∀c o,c∉[e,it]->s.heap.get? c=some o->h'.get? c=some o)->Q (some (.ref T)) { s with heap:=h',toks:=tk }) :
  wpAny (model prog w) A (pyNext (.ref e)) Q E s:=by
 obtain ⟨old,he⟩:=he
 have gt:∀{c:Addr} {o:Obj},s.heap.get? c=some o->s.heap.objs.size≠c:=fun e z=>absurd (Φ e) (by rw [z];exact Nat.lt_irrefl _)
 have n1:s.heap.objs.size≠it:=by obtain ⟨_,e⟩:=D.live _ _ h1;exact gt e
 refine wpAny_pyNext_enum_itemD D he h1 hi hei hef fun x h' tk p r1 r2 r3 _ kp=>?_
 have kl:∀c o,c∉[e,it]->s.heap.get? c=some o->h'.get? c=some o:=fun c o hc e=>by simp only [List.mem_cons,List.not_mem_nil,or_false,not_or] at hc;exact kp c o hc.1 hc.2 e
 exact q s.heap.objs.size #[.int i tk,x] h' (tk+1) ⟨_,_,p,rfl⟩ (ζ _) (.mk' r3) ⟨⟨_,r1⟩,r2,gt he,n1⟩ kl
theorem yX {P:Program} {w:World} {K:Frag} {elts:List Expr} {k:Nat} {pos:Pos} {e it l:Addr} {xs:List V} (hei:e≠it) (hle:l≠e) (hli:l≠it) :
  Turn P w K (.Tuple elts k pos) (ItP (fun H=>Rd H l (.tup xs)) ((F9 0 xs.length).zip xs)) [e,it] e (fun i h=>(∃old,IsEnum h e it i old)/\h.get? it=some (u7 l i)) where
 mem:=by simp
 obj:=fun i h ⟨⟨old,he⟩,h1⟩ c hc=>by
  have hc':c=e\/c=it:=by simpa using hc
  rcases hc' with rfl | rfl
  . exact ⟨_,he,fun v z=>by cases z⟩
  . exact ⟨_,h1,fun v z=>by cases z⟩
 keep:=fun i h h' ⟨⟨old,he⟩,h1⟩ kp=>⟨⟨old,kp e (by simp) _ he⟩,kp it (by simp) _ h1⟩
 item:=by
  intro X hP hw hK hc i pins s σ H E I hf st hg;subst hP hw hK;obtain ⟨hS,hlt⟩:=hg;obtain ⟨he,h1⟩:=st;obtain ⟨its,r,p1,z1⟩:=I.tuple (.inl hS);have W:=WalksT.enumerateD (prog:=X.prog) (w:=X.w) (A:=X.A) (Ll (A:=X.A.in1) (I.ok.hd hc) it l hli its.toArray) e hei (by simp [hei,Ne.symm hle]) (by simp);have DD:=Ll (prog:=X.prog) (w:=X.w) (A:=X.A.in1) (I.ok.hd hc) it l hli its.toArray;have le1:=r.length;have hlx:i<xs.length:=by rw [List.length_zip,Dz] at hlt;lia
  have hlz:i<its.toArray.size:=by simp only [List.size_toArray];lia
  refine xv DD hei (by simp [hei,Ne.symm hle]) hlz he ⟨h1,p1⟩ fun T vals h' tk hPt hT ht hM hk=>⟨.ref T,rfl,?_⟩
  refine W.go elts k pos i T _ _ _ hM fun h'' hst'' hk''=>?_
  obtain ⟨t,x,hx,rfl⟩:=hPt;obtain ⟨a,ea⟩:∃a,xs[i]?=some a:=⟨xs[i],by simp⟩;obtain ⟨u1,q1,ru1⟩:=r.get ea;have hx':its[i]?=some x:=by simpa using hx
  rw [q1] at hx';cases hx';obtain ⟨oT,hoT,hcT,nT,hdT⟩:=ht;have ht'':IsTp h'' T ([.int (i:Nat) t,x]:List Value).toArray:=⟨oT,hk'' T oT (W.apart i T _ hM) hoT,hcT,nT,hdT⟩;have sub:∀c∈[e,it],o6 X pins H c:=fun c hc'=>hf c hc'
  have I2:=I.turnedT (tk:=tk) (xs:=[.int (i:Nat),a]) (its:=[.int (i:Nat) t,x]) sub (fun c o hcw z=>hk'' c o hcw (hk c o hcw z)) hT ht'' (.cons ⟨_,rfl⟩ (.cons ru1 .nil)) Hy;have HT:H T=none:=I.hok.fresh hT;refine ⟨.ref T,upd H T (.tup [.int (i:Nat),a]),I2,rfl,⟨T,.int (i:Nat),a,rfl,HT,rfl,?_⟩,⟨hst''.1,hst''.2.1⟩,fun c hc'=>?_⟩
  . rw [List.getElem?_zip_eq_some];refine ⟨?_,ea⟩;rw [Te 0 _ _ hlx];simp
  . rw [d7]
    . exact (hf c hc').1
    . intro ec;have hh:∃o,s.heap.get? c=some o:=by
       have hc'':c=e\/c=it:=by simpa using hc'
       obtain ⟨old,he'⟩:=he;rcases hc'' with z | z<;>subst z
       . exact ⟨_,he'⟩
       . exact ⟨_,h1⟩
      obtain ⟨o,ho⟩:=hh;exact absurd (Nat.lt_of_lt_of_le (Φ ho) hT) (by rw [ec];exact Nat.lt_irrefl _)
 done:=by
  intro X hP hw hK hc i pins s σ H E I hf st hg;subst hP hw hK;obtain ⟨hS,hle'⟩:=hg;obtain ⟨he,h1⟩:=st;obtain ⟨its,r,p1,z1⟩:=I.tuple (.inl hS);have W:=WalksT.enumerateD (prog:=X.prog) (w:=X.w) (A:=X.A) (Ll (A:=X.A.in1) (I.ok.hd hc) it l hli its.toArray) e hei (by simp [hei,Ne.symm hle]) (by simp);have le1:=r.length;have hi:its.toArray.size=i:=by rw [List.length_zip,Dz] at hle';simp only [List.size_toArray];lia
  rw [<-hi] at h1 he;exact W.done s _ _ ⟨he,h1,p1⟩ fun h' tk hk=>⟨rfl,I.turnedN (fun c hc'=>hf c hc') (fun b o hb=>hk b o (fun z=>hb z))⟩
 self:=fun A i s Q E st h=>by obtain ⟨⟨old,he⟩,_⟩:=st;exact wpAny_pyIter_enum he h
section
variable {X:Cx} {a:Expr} {ta:TA} {p pos tpos:Pos} {elts:List Expr} {k:Nat} {EX:XW} {fs:DE->R (List D)}
def kL (ta:TA):TI:=fun σ H R=>ta σ H fun vs H1=>match vs with
 | [.ref l]=>∃xs,Rd H1 l (.tup xs)/\R (ItP (fun H=>Rd H l (.tup xs)) ((F9 0 xs.length).zip xs)) H1
 | _=>False
theorem xu (hg:Gl X "enumerate") (hm:X.mg "enumerate"=none) (ha:PA X [a] ta) (hs:starEach [a] X.env=[(false,eval a X.env)]:=by rfl) :
  PI X (.Tuple elts k tpos) (.Call (.Name "enumerate" p) [a] [] pos) (kL ta):=by
 intro pins s σ H R I h
 refine Call_ (N7 I hg hm boot_enumerate (PyProof.Rows.callWith_type1 (thn (ha pos pins s σ H _ I h) fun us s1 ⟨vs,H1,I1,r1,q1⟩=>?_) hs rfl))
 dsimp only at q1
 split at q1
 . rename_i l;obtain ⟨xs,e1,q⟩:=q1;obtain ⟨u,rfl,ru⟩:=D4 r1;cases ru;obtain ⟨its1,rr1,p1,_⟩:=I1.tuple (.inl e1);have lt1:l<s1.heap.objs.size:=by obtain ⟨o,ho,_⟩:=id p1;exact Φ ho
   refine yY p1 fun h' he hi hsz hk=>?_
   refine wpAny_pyIter_enum he ⟨s1.heap.objs.size+1,[s1.heap.objs.size+1,s1.heap.objs.size],_,_,H1,rfl,I1.kept (t':=s1.toks) hk,yX (Nat.succ_ne_self _) (Nat.ne_of_lt (Nat.lt_succ_of_lt lt1)) (Nat.ne_of_lt lt1),⟨⟨_,he⟩,hi⟩,fun c hc=>?_,q⟩;have hc':s1.heap.objs.size<=c:=by
    have:c=s1.heap.objs.size+1\/c=s1.heap.objs.size:=by simpa using hc
    rcases this with z | z<;>rw [z]<;>first | exact Nat.le_add_right _ _ | exact ζ _
   exact I1.fpOk hc' (I1.hok.fresh hc')
 . exact q1.elim
def Bk (fs:DE->R (List D)):DE->R (List D):=fun ρ=>(fs ρ).bind fun ds=>R.of (match ds with
 | [.tup es]=>some (((zD 0 es.length).zip es).map fun p=>D.tup [p.1,p.2])
 | _=>none)
theorem y03 (hg:Gl X "enumerate") (hm:X.mg "enumerate"=none) (ha:QA X EX [a] fs) (hs:starEach [a] X.env=[(false,eval a X.env)]:=by rfl) :
  QI X EX false (.Tuple elts k tpos) (.Call (.Name "enumerate" p) [a] [] pos) (Bk fs):=⟨(xu hg hm ha.h hs).imp fun σ H Q ⟨sx,ρ,H0,s,e,h⟩=>by
 unfold Bk at h
 rw [Rk.bind] at h
 refine TAd.go sx s e h fun ds h vs H1 H1' s1 e1 r1=>?_
 obtain ⟨es,hd,h⟩:=h.of
 split at hd<;>first | cases hd | skip
 obtain ⟨x,rfl,q1⟩:=r1.uno
 obtain ⟨l,xs,rfl,hl,rl⟩:=q1.tup
 refine ⟨xs,.inl (e1.2.1 _ _ hl),h _ H1 H1' s1 e1 ?_⟩
 rw [rl.length]
 exact Hu (fun H s=>.inl (s _ _ hl)) (Oa _ _) rl⟩
end
end L2
namespace L2
open PySem PySem.Spec PyProof.Rows
structure FnQ (P:Program) (w:World) (K:Frag) (mg:Str->Option Value) (base:Heap) (f:Addr) (fd:FuncData) (ps:List Str) (sp:Sp):Prop where
 len:∀vs H Q E,sp vs H Q E->vs.length=ps.length
 run:∀(A:Around) (e:Value) (outer:List Env) (s:Shared) (H:Hp) (args:Args) (us:List Value) (vs:List V) (Q:VK) (E:XK),A.handled=some e->A.depth+8<recursionLimit->Env0 P w K mg base A outer s H->BindsTo s fd args (ps.zip us)->Vals vs us->sp vs H Q E ->
  codeAny (model P w) A (.call (.ref f) args) (CR (CX1 P w) outer P w H s Q E) s
theorem Room.dpQ (r:Room (k+1) A):A.depth+8<recursionLimit:=by have:=r.dp;lia
theorem kK {P:Program} {w:World} {K:Frag} {mg:Str->Option Value} {base:Heap} {f:Addr} {name qual:Str} {params:Arguments} {body:List Stmt} {scope:Scope} {dV kV doc pm cdv ct oc:Value} {an od:Option Addr}
  {osl:Array (Option Value)} {N ps:List Str} {sp:Sp} (lk:K.lookup f=some ⟨oc,od,.func (PySem.W.fnOf name qual params body scope dV kV doc pm an cdv ct),osl⟩) (hcd:codeIn K cdv qual=true) (S:FnScope N ps scope)
  (len:∀vs H Q E,sp vs H Q E->vs.length=ps.length)
  (hbody:∀(A:Around) (outer:List Env) (s:Shared) (H:Hp) (vs:List V) (Q:VK) (E:XK) (e:Value),sp vs H Q E ->
   ∃t,PSs ((x5 (CX1 P w) P w K mg base N qual scope f cdv A outer s H E).held e) body t/\t { nx:=fun _ H'=>Q .non H',rt:=Q } (start N vs) H) :
  FnQ P w K mg base f (PySem.W.fnOf name qual params body scope dV kV doc pm an cdv ct) ps sp:=by
 refine ⟨len,fun A ex outer s H args us vs Q E hA hdp e0 hb r hsp=>?_⟩
 obtain ⟨hd,d,frm,gd,un⟩:=A
 obtain rfl:hd=some ex:=hA
 have hl:=len _ _ _ _ hsp
 have KX:K.In s.heap:=e0.mod.kin.keeps fun b o e=>(e0.bs b o e).1
 have lim:s.heap.NoLimit:=e0.mod.nolimit.keeps fun b o e=>(e0.bs b o e).1
 have hkind:∀y∈ps.zip us,scope.names.lookup y.1=some .local\/(scope.names.lookup y.1=some .cell/\((cellsFrom (s.heap.objs.size+1) scope.names []).lookup y.1).isSome=true):=fun ⟨n,v⟩ hy=>by
  rcases S.par n (List.of_mem_zip hy).1 with q | q
  . exact .inl q
  . exact .inr ⟨q,PySem.W.cellsFrom_some _ _ _ (.inl q)⟩
 refine codeAny_call_function (by show d<recursionLimit;have:d+8<recursionLimit:=hdp;lia) (KX _ _ lk) rfl S.co S.gen rfl (PySem.W.codeRec_of KX hcd) (hb _ _ _ _ ?_)
 refine wpAny_newFunctionEnv_cells S.kind hkind fun env he s1 x=>?_
 subst he
 refine ⟨lim.keeps x.toInCall.keep,codeAny_func ?_⟩
 obtain ⟨t,ht,hq⟩:=hbody ⟨none,d,frm,gd,un⟩ outer s H vs Q E ex hsp
 have e1:Env0 P w K mg base ⟨none,d,frm,gd,un⟩ outer s H:=⟨e0.frames,e0.mod,e0.bs,e0.bsz,e0.funs,e0.frf,e0.hok,e0.bare⟩
 have I0:Inv (x5 (CX1 P w) P w K mg base N qual scope f cdv ⟨none,d,frm,gd,un⟩ outer s H E) [] (start N vs) H s1:=Vc S rfl e1 hl r x
 have I:=I0.held ex
 refine wpAny_mono (ht [] s1 (start N vs) H _ I hq) (fun fl s' hs=>?_) fun e s' hs=>hs.elim
 have fin:∀{σ':St} {H':Hp} {v:V} {u:Value},Inv ((x5 (CX1 P w) P w K mg base N qual scope f cdv ⟨none,d,frm,gd,un⟩ outer s H E).held ex) [] σ' H' s'->RelV v u->Q v H'->CE outer P w H s Q u s':=
  fun {σ' H' v u} J rv q=>⟨v,H',J.os,J.bare,J.base,J.hok,rv,q⟩
 cases fl with
 | ret u=>
  obtain ⟨v,σ',H',J,rv,q⟩:=hs
  exact fin J rv q
 | next=>
  obtain ⟨σ',H',J,q⟩:=hs
  exact fin (v:=V.non) (u:=Value.none) J rfl q
 | brk=>
  obtain ⟨_,_,_,q⟩:=hs
  exact False.elim q
 | cont=>
  obtain ⟨_,_,_,q⟩:=hs
  exact False.elim q
theorem vT {K:Frag} {fr:Bool} {H:Hp} {n k:Nat} {g:DS->SR} {vs:List V} {Q:VK} {E:XK} (h:spL K fr (mOf fr n k g) n vs H Q E) :
  TSd K F0 fr g { nx:=fun _ H'=>Q .non H',rt:=Q } (vs.map some++List.replicate k none) H:=by
 obtain ⟨ds,H0,s,r,hn,h⟩:=h
 refine ⟨H0,H,H0,_,fun _ _ z=>(nomatch z),Uf s r k,?_⟩
 unfold mOf at h
 rw [ξ hn] at h
 cases q:g (ds.map .im++List.replicate k .em) with
 | nx ρ=>
  rw [q] at h
  cases fr with
  | true=>exact h.elim
  | false=>exact fun σ H' H0' I=>h _ H' (.val I.sb I.ext (by simp only [RD]))
 | rt d=>rw [q] at h;exact h
 | er x=>rw [q] at h;exact h.elim
 | bk ρ=>rw [q] at h;exact h.elim
 | ct ρ=>rw [q] at h;exact h.elim
 | st=>rw [q] at h;exact h.elim
theorem fnQ {P:Program} {w:World} {K:Frag} {mg:Str->Option Value} {base:Heap} {x qual:Str} {st:Stmt} {f:Addr} {fd:FuncData} {N ps:List Str} {n kk:Nat} {fr:Bool} {g:DS->SR} (F:Fun K x qual st f fd) (S:FnScope N ps (d9 st)) (hps:ps.length=n) (hN:N.length=n+kk)
  (hbody:∀(cdv:Value) (A:Around) (outer:List Env) (s:Shared) (H:Hp) (E:XK) (e:Value),QB ((x5 (CX1 P w) P w K mg base N qual (d9 st) f cdv A outer s H E).held e) F0 fr (y9 st) g) :
  FnQ P w K mg base f fd ps (spL K fr (mOf fr n kk g) n):=by
 have hlen:∀{vs:List V} {H:Hp} {Q:VK} {E:XK},spL K fr (mOf fr n kk g) n vs H Q E->vs.length=n:=fun {vs H Q E} h=>by obtain ⟨ds,H0,s,r,hn,_⟩:=h;rw [<-r.length];exact hn
 obtain ⟨oc,od,kV,doc,pm,an,cdv,ct,osl,rfl,lk,hcd⟩:=F.ex
 refine kK lk hcd S (fun vs H Q E h=>by rw [hlen h,hps]) fun A outer s H vs Q E e h=>⟨_,(hbody cdv A outer s H E e).h,?_⟩
 have e':start N vs=vs.map some++List.replicate kk none:=by unfold start;rw [hlen h,hN,Nat.add_sub_cancel_left]
 rw [e']
 exact vT h
theorem vS {K:Frag} {fr:Bool} {σ:St} {H:Hp} {E:XK} {m:List D->R D} {n:Nat} {fs:DE->R (List D)} {Q:VK} (hl:∀ds,ds.length≠n->m ds=.st) (h:TEd K F0 fr (e8 m fs) σ H Q):U6 (spL K fr m n) E (TAd K F0 fs) σ H Q:=by
 obtain ⟨sx,ρ,H0,s,e,h⟩:=h;unfold e8 at h;rw [Rk.bind] at h;refine TAd.go sx s e h fun ds h vs H1 H1' s1 e1 r1=>?_
 refine ⟨ds,H1',e1.2.1,r1,?_,?_⟩
 . apply Classical.byContradiction;intro hn;rw [hl ds hn] at h;exact h
 . cases q:m ds with
   | ok d=>rw [q] at h;exact fun v H' o=>h v H' (o.after s1 e1)
   | er x=>rw [q] at h;exact h (fun _=>none) (fun _ _ z=>nomatch z)
   | st=>rw [q] at h;exact h
def W4 (P:Program) (w:World) (K:Frag) (mg:Str->Option Value) (base:Heap) (x:Str) (ps:List Str) (sp:Sp):Prop:=
 ∃f fd,FnQ P w K mg base f fd ps sp/\Binds K fd ps []/\mg x=some (.ref f)/\keepIn K (.ref f)=true
section
variable {X:Cx} {x:Str} {p pos:Pos} {e:Expr} {es:List Expr} {ps:List Str} {sp:Sp} {E:XK} {ev:Value}
theorem xt (G:W4 X.prog X.w X.K X.mg X.base x ps sp) (hx:Z3 (CX1 X.prog X.w) X E) (hA:X.A.handled=some ev) (hdp:X.A.depth+8<recursionLimit) (hg:Gl X x) (ha:PA X (e::es) t) (hdb:(x==("__debug__":Str))=false:=by decide)
  (he:starEach (e::es) X.env=(false,eval e X.env)::starEach es X.env:=by rfl) (hpl:(backTo pos (starEach es X.env)).any (·.1)=false:=by rfl):PE X (.Call (.Name x p) (e::es) [] pos) (U6 sp E t):=by
 obtain ⟨f,fd,F,b,m,kp⟩:=G
 intro pins s σ H Q I h
 refine wpAny_Call_Name_kw (V0 I hg m ?_ hdb)
 refine PySem.W.callWith_K (h₀:=X.base) I.ok.mod.kin kp (thn (ha pos pins s σ H _ I h) fun us s1 ⟨vs,H1,I1,r,q⟩=>⟨I1.kIn,?_⟩) he hpl
 have hl:us.length=ps.length:=by rw [<-r.length];exact F.len _ _ _ _ q
 have hb:=b s1 us I1.kIn (by rw [List.append_nil];exact hl)
 rw [List.append_nil] at hb
 refine wpAny_call (codeAny_mono (F.run X.A ev X.stack s1 H1 ⟨us,[]⟩ us vs Q E hA hdp I1.env0 hb r q) fun r s' hq=>?_)
 cases r with
 | error e=>exact hx pins σ H1 s1 e s' I1 hq
 | ok fl=>
  cases fl with
  | ret u=>exact I1.after hq
  | next=>exact False.elim hq
  | brk=>exact False.elim hq
  | cont=>exact False.elim hq
theorem kJ (G:W4 X.prog X.w X.K X.mg X.base x ps (spL X.K fr (mOf fr n kk gg) n)) (hA:X.A.handled=some ev) (hdp:X.A.depth+8<recursionLimit) (hg:Gl X x) (ha:QA X F0 (e::es) fs) (hdb:(x==("__debug__":Str))=false:=by decide)
  (he:starEach (e::es) X.env=(false,eval e X.env)::starEach es X.env:=by rfl) (hpl:(backTo pos (starEach es X.env)).any (·.1)=false:=by rfl):QE X F0 fr (.Call (.Name x p) (e::es) [] pos) (e8 (mOf fr n kk gg) fs):=
 ⟨(xt (E:=fun _ _ _=>False) G (fun _ _ _ _ _ _ _ ⟨_,_,_,_,_,_,z⟩=>z.elim) hA hdp hg ha.h hdb he hpl).imp fun _ _ _ q=>vS Jy q⟩
end
theorem y2k {P:Program} {w:World} {K:Frag} {mg:Str->Option Value} {base h:Heap} {x:Str} {st:Stmt} {f:Addr} {ps:List Str} {sp:Sp} (X:K.In h) (G:h.Ns mainGlobals mg) (A:FnAt K x st f) (ok:∀{fd},Fun K x x st f fd->FnQ P w K mg base f fd ps sp)
  (hb:∀(kV doc pm:Value) (an:Option Addr) (cdv ct:Value) (us:List Value),us.length=ps.length->bindArgs (PySem.W.fnOf x x (J8 st) (y9 st) (d9 st) .none kV doc pm an cdv ct) ⟨us,[]⟩=pure (ps.zip us):=by intro _ _ _ _ _ _ us hl;first | (obtain ⟨_,rfl⟩:=Nn hl;rfl) | (obtain ⟨_,_,rfl⟩:=Nm hl;rfl)):W4 P w K mg base x ps sp:=by
 obtain ⟨fd,F⟩:=A.fn
 exact ⟨f,fd,ok F,F.binds hb,PySem.W.mg_of X G A.ns,F.kp⟩
section
variable {prog:Program} {w:World} {A:Around} {E:Value->Shared->Prop} {s:Shared} {κ:SortKind} {a₀:Array Keyed} {rk:Keyed->Nat}
noncomputable def tk (rk:Keyed->Nat) (xs:Array Keyed) (i:Nat):Nat:=match xs[i]? with
 | some p=>rk p
 | none=>0
def x6 (prog:Program) (w:World) (A:Around) (E:Value->Shared->Prop) (s:Shared) (κ:SortKind) (a₀:Array Keyed) (rk:Keyed->Nat):Prop:=
 ∀x y,x∈a₀->y∈a₀->∀(st:SortSt) (Q:Option Bool->SortSt->Prop),kindOf st=κ->Q (some (decide (rk x<rk y))) st->wpS (model prog w) A E s (lt' x y) Q st
structure TBs (κ:SortKind) (a₀:Array Keyed) (st:SortSt):Prop where
 perm:(arrOf st).Perm a₀
 kind:kindOf st=κ
 ok:failedOf st=none
def TSo (rk:Keyed->Nat) (xs:Array Keyed) (lo hi:Nat):Prop:=∀i j,lo<=i->i<=j->j<hi->tk rk xs i<=tk rk xs j
theorem i8 (h:i<xs.size):tk rk xs i=rk xs[i]:=by unfold tk;rw [getElem?_pos xs i h]
theorem Du (h:xs[i]?=ys[j]?):tk rk xs i=tk rk ys j:=by unfold tk;rw [h]
theorem TBs.size {st:SortSt} (B:TBs κ a₀ st):(arrOf st).size=a₀.size:=B.perm.size_eq
theorem TBs.mem {st:SortSt} (B:TBs κ a₀ st) {x:Keyed} (h:x∈arrOf st):x∈a₀:=Array.mem_def.mpr ((Array.perm_iff_toList_perm.mp B.perm).mem_iff.mp (Array.mem_def.mp h))
theorem TBs.set {st:SortSt} (B:TBs κ a₀ st) {xs:Array Keyed} (hp:xs.Perm (arrOf st)):TBs κ a₀ (setArr st xs):=⟨hp.trans B.perm,B.kind,B.ok⟩
theorem k6 {st:SortSt} {xs:Array Keyed} {i:Nat} {Q:Keyed->SortSt->Prop} (h:i<xs.size) (q:Q xs[i] st):wpS (model prog w) A E s (elem' xs i) Q st:=by rw [elem'_eq,getElem?_pos xs i h];exact π q
theorem R0 (hc:x6 prog w A E s κ a₀ rk) {st:SortSt} (B:TBs κ a₀ st) {i j:Nat} (hi:i<a₀.size) (hj:j<a₀.size) {Q:Option Bool->SortSt->Prop}
  (h:Q (some (decide (tk rk (arrOf st) i<tk rk (arrOf st) j))) st):wpS (model prog w) A E s (ltAt' i j) Q st:=by
 rw [ltAt'_eq]
 have hi':i<(arrOf st).size:=by rw [B.size];exact hi
 have hj':j<(arrOf st).size:=by rw [B.size];exact hj
 rw [i8 hi',i8 hj'] at h
 refine δ (wpS_get (δ (k6 hi' (δ (k6 hj' ?_)))))
 exact hc _ _ (B.mem (Array.getElem_mem _)) (B.mem (Array.getElem_mem _)) st Q B.kind h
theorem Lk (hj:j<=xs.size) (k:Nat):tk rk (mirror xs i j ((j - i) / 2)) k=if i<=k/\k<j then tk rk xs (i+j - 1 - k) else tk rk xs k:=by
 by_cases h:i<=k/\k<j<;>simp only [h,if_true,if_false]<;>refine Du ?_<;>rw [getElem?_mirror_all hj]
 . rw [ξ h]
 . rw [ψ h]
theorem yo (hs:src<xs.size) (hd:d<=src) (k:Nat) :
  tk rk (bubble xs src d) k=if k=src - d then tk rk xs src else if src - d<k/\k<=src then tk rk xs (k - 1) else tk rk xs k:=by
 have e:=getElem?_bubble hs d hd k
 by_cases h1:k=src - d
 . rw [ξ h1] at e ⊢;exact Du e
 . rw [ψ h1] at e ⊢;by_cases h2:src - d<k/\k<=src
   . rw [ξ h2] at e ⊢;exact Du e
   . rw [ψ h2] at e ⊢;exact Du e
theorem Kq (hj:j<=xs.size) (ha:∀k,i<=k->k<j->tk rk xs k=tk rk xs (j - 1)) (k:Nat):tk rk (mirror xs i j ((j - i) / 2)) k=tk rk xs k:=by
 rw [Lk hj];by_cases h:i<=k/\k<j
 . rw [ξ h,ha (i+j - 1 - k) (by omega) (by omega),ha k h.1 h.2]
 . rw [ψ h]
theorem TSo.step {xs:Array Keyed} {lo n:Nat} (h:TSo rk xs lo (lo+n)) (h1:1<=n) (hn:tk rk xs (lo+n - 1)<=tk rk xs (lo+n)):TSo rk xs lo (lo+(n+1)):=fun i j h0 h1' h2=>by
 by_cases hj:j=lo+n
 . subst hj;by_cases hi:i=lo+n
   . rw [hi];exact ζ _
   . exact Nat.le_trans (h i (lo+n - 1) h0 (by lia) (by lia)) hn
 . exact h i j h0 h1' (by lia)
theorem TSo.one (lo:Nat):TSo rk xs lo (lo+1):=fun i j h0 h1 h2=>by
 obtain rfl:i=j:=by lia
 exact ζ _
structure TL (st st':SortSt) (lo:Nat):Prop where
 low:∀k,k<lo->(arrOf st')[k]?=(arrOf st)[k]?
 pend:pendingOf st'=pendingOf st
theorem TL.refl (st:SortSt) (lo:Nat):TL st st lo:=⟨fun _ _=>rfl,rfl⟩
theorem TL.trans {a b c:SortSt} {lo:Nat} (h:TL a b lo) (k:TL b c lo):TL a c lo:=⟨fun i hi=>(k.low i hi).trans (h.low i hi),k.pend.trans h.pend⟩
theorem TL.mirror {st:SortSt} {lo i j:Nat} (hi:lo<=i) (hj:j<=(arrOf st).size):TL st (setArr st (mirror (arrOf st) i j ((j - i) / 2))) lo:=
 ⟨fun k hk=>by show (PyProof.Rows.mirror (arrOf st) i j ((j - i) / 2))[k]?=_;rw [getElem?_mirror_all hj,ψ (by lia)],rfl⟩
theorem Ch {st:SortSt} {i j:Nat} {Q:Unit->SortSt->Prop} (h:Q () (setArr st (mirror (arrOf st) i j ((j - i) / 2)))):wpS (model prog w) A E s (reverseSlice' i j) Q st:=by rw [reverseSlice'_eq];exact wpS_modify h
theorem TSo.ups' {xs:Array Keyed} {lo a:Nat} (h:TSo rk xs lo (lo+a)) (ha:1<=a):∀{n:Nat},a<=n->(∀i,a<=i->i<n->tk rk xs (lo+i - 1)<=tk rk xs (lo+i))->TSo rk xs lo (lo+n)
 | 0,z,_=>by lia
 | n+1,z,up=>by
  by_cases e:a=n+1
  . rw [<-e];exact h
  . exact (TSo.ups' h ha (n:=n) (by lia) fun i a b=>up i a (by lia)).step (by lia) (up n (by lia) (by lia))
theorem TSo.ups {xs:Array Keyed} {lo n:Nat} (h:TSo rk xs lo (lo+1)) (hn:1<=n) (up:∀i,1<=i->i<n->tk rk xs (lo+i - 1)<=tk rk xs (lo+i)):TSo rk xs lo (lo+n):=h.ups' (ζ _) hn up
theorem U0 {σ:Type} {r:String} {Q:Unit->σ->Prop} {st:σ} (h:Q () st):wpS (model prog w) A E s (liftM (rule r):StateT σ Sem Unit) Q st:=wpS_lift (wpAny_rule ⟨rfl,h⟩)
theorem Yp (mk:Nat->β) (st:σ) (down:Nat->Bool) (hab:a<=b)
  (go:∀x n (Q:ForInStep β->σ->Prop),a<=n->n<b->Q (if down n=true then .done (mk n) else .yield (mk (n+1))) st->wpS (model prog w) A E s (f x (mk n)) Q st)
  (h:∀n,a<=n->n<=b->(∀i,a<=i->i<n->down i=false)->(n<b->down n=true)->Q (mk n) st):wpS (model prog w) A E s (forIn [a:b] (mk a) f) Q st:=by
 refine wpS_forRange (I:=fun x c u=>u=st/\c=mk x/\∀i,a<=i->i<x->down i=false) (fun x c u hx hb hI=>?_) (fun c u hI=>?_) ⟨rfl,rfl,fun i y z=>by lia⟩
 . obtain ⟨rfl,rfl,up⟩:=hI;refine go x x _ hx hb ?_;cases hd:down x
   . exact ⟨rfl,rfl,fun i y z=>by
      by_cases e:i=x
      . rw [e];exact hd
      . exact up i y (by lia)⟩
   . exact h x hx (Nat.le_of_lt hb) up fun _=>hd
 . obtain ⟨rfl,rfl,up⟩:=hI;rw [Nat.max_eq_right hab] at up ⊢;exact h b hab (ζ _) up fun z=>absurd z (Nat.lt_irrefl _)
theorem Po (mk:Nat->Nat->β) (st:σ) (mid:Nat->Nat->Nat) (p:Nat->Bool) (hmid:∀l r,l<r->l<=mid l r/\mid l r<r)
  (go:∀x l r (Q:ForInStep β->σ->Prop),l0<=l->l<r->r<=r0->Q (.yield (if p (mid l r)=true then mk (mid l r+1) r else mk l (mid l r))) st->wpS (model prog w) A E s (f x (mk l r)) Q st)
  (stop:∀x l (Q:ForInStep β->σ->Prop),l<=r0->Q (.done (mk l l)) st->wpS (model prog w) A E s (f x (mk l l)) Q st)
  (mono:∀i j,l0<=i->i<=j->j<r0->p j=true->p i=true) (hl:l0<=r0) (hN:r0<=l0+N)
  (h:∀k,l0<=k->k<=r0->(∀i,l0<=i->i<k->p i=true)->(∀i,k<=i->i<r0->p i=false)->Q (mk k k) st):wpS (model prog w) A E s (forIn [0:N] (mk l0 r0) f) Q st:=by
 have key:∀l r,l0<=l->l<=r->r<=r0->(∀i,l0<=i->i<l->p i=true)->(∀i,r<=i->i<r0->p i=false)->l=r->Q (mk l r) st:=fun l r a b c d e z=>by subst z;exact h l a c d e
 refine wpS_forRange (I:=fun x c u=>u=st/\∃l r,(l0<=l/\l<=r/\r<=r0/\r+x<=l+N)/\c=mk l r/\(∀i,l0<=i->i<l->p i=true)/\∀i,r<=i->i<r0->p i=false)
  (fun x c u _ hb hI=>?_) (fun c u hI=>?_) ⟨rfl,l0,r0,⟨ζ _,hl,ζ _,by lia⟩,rfl,fun i a b=>by lia,fun i a b=>by lia⟩
 . obtain ⟨rfl,l,r,⟨b1,b2,b3,b4⟩,rfl,lt,gt⟩:=hI;by_cases e:l=r
   . subst e;exact stop x l _ b3 (key l l b1 b2 b3 lt gt rfl)
   . have hm:=hmid l r (by lia);refine go x l r _ b1 (by lia) b3 ?_;cases hp:p (mid l r)
     . exact ⟨rfl,l,mid l r,⟨b1,hm.1,by lia,by lia⟩,rfl,lt,fun i a b=>by
        cases hi:p i
        . rfl
        . rw [mono (mid l r) i (by lia) a b hi] at hp;cases hp⟩
     . exact ⟨rfl,mid l r+1,r,⟨by lia,by lia,b3,by lia⟩,rfl,fun i a b=>mono i (mid l r) a (by lia) (by lia) hp,gt⟩
 . obtain ⟨rfl,l,r,⟨b1,b2,b3,b4⟩,rfl,lt,gt⟩:=hI;exact key l r b1 b2 b3 lt gt (by simp only [Nat.zero_max] at b4;lia)
theorem Rv {α:Type} {Q:α->SortSt->Prop} {st:SortSt} {p:Prop} [Decidable p] {t g:StateT SortSt Sem α} (R:SortSt->Prop) (hg:∀u,R u->wpS (model prog w) A E s g Q u) (ht:p->(∀u,R u->wpS (model prog w) A E s g Q u)->wpS (model prog w) A E s t Q st) (hn:¬p->R st):wpS (model prog w) A E s (if p then t else g) Q st:=by
 split
 . exact ht ‹_› hg
 . exact hg _ (hn ‹_›)
theorem vR (hc:x6 prog w A E s κ a₀ rk) {st:SortSt} (B:TBs κ a₀ st) {lo nrem:Nat} (hz:lo+nrem<=a₀.size) (h1:1<=nrem) {Q:Option Nat->SortSt->Prop}
  (h:∀n st',1<=n->n<=nrem->TBs κ a₀ st'->TL st st' lo->TSo rk (arrOf st') lo (lo+n)->Q (some n) st'):wpS (model prog w) A E s (countRun' lo nrem) Q st:=by
 rw [countRun'_eq]
 refine δ (Yp (fun n=>(none,n)) st (fun n=>decide (tk rk (arrOf st) (lo+n)<tk rk (arrOf st) (lo+n - 1))) h1 (fun x n Q a b q=>δ (R0 hc B (by lia) (by lia) ?_)) fun n hn1 hn2 up dn=>?_)
 . by_cases hl:tk rk (arrOf st) (lo+n)<tk rk (arrOf st) (lo+n - 1)
   . simp only [hl,decide_true,if_true] at q ⊢;exact π q
   . simp only [hl,decide_false,Bool.false_eq_true,if_false] at q ⊢;exact π q
 have hs:=TSo.ups (n:=n) (TSo.one (rk:=rk) (xs:=arrOf st) lo) hn1 fun i a b=>by have:=up i a b;simp only [decide_eq_false_iff_not] at this;lia
 have hd:n<nrem->tk rk (arrOf st) (lo+n)<tk rk (arrOf st) (lo+n - 1):=fun z=>by simpa using dn z
 dsimp only
 by_cases hnr:n=nrem
 . rw [ξ (by simp [hnr])];exact π (h n _ hn1 hn2 B (.refl _ _) hs)
 rw [ψ (by simp [hnr])]
 have hd':=hd (by lia)
 have g9:∀(xs:Array Keyed),TSo rk xs lo (lo+n)->¬tk rk xs lo<tk rk xs (lo+n - 1)->∀k,lo<=k->k<lo+n->tk rk xs k=tk rk xs (lo+n - 1):=fun xs hs hr k h0 h1=>by
  have a:=hs lo k (ζ _) h0 h1;have b:=hs k (lo+n - 1) h0 (by lia) (by lia)
  lia
 have ni0:∀(xs:Array Keyed),(∀k,lo<=k->k<lo+n->tk rk xs k=tk rk xs (lo+n - 1))->tk rk xs (lo+n)<tk rk xs (lo+n - 1)->∀i j,lo<=i->i<=j->j<lo+(n+1)->tk rk xs j<=tk rk xs i:=fun xs fl hd i j h0 h1 h2=>by
  by_cases hj:j=lo+n
  . subst hj;by_cases hi:i=lo+n
    . rw [hi];exact ζ _
    . rw [fl i h0 (by lia)];lia
  . rw [fl i h0 (by lia),fl j (by lia) (by lia)];exact ζ _
 refine Rv (fun u=>TBs κ a₀ u/\TL st u lo/\∀i j,lo<=i->i<=j->j<lo+(n+1)->tk rk (arrOf u) j<=tk rk (arrOf u) i) (fun st1 z=>?_) (fun hn J=>?_) fun hn=>⟨B,.refl _ _,ni0 _ (g9 _ hs (by rw [show lo+n - 1=lo by lia];exact Nat.lt_irrefl _)) hd'⟩
 rotate_left
 . refine δ (R0 hc B (by lia) (by lia) ?_);by_cases hr:tk rk (arrOf st) lo<tk rk (arrOf st) (lo+n - 1)
   . rw [decide_eq_true hr];dsimp only;rw [ξ rfl];exact π (h n _ hn1 hn2 B (.refl _ _) hs)
   rw [decide_eq_false hr];dsimp only;rw [ψ η];have hz0:lo+n<=(arrOf st).size:=by rw [B.size];lia
   have fl:=g9 _ hs hr;have ea:=Kq hz0 fl;exact δ (Ch (J _ ⟨B.set (mirror_perm _ _ _ _),.mirror (ζ _) hz0,fun i j h0 h1 h2=>by show tk rk (mirror (arrOf st) _ _ _) j<=tk rk (mirror (arrOf st) _ _ _) i;rw [ea,ea];exact ni0 _ fl hd' i j h0 h1 h2⟩))
 clear g9 ni0 hd hd' hs up dn
 obtain ⟨B1,L1,ni⟩:=z
 refine δ (U0 ?_)
 refine δ (wpS_mono (wpS_forRange (I:=fun x c st2=>TBs κ a₀ st2/\TL st st2 lo/\∃q,c=(none,x,q)/\q+1<=x/\(∀i j,lo<=i->i<=j->j<lo+x->tk rk (arrOf st2) j<=tk rk (arrOf st2) i)/\∀k,lo+x - (q+1)<=k->k<lo+x->tk rk (arrOf st2) k=tk rk (arrOf st2) (lo+x - 1))
  (Q:=fun c st2=>TBs κ a₀ st2/\TL st st2 lo/\∃x q,c=(none,x,q)/\1<=x/\x<=nrem/\q+1<=x/\(∀i j,lo<=i->i<=j->j<lo+x->tk rk (arrOf st2) j<=tk rk (arrOf st2) i)/\∀k,lo+x - (q+1)<=k->k<lo+x->tk rk (arrOf st2) k=tk rk (arrOf st2) (lo+x - 1)) ?step ?fin ⟨B1,L1,0,rfl,by lia,ni,fun k h0 h1=>by rw [show k=lo+(n+1) - 1 by lia]⟩) ?post)
 case fin=>
  rintro c st2 ⟨B2,L2,q,rfl,hq,ni2,al⟩
  rw [show max (n+1) nrem=nrem by lia] at *
  exact ⟨B2,L2,nrem,q,rfl,h1,ζ _,hq,ni2,al⟩
 case post=>
  rintro c st2 ⟨B2,L2,x,q,rfl,hx1,hx2,hq,ni2,al⟩
  have hz2:lo+x<=(arrOf st2).size:=by rw [B2.size];lia
  dsimp only
  refine Rv (fun u=>TBs κ a₀ u/\TL st u lo/\∀i j,lo<=i->i<=j->j<lo+x->tk rk (arrOf u) j<=tk rk (arrOf u) i) (fun st3 z=>?_) (fun hq0 J=>?_) fun _=>⟨B2,L2,ni2⟩
  rotate_left
  . have ea:=Kq hz2 al;exact δ (Ch (J _ ⟨B2.set (mirror_perm _ _ _ _),L2.trans (.mirror (by lia) hz2),fun i j h0 h1 h2=>by show tk rk (mirror (arrOf st2) _ _ _) j<=tk rk (mirror (arrOf st2) _ _ _) i;rw [ea,ea];exact ni2 i j h0 h1 h2⟩))
  obtain ⟨B3,L3,ni3⟩:=z
  have hz3:lo+x<=(arrOf st3).size:=by rw [B3.size];lia
  refine δ (Ch ?_)
  obtain ⟨st4,e4⟩:∃st4,st4=setArr st3 (mirror (arrOf st3) lo (lo+x) ((lo+x - lo) / 2)):=⟨_,rfl⟩
  have B4:TBs κ a₀ st4:=e4 ▸ B3.set (mirror_perm _ _ _ _)
  have L4:TL st st4 lo:=e4 ▸ L3.trans (.mirror (ζ _) hz3)
  have s0:TSo rk (arrOf st4) lo (lo+x):=fun i j h0 h1 h2=>by rw [e4];show tk rk (mirror (arrOf st3) lo (lo+x) _) i<=tk rk (mirror (arrOf st3) lo (lo+x) _) j;rw [Lk hz3,Lk hz3,ξ (by lia),ξ (by lia)];exact ni3 _ _ (by lia) (by lia) (by lia)
  rw [<-e4]
  clear e4
  refine δ (Yp (fun n=>(none,n)) st4 (fun n=>decide (tk rk (arrOf st4) (lo+n)<tk rk (arrOf st4) (lo+n - 1))) hx2 (fun y m Q a b q=>δ (R0 hc B4 (by lia) (by lia) ?_)) fun m hm1 hm2 up _=>?_)
  . by_cases hl:tk rk (arrOf st4) (lo+m)<tk rk (arrOf st4) (lo+m - 1)
    . simp only [hl,decide_true,if_true] at q ⊢;exact π q
    . simp only [hl,decide_false,Bool.false_eq_true,if_false] at q ⊢;exact π q
  . dsimp only;refine π (h m _ (by lia) hm2 B4 L4 (s0.ups' hx1 hm1 fun i a b=>?_));have:=up i a b;simp only [decide_eq_false_iff_not] at this
    lia
 case step=>
  rintro x c st2 hnx hxr ⟨B2,L2,q,rfl,hq,ni2,al⟩
  have hz2:lo+x<=(arrOf st2).size:=by rw [B2.size];lia
  dsimp only
  refine δ (R0 hc B2 (by lia) (by lia) ?_)
  have ext:∀(xs:Array Keyed),(∀i j,lo<=i->i<=j->j<lo+x->tk rk xs j<=tk rk xs i)->tk rk xs (lo+x)<=tk rk xs (lo+x - 1)->∀i j,lo<=i->i<=j->j<lo+(x+1)->tk rk xs j<=tk rk xs i:=fun xs nx hx i j h0 h1 h2=>by
   by_cases hj:j=lo+x
   . subst hj;by_cases hi:i=lo+x
     . rw [hi];exact ζ _
     . exact Nat.le_trans hx (nx i (lo+x - 1) h0 (by lia) (by lia))
   . exact nx i j h0 h1 (by lia)
  by_cases hl:tk rk (arrOf st2) (lo+x)<tk rk (arrOf st2) (lo+x - 1)
  . simp only [hl,decide_true,if_true];by_cases hq0:q > 0
    . rw [ξ hq0];have ea:=Kq hz2 al;refine δ (Ch (π ⟨B2.set (mirror_perm _ _ _ _),L2.trans (.mirror (by lia) hz2),0,rfl,by lia,ext _ (fun i j h0 h1 h2=>?_) ?_,fun k h0 h1=>by rw [show k=lo+(x+1) - 1 by lia]⟩))
      . show tk rk (mirror (arrOf st2) _ _ _) j<=tk rk (mirror (arrOf st2) _ _ _) i;rw [ea,ea];exact ni2 i j h0 h1 h2
      . show tk rk (mirror (arrOf st2) _ _ _) _<=tk rk (mirror (arrOf st2) _ _ _) _;rw [ea,ea];exact Nat.le_of_lt hl
    . rw [ψ hq0];exact π ⟨B2,L2,0,rfl,by lia,ext _ ni2 (Nat.le_of_lt hl),fun k h0 h1=>by rw [show k=lo+(x+1) - 1 by lia]⟩
  . simp only [hl,decide_false,Bool.false_eq_true,if_false];refine δ (R0 hc B2 (by lia) (by lia) ?_);by_cases hg:tk rk (arrOf st2) (lo+x - 1)<tk rk (arrOf st2) (lo+x)
    . simp only [hg,decide_true,if_true];exact π ⟨B2,L2,x,q,rfl,by lia,by lia,hq,ni2,al⟩
    . simp only [hg,decide_false,Bool.false_eq_true,if_false];refine π ⟨B2,L2,q+1,rfl,by lia,ext _ ni2 (by lia),fun k h0 h1=>?_⟩;rw [show lo+(x+1) - 1=lo+x by lia];by_cases hk:k=lo+x
      . rw [hk]
      . rw [al k (by lia) (by lia)];lia
theorem TSo.down {xs:Array Keyed} {lo k l:Nat} (hz:lo+k<xs.size) (hl:l<=k) (hs:TSo rk xs lo (lo+k)) (below:∀i,i<l->tk rk xs (lo+i)<=tk rk xs (lo+k)) (above:∀i,l<=i->i<k->tk rk xs (lo+k)<tk rk xs (lo+i)) :
  TSo rk (bubble xs (lo+k) (lo+k - (lo+l))) lo (lo+(k+1)):=fun i j h0 hij hj=>by
 obtain ⟨i,rfl⟩:∃i',i=lo+i':=⟨i - lo,by lia⟩
 obtain ⟨j,rfl⟩:∃j',j=lo+j':=⟨j - lo,by lia⟩
 have val:∀m,m<=k->tk rk (bubble xs (lo+k) (lo+k - (lo+l))) (lo+m)=if m<l then tk rk xs (lo+m) else if m=l then tk rk xs (lo+k) else tk rk xs (lo+(m - 1)):=fun m hm=>by
  rw [yo hz (by lia)];by_cases a:m<l
  . rw [ψ (by lia),ψ (by lia),ξ a]
  . by_cases b:m=l
    . rw [ξ (by lia),ψ a,ξ b]
    . rw [ψ (by lia),ξ (by lia),ψ a,ψ b,show lo+m - 1=lo+(m - 1) by lia]
 have st:∀a b,a<=b->b<k->tk rk xs (lo+a)<=tk rk xs (lo+b):=fun a b u v=>hs _ _ (by lia) (by lia) (by lia)
 rw [val i (by lia),val j (by lia)]
 by_cases a:j<l
 . rw [ξ a,ξ (by lia)];exact st i j (by lia) (by lia)
 . rw [ψ a];by_cases b:i<l
   . rw [ξ b];by_cases c:j=l
     . rw [ξ c];exact below i b
     . rw [ψ c];exact st i (j - 1) (by lia) (by lia)
   . rw [ψ b];by_cases c:i=l
     . rw [ξ c];by_cases d:j=l
       . rw [ξ d];exact ζ _
       . rw [ψ d];exact Nat.le_of_lt (above _ (by lia) (by lia))
     . rw [ψ c,ψ (by lia)];exact st _ _ (by lia) (by lia)
theorem y04 (hc:x6 prog w A E s κ a₀ rk) {st:SortSt} (B:TBs κ a₀ st) {lo n ok:Nat} (hz:lo+n<=a₀.size) (h1:1<=ok) (hok:ok<=n) (hs:TSo rk (arrOf st) lo (lo+ok)) {Q:Bool->SortSt->Prop}
  (h:∀u,TBs κ a₀ u->TL st u lo->TSo rk (arrOf u) lo (lo+n)->Q true u):wpS (model prog w) A E s (binarySort' lo n ok) Q st:=by
 rw [binarySort'_eq,Nat.max_eq_left h1]
 refine δ (wpS_mono (wpS_forRange (I:=fun k c u=>c=(none,())/\TBs κ a₀ u/\TL st u lo/\TSo rk (arrOf u) lo (lo+k))
  (Q:=fun c u=>c=(none,())/\TBs κ a₀ u/\TL st u lo/\TSo rk (arrOf u) lo (lo+n)) (fun k c u ha hb hI=>?_) (fun c u hI=>by rwa [Nat.max_eq_right hok] at hI) ⟨rfl,B,.refl _ _,hs⟩) fun c u hI=>?_)
 . obtain ⟨rfl,B1,L1,hs⟩:=hI;have hz1:lo+k<(arrOf u).size:=by rw [B1.size];lia
   refine δ (Po (fun l r=>(none,l,r)) u (fun l r=>(l+r) / 2) (fun i=>decide (tk rk (arrOf u) (lo+i)<=tk rk (arrOf u) (lo+k))) (fun l r _=>by lia) (fun x l r Q a b c q=>?_) (fun x l Q _ q=>?_) (fun i j _ a b c=>?_) (Nat.zero_le _) (by lia) fun l _ hl lt gt=>?_)
   . dsimp only;rw [ψ (by lia)];refine δ (R0 hc B1 (by lia) (by lia) ?_);by_cases z:tk rk (arrOf u) (lo+k)<tk rk (arrOf u) (lo+(l+r) / 2)
     . simp only [z,Nat.not_le.mpr z,decide_true,decide_false,Bool.false_eq_true,if_true,if_false] at q ⊢;exact π q
     . simp only [z,Nat.not_lt.mp z,decide_true,decide_false,Bool.false_eq_true,if_true,if_false] at q ⊢;exact π q
   . dsimp only;rw [ξ (ζ _)];exact π q
   . simp only [decide_eq_true_eq] at c ⊢;exact Nat.le_trans (hs _ _ (by lia) (by lia) (by lia)) c
   . dsimp only;rw [moveDown'_eq];refine δ (wpS_modify (π ⟨rfl,B1.set (bubble_perm _ _ _),L1.trans ⟨fun j hj=>?_,rfl⟩,?_⟩))
     . show (bubble (arrOf u) (lo+k) (lo+k - (lo+l)))[j]?=_;rw [getElem?_bubble hz1 _ (by lia),ψ (by lia),ψ (by lia)]
     . exact TSo.down hz1 hl hs (fun i a=>by simpa using lt i (Nat.zero_le _) a) fun i a b=>by simpa using gt i a b
 . obtain ⟨rfl,B1,L1,hs⟩:=hI;exact π (h u B1 L1 hs)
end
section
variable {prog:Program} {w:World} {A:Around} {E:Value->Shared->Prop} {s:Shared} {κ:SortKind} {a₀:Array Keyed} {rk:Keyed->Nat}
theorem Nl (mk:Nat->Nat->β) (st:σ) (q:Nat->Bool) (q0:q 0=true) (hM:0<M) (hN:M<=N)
  (go:∀x last ofs (Q:ForInStep β->σ->Prop),0<ofs->ofs<M->Q (if q ofs=true then .yield (mk ofs (2 * ofs+1)) else .done (mk last ofs)) st->wpS (model prog w) A E s (f x (mk last ofs)) Q st)
  (stop:∀x last ofs (Q:ForInStep β->σ->Prop),M<=ofs->Q (.done (mk last ofs)) st->wpS (model prog w) A E s (f x (mk last ofs)) Q st)
  (h:∀last ofs,last<ofs->last<M->q last=true->(ofs<M->q ofs=false)->Q (mk last ofs) st):wpS (model prog w) A E s (forIn [0:N] (mk 0 1) f) Q st:=by
 refine wpS_forRange (I:=fun x c u=>u=st/\∃last ofs,c=mk last ofs/\x<ofs/\last<ofs/\last<M/\q last=true) (fun x c u _ _ hI=>?_) (fun c u hI=>?_) ⟨rfl,0,1,rfl,by lia,by lia,hM,q0⟩
 . obtain ⟨rfl,last,ofs,rfl,b1,b2,b3,b4⟩:=hI;by_cases hm:ofs<M
   . refine go x last ofs _ (by lia) hm ?_;cases hq:q ofs
     . exact h last ofs b2 b3 b4 fun _=>hq
     . exact ⟨rfl,ofs,2 * ofs+1,rfl,by lia,by lia,hm,hq⟩
   . exact stop x last ofs _ (by lia) (h last ofs b2 b3 b4 fun z=>absurd z hm)
 . obtain ⟨rfl,last,ofs,rfl,b1,b2,b3,b4⟩:=hI;exact h last ofs b2 b3 b4 fun z=>by lia
noncomputable def gal:Bool->Keyed->Array Keyed->Nat->Nat->Nat->StateT SortSt Sem (Option Nat):=sortPriv% PySem.Builtin.gallop
def bey (rk:Keyed->Nat) (left:Bool) (key:Keyed) (arr:Array Keyed) (base i:Nat):Bool:=if left=true then decide (tk rk arr (base+i)<rk key) else !decide (rk key<tk rk arr (base+i))
theorem y05 (hc:x6 prog w A E s κ a₀ rk) {st:SortSt} (hk:kindOf st=κ) {left:Bool} {key:Keyed} {arr:Array Keyed} {base i:Nat} (kin:key∈a₀) (ain:∀x∈arr,x∈a₀) (hz:base+i<arr.size) {Q:Option Bool->SortSt->Prop}
  (h:Q (some (bey rk left key arr base i)) st):wpS (model prog w) A E s (elem' arr (base+i) >>= fun x=>if left=true then lt' x key else lt' key x >>= fun r=>pure (r.map fun b=>!b)) Q st:=by
 refine δ (k6 hz ?_)
 unfold bey at h
 rw [i8 hz] at h
 cases left with
 | true=>
  rw [ξ rfl] at h ⊢
  exact hc _ _ (ain _ (Array.getElem_mem _)) kin st Q hk h
 | false=>
  rw [ψ η] at h ⊢
  exact δ (hc _ _ kin (ain _ (Array.getElem_mem _)) st _ hk (π h))
theorem S8 (hc:x6 prog w A E s κ a₀ rk) {st:SortSt} (hk:kindOf st=κ) {left:Bool} {key:Keyed} {arr:Array Keyed} {base n hint:Nat} (kin:key∈a₀) (ain:∀x∈arr,x∈a₀) (hz:base+n<=arr.size) (hh:hint<n)
  (mono:∀i j,i<=j->j<n->bey rk left key arr base j=true->bey rk left key arr base i=true) {Q:Option Nat->SortSt->Prop}
  (h:∀k,k<=n->(∀i,i<k->bey rk left key arr base i=true)->(∀i,k<=i->i<n->bey rk left key arr base i=false)->Q (some k) st):wpS (model prog w) A E s (gal left key arr base n hint) Q st:=by
 have anti:∀i j,i<=j->j<n->bey rk left key arr base i=false->bey rk left key arr base j=false:=fun i j a b c=>by
  cases e:bey rk left key arr base j
  . rfl
  . rw [mono i j a b e] at c;cases c
 have ask:∀i (Q:Option Bool->SortSt->Prop),i<n->Q (some (bey rk left key arr base i)) st->wpS (model prog w) A E s (elem' arr (base+i) >>= fun x=>if left=true then lt' x key else lt' key x >>= fun r=>pure (r.map fun b=>!b)) Q st:=fun i Q hi q=>y05 hc hk kin ain (by omega) q
 unfold gal
 refine δ (ask hint _ hh ?_)
 dsimp only
 rcases hr:bey rk left key arr base hint with _ | _
 case' true=>
  rw [ξ rfl]
  refine δ (Nl (fun l o=>(none,l,o)) st (fun o=>bey rk left key arr base (hint+o)) (M:=n - hint) hr (by omega) (by omega) (fun x last ofs Q a b q=>?_) (fun x last ofs Q a q=>?_) fun last ofs a b c d=>?_)
  . dsimp only;rw [ψ (by omega)];refine δ (ask _ _ (by omega) ?_);dsimp only;cases e:bey rk left key arr base (hint+ofs)<;>rw [e] at q<;>exact π q
  . dsimp only;rw [ξ (by omega)];exact π q
  dsimp only
  obtain ⟨lo,hi,elo,ehi,b1,b2,b3,b4⟩:∃lo hi,lo=hint+last+1/\hi=hint+min ofs (n - hint)/\lo<=hi/\hi<=n/\(∀i,i<lo->bey rk left key arr base i=true)/\∀i,hi<=i->i<n->bey rk left key arr base i=false:=
   ⟨_,_,rfl,rfl,by omega,by omega,fun i z=>mono i (hint+last) (by omega) (by omega) c,fun i y z=>anti (hint+ofs) i (by omega) z (d (by omega))⟩
  rw [<-elo,<-ehi]
  clear elo ehi c d
 case' false=>
  rw [ψ η]
  refine δ (Nl (fun l o=>(none,l,o)) st (fun o=>!bey rk left key arr base (hint - o)) (M:=hint+1) (by rw [Nat.sub_zero,hr];rfl) (by omega) (by omega) (fun x last ofs Q a b q=>?_) (fun x last ofs Q a q=>?_) fun last ofs a b c d=>?_)
  . dsimp only;rw [ψ (by omega)];refine δ (ask _ _ (by omega) ?_);dsimp only;cases e:bey rk left key arr base (hint - ofs)<;>rw [e] at q<;>exact π q
  . dsimp only;rw [ξ (by omega)];exact π q
  dsimp only
  obtain ⟨lo,hi,elo,ehi,b1,b2,b3,b4⟩:∃lo hi,lo=hint+1 - min ofs (hint+1)/\hi=hint - last/\lo<=hi/\hi<=n/\(∀i,i<lo->bey rk left key arr base i=true)/\∀i,hi<=i->i<n->bey rk left key arr base i=false:=
   ⟨_,_,rfl,rfl,by omega,by omega,fun i z=>mono i (hint - ofs) (by omega) (by omega) (by simpa using d (by omega)),fun i y z=>anti (hint - last) i (by omega) z (by simpa using c)⟩
  rw [<-elo,<-ehi]
  clear elo ehi c d
 all_goals
  refine δ (Po (fun l r=>(none,l,r)) st (fun l r=>l+(r - l) / 2) (bey rk left key arr base) (fun l r _=>by omega) (fun x l r Q a b c q=>?_) (fun x l Q _ q=>?_) (fun i j _ a b c=>mono i j a (by omega) c) b1 (by omega) fun k _ hk lt gt=>?_)
  . dsimp only;rw [ψ (by omega)];refine δ (ask _ _ (by omega) ?_);dsimp only;cases e:bey rk left key arr base (l+(r - l) / 2)<;>rw [e] at q<;>exact π q
  . dsimp only;rw [ξ (ζ _)];exact π q
  . dsimp only;refine π (h k (by omega) (fun i z=>?_) fun i y z=>?_)
    . by_cases e:i<lo
      . exact b3 i e
      . exact lt i (by omega) z
    . by_cases e:i<hi
      . exact gt i y e
      . exact b4 i (by omega) z
end
section
variable {R:Keyed->Keyed->Prop}
def AscR (R:Keyed->Keyed->Prop) (l:List Keyed):Prop:=l.Pairwise R
structure MR (R:Keyed->Keyed->Prop) (A B out:List Keyed) (ia ib:Nat):Prop where
 perm:out.Perm (A.take ia++B.take ib)
 asc:AscR R out
 la:∀x∈out,∀y∈A.drop ia,R x y
 lb:∀x∈out,∀y∈B.drop ib,R x y
theorem AscR.drop (h:AscR R l) (n:Nat):AscR R (l.drop n):=h.sublist (List.drop_sublist _ _)
theorem AscR.take (h:AscR R l) (n:Nat):AscR R (l.take n):=h.sublist (List.take_sublist _ _)
theorem drop_take (l:List Keyed) (n k:Nat):l.drop n=(l.drop n).take k++l.drop (n+k):=by rw [<-List.drop_drop,List.take_append_drop]
theorem yn (l:List Keyed) (n k:Nat):l.take (n+k)=l.take n++(l.drop n).take k:=by rw [List.take_add]
variable {A B out:List Keyed} {ia ib k:Nat}
theorem MR.appA (M:MR R A B out ia ib) (hA:AscR R A) (h:∀x∈(A.drop ia).take k,∀y∈B.drop ib,R x y):MR R A B (out++(A.drop ia).take k) (ia+k) ib:=by
 have dd:=drop_take A ia k;have sA:=hA.drop ia;rw [dd] at sA;have pw:=List.pairwise_append.mp sA;refine ⟨?_,List.pairwise_append.mpr ⟨M.asc,pw.1,fun x hx y hy=>M.la x hx y (List.mem_of_mem_take hy)⟩,fun x hx y hy=>?_,fun x hx y hy=>?_⟩
 . rw [yn];refine (M.perm.append_right _).trans ?_;rw [List.append_assoc,List.append_assoc];exact List.perm_append_comm.append_left _
 . rcases List.mem_append.mp hx with z | z
   . exact M.la x z y (by rw [dd];exact List.mem_append_right _ hy)
   . exact pw.2.2 x z y hy
 . rcases List.mem_append.mp hx with z | z
   . exact M.lb x z y hy
   . exact h x z y hy
theorem MR.swap (M:MR R A B out ia ib):MR R B A out ib ia:=⟨M.perm.trans List.perm_append_comm,M.asc,M.lb,M.la⟩
theorem MR.appB (M:MR R A B out ia ib) (hB:AscR R B) (h:∀x∈(B.drop ib).take k,∀y∈A.drop ia,R x y):MR R A B (out++(B.drop ib).take k) ia (ib+k):=(M.swap.appA hB h).swap
theorem MR.fin (M:MR R A B out ia ib) (hA:AscR R A) (h:∀x∈A.drop ia,∀y∈B.drop ib,R x y) (hB:AscR R B):(out++A.drop ia++B.drop ib).Perm (A++B)/\AscR R (out++A.drop ia++B.drop ib):=by have m1:=M.appA (k:=A.length) hA (fun x hx=>h x (List.mem_of_mem_take hx));have e1:(A.drop ia).take A.length=A.drop ia:=List.take_of_length_le (by rw [List.length_drop];lia);rw [e1] at m1;have d1:A.drop (ia+A.length)=[]:=List.drop_eq_nil_of_le (by lia);have m2:=m1.appB (k:=B.length) hB (fun x _ y hy=>by rw [d1] at hy;cases hy);have e2:(B.drop ib).take B.length=B.drop ib:=List.take_of_length_le (by rw [List.length_drop];lia);rw [e2] at m2;refine ⟨m2.perm.trans ?_,m2.asc⟩;rw [List.take_of_length_le (by lia),List.take_of_length_le (by lia)]
variable {rk:Keyed->Nat}
abbrev Asc (rk:Keyed->Nat) (l:List Keyed):Prop:=AscR (fun x y=>rk x<=rk y) l
abbrev MI (rk:Keyed->Nat) (A B out:List Keyed) (ia ib:Nat):Prop:=MR (fun x y=>rk x<=rk y) A B out ia ib
variable {a b:Array Keyed} {outA:Array Keyed}
theorem w6 (h:Asc rk a.toList) (hij:i<=j) (hj:j<a.size):tk rk a i<=tk rk a j:=by
 rw [i8 (by lia),i8 hj];rcases Nat.lt_or_ge i j with z | z
 . have:=List.pairwise_iff_getElem.mp h i j (by simpa using (by lia:i<a.size)) (by simpa using hj) z;simpa using this
 . obtain rfl:i=j:=by lia
   exact ζ _
theorem Ru (h:∀j,n<=j->j<a.size->r<=tk rk a j):∀y∈a.toList.drop n,r<=rk y:=fun y hy=>by
 obtain ⟨i,hi,e⟩:=List.mem_iff_getElem.mp hy;rw [List.getElem_drop] at e;have hi':n+i<a.size:=by simp at hi;lia
 have:=h (n+i) (by lia) hi';rw [i8 hi'] at this;rw [<-e];simpa using this
theorem Rt (h:∀i,i<k->n+i<a.size->tk rk a (n+i)<=r):∀y∈(a.toList.drop n).take k,rk y<=r:=fun y hy=>by
 obtain ⟨i,hi,e⟩:=List.mem_iff_getElem.mp hy;rw [List.getElem_take,List.getElem_drop] at e;simp only [List.length_take,List.length_drop,Array.length_toList] at hi;have hi':n+i<a.size:=by omega
 have:=h i (by omega) hi';rw [i8 hi'] at this;rw [<-e];simpa using this
abbrev MA (rk:Keyed->Nat) (a b out:Array Keyed) (ia ib:Nat):Prop:=MI rk a.toList b.toList out.toList ia ib
theorem Gi (n k:Nat):(a.extract n (n+k)).toList=(a.toList.drop n).take k:=by rw [Array.toList_extract,List.extract_eq_take_drop,Nat.add_sub_cancel_left]
theorem Df (n:Nat):(a.extract n a.size).toList=a.toList.drop n:=by rw [Array.toList_extract,List.extract_eq_take_drop];refine List.take_of_length_le ?_;simp
theorem Nk (h:n<a.size):(a.toList.drop n).take 1=[a[n]]:=by rw [List.drop_eq_getElem_cons (by simpa using h)];simp
theorem MI.extA (M:MA rk a b outA ia ib) (hA:Asc rk a.toList) (h1:∀i,i<k->ia+i<a.size->tk rk a (ia+i)<=r) (h2:∀j,ib<=j->j<b.size->r<=tk rk b j):MA rk a b (outA++a.extract ia (ia+k)) (ia+k) ib:=by show MI rk a.toList b.toList (outA++a.extract ia (ia+k)).toList (ia+k) ib;rw [Array.toList_append,Gi];exact MR.appA M hA fun x hx y hy=>Nat.le_trans (Rt h1 x hx) (Ru h2 y hy)
theorem MI.pushA (M:MA rk a b outA ia ib) (hA:Asc rk a.toList) (hi:ia<a.size) (h2:∀j,ib<=j->j<b.size->tk rk a ia<=tk rk b j):MA rk a b (outA.push a[ia]) (ia+1) ib:=by have m:=M.extA (k:=1) (r:=tk rk a ia) hA (fun i z _=>by rw [show i=0 by lia];exact ζ _) h2;show MI rk a.toList b.toList (outA.push a[ia]).toList (ia+1) ib;rw [Array.toList_push,<-Nk hi,<-Gi,<-Array.toList_append];exact m
theorem MI.swapA (M:MA rk a b outA ia ib):MA rk b a outA ib ia:=MR.swap M
theorem MI.done (M:MA rk a b outA ia ib) (hA:Asc rk a.toList) (hB:Asc rk b.toList) (h:a.size<=ia\/b.size<=ib) :
  (outA++a.extract ia a.size++b.extract ib b.size).toList.Perm (a.toList++b.toList)/\Asc rk (outA++a.extract ia a.size++b.extract ib b.size).toList:=by
 rw [Array.toList_append,Array.toList_append,Df,Df]
 refine MR.fin M hA (fun x hx y hy=>?_) hB
 rcases h with z | z
 . rw [List.drop_eq_nil_of_le (by simpa using z)] at hx;cases hx
 . rw [List.drop_eq_nil_of_le (by simpa using z)] at hy;cases hy
theorem MI.last (M:MA rk a b outA ia ib) (hA:Asc rk a.toList) (hB:Asc rk b.toList) (h:∀x∈b.toList.drop ib,∀y∈a.toList.drop ia,rk x<=rk y) :
  (outA++b.extract ib b.size++a.extract ia a.size).toList.Perm (a.toList++b.toList)/\Asc rk (outA++b.extract ib b.size++a.extract ia a.size).toList:=by
 rw [Array.toList_append,Array.toList_append,Df,Df]
 have:=MR.fin M.swap hB h hA
 exact ⟨this.1.trans List.perm_append_comm,this.2⟩
end
section
variable {prog:Program} {w:World} {A:Around} {E:Value->Shared->Prop} {s:Shared} {κ:SortKind} {a₀:Array Keyed} {rk:Keyed->Nat}
noncomputable def mlo:Array Keyed->Array Keyed->StateT SortSt Sem (Array Keyed):=sortPriv% PySem.Builtin.mergeLo
structure GS (st u:SortSt):Prop where
 kind:kindOf u=kindOf st
 arr:arrOf u=arrOf st
 pend:pendingOf u=pendingOf st
 ok:failedOf u=failedOf st
theorem GS.refl (st:SortSt):GS st st:=⟨rfl,rfl,rfl,rfl⟩
theorem GS.g {st u:SortSt} (h:GS st u) (n:Nat):GS st (SortSt.mk' (kindOf u) (arrOf u) (pendingOf u) n (failedOf u)):=⟨h.kind,h.arr,h.pend,h.ok⟩
section
variable {α:Type} {Q:α->SortSt->Prop} {st:SortSt}
theorem m9 {τ:Sort _} {F:τ} {B:τ->StateT SortSt Sem α} (h:wpS (model prog w) A E s (B F) Q st):wpS (model prog w) A E s (have jp:=F;B jp) Q st:=h
theorem Tw {β:Type} {g:β->StateT SortSt Sem α} {p:Prop} [Decidable p] {x y:β} (h:∀m,wpS (model prog w) A E s (g m) Q st):wpS (model prog w) A E s (if p then g x else g y) Q st:=by
 split
 . exact h _
 . exact h _
theorem Dc (g:β->γ->StateT SortSt Sem α) (R:β->γ->Prop) (hF:∀o i,R o i->wpS (model prog w) A E s (g o i) Q st) (h:(∀o i,R o i->wpS (model prog w) A E s (g o i) Q st)->wpS (model prog w) A E s t Q st):wpS (model prog w) A E s t Q st:=h hF
end
theorem y2l (hc:x6 prog w A E s κ a₀ rk) {st:SortSt} (hk:kindOf st=κ) {a b:Array Keyed} (ain:∀x∈a,x∈a₀) (bin:∀x∈b,x∈a₀) (hA:Asc rk a.toList) (hB:Asc rk b.toList) (na:0<a.size) (nb:0<b.size)
  (first:∀j,j<a.size->tk rk b 0<=tk rk a j) (last:∀j,j<b.size->tk rk b j<=tk rk a (a.size - 1)) {Q:Array Keyed->SortSt->Prop}
  (h:∀out u,GS st u->out.toList.Perm (a.toList++b.toList)/\Asc rk out.toList->Q out u):wpS (model prog w) A E s (mlo a b) Q st:=by
 have M0:MA rk a b #[b[0]] 0 1:=(MI.pushA (outA:=#[]) (ia:=0) (ib:=0) (show MA rk b a #[] 0 0 from ⟨.refl _,.nil,fun x hx=>absurd hx List.not_mem_nil,fun x hx=>absurd hx List.not_mem_nil⟩) hB nb fun j _ hj=>first j hj).swapA
 have lastA:∀{out:Array Keyed} {ia ib:Nat},MA rk a b out ia ib->ia+1=a.size->(out++b.extract ib b.size++a.extract ia a.size).toList.Perm (a.toList++b.toList)/\Asc rk (out++b.extract ib b.size++a.extract ia a.size).toList:=fun {out ia ib} M e=>by
  refine M.last hA hB fun x hx y hy=>?_
  refine Ru (fun j h1 h2=>?_) y hy;obtain ⟨i,hi,ex⟩:=List.mem_iff_getElem.mp (List.mem_of_mem_drop hx);have hi':i<b.size:=by simpa using hi
  have:=last i hi';rw [i8 hi'] at this;rw [show j=a.size - 1 by lia,<-ex];simpa using this
 unfold mlo
 refine δ (U0 ?_)
 iterate 3 refine m9 ?_
 refine δ (k6 nb ?_)
 iterate 3 refine m9 ?_
 by_cases e1:1=b.size
 . rw [ξ (by simp [<-e1])];exact π (h _ st (.refl _) (M0.done hA hB (.inr (by lia))))
 rw [ψ (by simpa using e1)]
 by_cases e2:0+1=a.size
 . rw [ξ (by simp [<-e2])];exact π (h _ st (.refl _) (lastA M0 e2))
 rw [ψ (by simpa using e2)]
 refine δ (wpS_get ?_)
 refine m9 ?_
 refine δ (wpS_mono (wpS_forRange (I:=fun x c u=>GS st u/\∃out ia ib g,c=(none,out,ia,ib,g)/\MA rk a b out ia ib/\ia+1<a.size/\ib<b.size/\x+1<=ia+ib)
  (Q:=fun c u=>GS st u/\∃r t,c=(some r,t)/\r.toList.Perm (a.toList++b.toList)/\Asc rk r.toList) ?step ?fin ⟨.refl _,_,0,1,_,rfl,M0,by lia,by lia,by lia⟩) ?post)
 case fin=>
  rintro c u ⟨_,out,ia,ib,g,rfl,_,h1,h2,h3⟩
  simp only [Nat.zero_max] at h3
  lia
 case post=>
  rintro c u ⟨G,r,t,rfl,f⟩
  exact π (h r u G f)
 case step=>
  rintro x c u _ _ ⟨G,out,ia,ib,g,rfl,M,h1,h2,h3⟩
  iterate 9 refine m9 ?_
  dsimp -zetaHave only
  refine δ (wpS_mono (wpS_forRange (I:=fun y c v=>v=u/\∃out ia ib ac bc,c=(none,out,ia,ib,ac,bc)/\MA rk a b out ia ib/\ia+1<a.size/\ib<b.size/\x+1+y<=ia+ib)
   (Q:=fun c v=>v=u/\((∃r t,c=(some r,t)/\r.toList.Perm (a.toList++b.toList)/\Asc rk r.toList)\/∃out ia ib ac bc,c=(none,out,ia,ib,ac,bc)/\MA rk a b out ia ib/\ia+1<a.size/\ib<b.size/\x+2<=ia+ib))
   ?walk ?wfin ⟨rfl,out,ia,ib,0,0,rfl,M,h1,h2,by lia⟩) ?wpost)
  case wfin=>
   rintro c v ⟨rfl,out,ia,ib,ac,bc,rfl,M,h1,h2,h3⟩
   simp only [Nat.zero_max] at h3
   exact ⟨rfl,.inr ⟨out,ia,ib,ac,bc,rfl,M,h1,h2,by lia⟩⟩
  case walk=>
   rintro y c v _ _ ⟨rfl,out,ia,ib,ac,bc,rfl,M,h1,h2,h3⟩
   iterate 9 refine m9 ?_
   dsimp -zetaHave only
   refine δ (k6 h2 (δ (k6 (show ia<a.size by lia) (δ (hc _ _ (bin _ (Array.getElem_mem _)) (ain _ (Array.getElem_mem _)) _ _ (G.kind.trans hk) ?_)))))
   rw [<-i8 (rk:=rk),<-i8 (rk:=rk)]
   by_cases l:tk rk b ib<tk rk a ia
   . rw [decide_eq_true l];dsimp -zetaHave only;rw [ξ rfl];have M':=(MI.pushA M.swapA hB h2 fun j z1 z2=>Nat.le_trans (Nat.le_of_lt l) (w6 hA z1 z2)).swapA;refine δ (k6 h2 ?_)
     iterate 4 refine m9 ?_
     by_cases f1:ib+1=b.size
     . rw [ξ (by simpa using f1)];exact π ⟨rfl,.inl ⟨_,_,rfl,M'.done hA hB (.inr (by lia))⟩⟩
     rw [ψ (by simpa using f1)];split
     . exact π ⟨rfl,.inr ⟨_,_,_,_,_,rfl,M',h1,by lia,by lia⟩⟩
     . exact π ⟨rfl,_,_,_,_,_,rfl,M',h1,by lia,by lia⟩
   . rw [decide_eq_false l];dsimp -zetaHave only;rw [ψ η];have M':=MI.pushA M hA (by lia) fun j z1 z2=>Nat.le_trans (Nat.not_lt.mp l) (w6 hB z1 z2)
     refine δ (k6 (show ia<a.size by lia) ?_)
     iterate 4 refine m9 ?_
     by_cases f1:ia+1+1=a.size
     . rw [ξ (by simpa using f1)];exact π ⟨rfl,.inl ⟨_,_,rfl,lastA M' f1⟩⟩
     rw [ψ (by simpa using f1)];split
     . exact π ⟨rfl,.inr ⟨_,_,_,_,_,rfl,M',by lia,h2,by lia⟩⟩
     . exact π ⟨rfl,_,_,_,_,_,rfl,M',by lia,h2,by lia⟩
  case wpost=>
   rintro c v ⟨rfl,⟨r,t,rfl,f⟩ | ⟨out,ia,ib,ac,bc,rfl,M,h1,h2,h3⟩⟩
   . exact π ⟨G,r,_,rfl,f⟩
   iterate 10 refine m9 ?_
   dsimp -zetaHave only
   refine δ (U0 ?_)
   refine m9 ?_
   refine δ (wpS_mono (wpS_forRange (I:=fun _ c v=>GS st v/\∃out ia ib mg ac bc,c=(none,out,ia,ib,mg,ac,bc)/\MA rk a b out ia ib/\ia+1<a.size/\ib<b.size/\x+2<=ia+ib)
    (Q:=fun c v=>GS st v/\((∃r t,c=(some r,t)/\r.toList.Perm (a.toList++b.toList)/\Asc rk r.toList)\/∃out ia ib mg ac bc,c=(none,out,ia,ib,mg,ac,bc)/\MA rk a b out ia ib/\ia+1<a.size/\ib<b.size/\x+2<=ia+ib))
    ?jump (fun c v hI=>⟨hI.1,.inr hI.2⟩) ⟨G,out,ia,ib,_,ac,bc,rfl,M,h1,h2,h3⟩) ?jpost)
   case jpost=>
    rintro c v2 ⟨G2,⟨r,t,rfl,f⟩ | ⟨out,ia,ib,mg,ac,bc,rfl,M,h1,h2,h3⟩⟩
    . exact π ⟨G2,r,_,rfl,f⟩
    . exact δ (wpS_modify (π ⟨G2.g _,out,ia,ib,_,rfl,M,h1,h2,by lia⟩))
   case jump=>
    clear M h1 h2 h3 out ia ib ac bc
    rintro y c v2 _ _ ⟨G2,out,ia,ib,mg,ac,bc,rfl,M,h1,h2,h3⟩
    extract_lets s1 o1 s2 i1 s3 b1 s4 m1 s5 a1 c1 ib1 jp mg1
    have N:MA rk a b o1 i1 b1/\i1+1<a.size/\b1<b.size/\x+2<=i1+b1:=⟨M,h1,h2,h3⟩
    have eib:ib1=b1+1:=rfl
    clear M h1 h2 h3
    clear_value o1 i1 b1 m1 a1 c1 ib1
    obtain ⟨M,h1,h2,h3⟩:=N
    refine Tw (g:=jp ⟨⟩) fun m=>?_
    refine δ (wpS_modify ?_)
    refine δ (k6 h2 ?_)
    refine δ (S8 hc (by exact G2.kind.trans hk) (bin _ (Array.getElem_mem _)) ain (by lia) (by lia) (fun i j z1 z2 z3=>?_) fun k hkn lt gt=>?_)
    . unfold bey at z3 ⊢;rw [ψ η] at z3 ⊢;have:=w6 hA (show i1+i<=i1+j by lia) (by lia);simp only [Bool.not_eq_true',decide_eq_false_iff_not] at z3 ⊢
      lia
    dsimp -zetaHave only
    have cb:i1+k<a.size->tk rk b b1<=tk rk a (i1+k):=fun z=>by
     have:=gt k (ζ _) (by lia);unfold bey at this;rw [ψ η,<-i8 (rk:=rk)] at this;simp only [Bool.not_eq_false',decide_eq_true_eq] at this
     lia
    have ca:∀i,i<k->i1+i<a.size->tk rk a (i1+i)<=tk rk b b1:=fun i z _=>by
     have:=lt i z;unfold bey at this;rw [ψ η,<-i8 (rk:=rk)] at this;simp only [Bool.not_eq_true',decide_eq_false_iff_not] at this
     lia
    have M1:=MI.extA (k:=k) M hA ca fun j z1 z2=>w6 hB z1 z2
    clear ca lt gt
    extract_lets ac2 jq o2 i2
    refine Dc (jq ⟨⟩) (fun out1 ia1=>MA rk a b out1 ia1 b1/\ia1+1<a.size/\tk rk b b1<=tk rk a ia1/\x+2<=ia1+b1) (fun out1 ia1 z=>?_) fun J=>?_
    rotate_left
    . have ei:i2=i1+k:=rfl;split
      . by_cases f1:i2+1=a.size
        . rw [ξ (by simpa using f1)];exact π ⟨G2.g _,.inl ⟨_,_,rfl,lastA M1 f1⟩⟩
        rw [ψ (by simpa using f1)];by_cases f2:i2=a.size
        . rw [ξ (by simpa using f2)];exact π ⟨G2.g _,.inl ⟨_,_,rfl,M1.done hA hB (.inl (by lia))⟩⟩
        rw [ψ (by simpa using f2)];exact J _ _ ⟨M1,by lia,cb (by lia),by lia⟩
      . exact J o1 i1 ⟨M,h1,by have:=cb (by lia);rwa [show i1+k=i1 by lia] at this,h3⟩
    clear M M1 cb h1 h3 o2 i2
    obtain ⟨M2,q1,r1,p1⟩:=z
    refine δ (k6 h2 ?_)
    extract_lets o3 ia2
    have M3:=(MI.pushA M2.swapA hB h2 fun j z1 z2=>Nat.le_trans r1 (w6 hA z1 z2)).swapA
    rw [<-eib] at M3
    have M3:MA rk a b o3 ia1 ib1:=M3
    clear_value o3
    by_cases f3:ib1=b.size
    . rw [ξ (by simpa using f3)];exact π ⟨G2.g _,.inl ⟨_,_,rfl,M3.done hA hB (.inr (by lia))⟩⟩
    rw [ψ (by simpa using f3)]
    have hi1:ia1<a.size:=by lia
    refine δ (k6 hi1 ?_)
    refine δ (S8 hc (by exact G2.kind.trans hk) (ain _ (Array.getElem_mem _)) bin (by lia) (by lia) (fun i j z1 z2 z3=>?_) fun k2 hkn lt gt=>?_)
    . unfold bey at z3 ⊢;rw [ξ rfl] at z3 ⊢;have:=w6 hB (show ib1+i<=ib1+j by lia) (by lia);simp only [decide_eq_true_eq] at z3 ⊢
      lia
    dsimp -zetaHave only
    have cb:ib1+k2<b.size->tk rk a ia1<=tk rk b (ib1+k2):=fun z=>by
     have:=gt k2 (ζ _) (by lia);unfold bey at this;rw [ξ rfl,<-i8 (rk:=rk)] at this;simp only [decide_eq_false_iff_not] at this
     lia
    have ca:∀i,i<k2->ib1+i<b.size->tk rk b (ib1+i)<=tk rk a ia1:=fun i z _=>by
     have:=lt i z;unfold bey at this;rw [ξ rfl,<-i8 (rk:=rk)] at this;simp only [decide_eq_true_eq] at this
     lia
    have M4:=(MI.extA (k:=k2) M3.swapA hB ca fun j z1 z2=>w6 hA z1 z2).swapA
    clear ca lt gt
    extract_lets bc2 jr o4 ib2
    refine Dc (jr ⟨⟩) (fun out3 ib=>MA rk a b out3 ia1 ib/\ib<b.size/\tk rk a ia1<=tk rk b ib/\x+2<=ia1+ib) (fun out3 ib z=>?_) fun J=>?_
    rotate_left
    . have ei:ib2=ib1+k2:=rfl;split
      . by_cases f4:ib2=b.size
        . rw [ξ (by simpa using f4)];exact π ⟨G2.g _,.inl ⟨_,_,rfl,M4.done hA hB (.inr (by lia))⟩⟩
        rw [ψ (by simpa using f4)];exact J _ _ ⟨M4,by lia,cb (by lia),by lia⟩
      . exact J o3 ib1 ⟨M3,by lia,by have:=cb (by lia);rwa [show ib1+k2=ib1 by lia] at this,by lia⟩
    clear M4 M3 cb o4 ib2
    obtain ⟨M5,b2,c2,p2⟩:=z
    refine δ (k6 hi1 ?_)
    extract_lets o5
    have M6:=MI.pushA M5 hA hi1 fun j z1 z2=>Nat.le_trans c2 (w6 hB z1 z2)
    by_cases f5:ia1+1+1=a.size
    . rw [ξ (show (ia2+1==a.size)=true by simpa using f5)];exact π ⟨G2.g _,.inl ⟨_,_,rfl,lastA M6 f5⟩⟩
    rw [ψ (show ¬(ia2+1==a.size)=true by simpa using f5)]
    split
    . exact π ⟨G2.g _,.inr ⟨_,_,_,_,_,_,rfl,M6,by lia,b2,by lia⟩⟩
    . exact π ⟨G2.g _,_,_,_,_,_,_,rfl,M6,by lia,b2,by lia⟩
end
section
variable {rk:Keyed->Nat} {a b outA:Array Keyed} {na nb:Nat}
abbrev MH (rk:Keyed->Nat) (a b out:Array Keyed) (na nb:Nat):Prop:=MR (fun x y=>rk y<=rk x) a.toList.reverse b.toList.reverse out.toList (a.size - na) (b.size - nb)
theorem Jo (h:Asc rk a.toList):AscR (fun x y=>rk y<=rk x) a.toList.reverse:=List.pairwise_reverse.mpr h
theorem V5 (h:na<=a.size):a.toList.reverse.drop (a.size - na)=(a.toList.take na).reverse:=by rw [List.drop_reverse,Array.length_toList,show a.size - (a.size - na)=na by omega]
theorem Rs (h:∀j,j<na->j<a.size->tk rk a j<=r):∀y∈a.toList.take na,rk y<=r:=by have:=Rt (rk:=rk) (a:=a) (n:=0) (k:=na) (r:=r) (fun i z1 z2=>by rw [Nat.zero_add];exact h i z1 (by lia));rwa [List.drop_zero] at this
theorem MR.extH (M:MH rk a b outA na nb) (hA:Asc rk a.toList) (hp:p<=na) (hn:na<=a.size) (hb:nb<=b.size) (h1:∀i,p<=i->i<na->r<=tk rk a i) (h2:∀j,j<nb->tk rk b j<=r):MH rk a b (outA++(a.extract p na).reverse) p nb:=by
 have e:((a.extract p na).reverse).toList=(a.toList.reverse.drop (a.size - na)).take (na - p):=by rw [V5 hn,Array.toList_reverse,Array.toList_extract,List.extract_eq_take_drop,List.take_reverse,List.length_take,Array.length_toList,List.drop_take];rw [show min na a.size - (na - p)=p by lia]
 show MR _ _ _ (outA++(a.extract p na).reverse).toList (a.size - p) (b.size - nb);rw [Array.toList_append,e,show a.size - p=a.size - na+(na - p) by lia];refine MR.appA M (Jo hA) fun x hx y hy=>?_
 rw [<-e,Array.toList_reverse,List.mem_reverse,Array.toList_extract,List.extract_eq_take_drop] at hx;rw [V5 hb,List.mem_reverse] at hy;refine Nat.le_trans (Rs (fun j z _=>h2 j z) y hy) ?_;obtain ⟨i,hi,ex⟩:=List.mem_iff_getElem.mp hx;rw [List.getElem_take,List.getElem_drop] at ex;simp only [List.length_take,List.length_drop,Array.length_toList] at hi;have:=h1 (p+i) (by lia) (by lia);rw [i8 (show p+i<a.size by lia)] at this;rw [<-ex];simpa using this
theorem MR.pushH (M:MH rk a b outA na nb) (hA:Asc rk a.toList) (h0:0<na) (hn:na<=a.size) (hb:nb<=b.size) (h2:∀j,j<nb->tk rk b j<=tk rk a (na - 1)):MH rk a b (outA.push a[na - 1]) (na - 1) nb:=by
 have m:=MR.extH M hA (p:=na - 1) (r:=tk rk a (na - 1)) (by omega) hn hb (fun i z1 z2=>by rw [show i=na - 1 by omega];exact ζ _) h2;have e:(a.extract (na - 1) na).reverse.toList=[a[na - 1]]:=by rw [Array.toList_reverse,show a.extract (na - 1) na=a.extract (na - 1) (na - 1+1) by rw [Nat.sub_add_cancel h0],Gi,Nk (by omega)];rfl
 show MR _ _ _ (outA.push a[na - 1]).toList _ _;rw [Array.toList_push,<-e,<-Array.toList_append];exact m
theorem MR.finH (M:MH rk a b outA na nb) (hA:Asc rk a.toList) (hB:Asc rk b.toList) (hn:na<=a.size) (hb:nb<=b.size) (h:∀x∈b.toList.take nb,∀y∈a.toList.take na,rk y<=rk x) :
  (a.extract 0 na++b.extract 0 nb++outA.reverse).toList.Perm (a.toList++b.toList)/\Asc rk (a.extract 0 na++b.extract 0 nb++outA.reverse).toList:=by
 have f:=MR.fin M.swap (Jo hB) (fun x hx y hy=>?_) (Jo hA)
 . rw [V5 hn,V5 hb] at f;have e:(a.extract 0 na++b.extract 0 nb++outA.reverse).toList=(outA.toList++(b.toList.take nb).reverse++(a.toList.take na).reverse).reverse:=by
    have ea:∀(c:Array Keyed) (k:Nat),(c.extract 0 k).toList=c.toList.take k:=fun c k=>by rw [Array.toList_extract,List.extract_eq_take_drop,List.drop_zero,Nat.sub_zero]
    rw [Array.toList_append,Array.toList_append,ea,ea,Array.toList_reverse];simp
   rw [e];refine ⟨(List.reverse_perm _).trans (f.1.trans ?_),List.pairwise_reverse.mpr f.2⟩;exact ((List.reverse_perm _).append (List.reverse_perm _)).trans List.perm_append_comm
 . rw [V5 hb,List.mem_reverse] at hx;rw [V5 hn,List.mem_reverse] at hy;exact h x hx y hy
end
section
variable {prog:Program} {w:World} {A:Around} {E:Value->Shared->Prop} {s:Shared} {κ:SortKind} {a₀:Array Keyed} {rk:Keyed->Nat}
noncomputable def mhi:Array Keyed->Array Keyed->StateT SortSt Sem (Array Keyed):=sortPriv% PySem.Builtin.mergeHi
theorem y2m (hc:x6 prog w A E s κ a₀ rk) {st:SortSt} (hk:kindOf st=κ) {a b:Array Keyed} (ain:∀x∈a,x∈a₀) (bin:∀x∈b,x∈a₀) (hA:Asc rk a.toList) (hB:Asc rk b.toList) (na0:0<a.size) (nb0:0<b.size)
  (first:∀j,j<a.size->tk rk b 0<=tk rk a j) (last:∀j,j<b.size->tk rk b j<=tk rk a (a.size - 1)) {Q:Array Keyed->SortSt->Prop}
  (h:∀out u,GS st u->out.toList.Perm (a.toList++b.toList)/\Asc rk out.toList->Q out u):wpS (model prog w) A E s (mhi a b) Q st:=by
 have M0:MH rk a b #[a[a.size - 1]] (a.size - 1) b.size:=MR.pushH (outA:=#[]) (na:=a.size) (nb:=b.size)
  (show MH rk a b #[] a.size b.size from ⟨by simp,.nil,fun x hx=>absurd hx List.not_mem_nil,fun x hx=>absurd hx List.not_mem_nil⟩) hA na0 (ζ _) (ζ _) last
 have dn:∀{out:Array Keyed} {na nb:Nat},MH rk a b out na nb->na<=a.size->nb<=b.size->(na=0\/nb=0)->(a.extract 0 na++b.extract 0 nb++out.reverse).toList.Perm (a.toList++b.toList)/\Asc rk (a.extract 0 na++b.extract 0 nb++out.reverse).toList:=fun {out na nb} M h1 h2 e=>by
  refine MR.finH M hA hB h1 h2 fun x hx y hy=>?_
  rcases e with rfl | rfl
  . rw [List.take_zero] at hy;cases hy
  . rw [List.take_zero] at hx;cases hx
 have fb:∀{out:Array Keyed} {na nb:Nat},MH rk a b out na nb->na<=a.size->nb<=b.size->nb=1->(b.extract 0 nb++a.extract 0 na++out.reverse).toList.Perm (a.toList++b.toList)/\Asc rk (b.extract 0 nb++a.extract 0 na++out.reverse).toList:=fun {out na nb} M h1 h2 e=>by
  have f:=MR.finH (a:=b) (b:=a) M.swap hB hA h2 h1 fun x hx y hy=>?_
  . exact ⟨f.1.trans List.perm_append_comm,f.2⟩
  . obtain ⟨i,hi,ex⟩:=List.mem_iff_getElem.mp (List.mem_of_mem_take hx);have hi':i<a.size:=by simpa using hi
    have q:=first i hi'
    rw [i8 hi'] at q;rw [<-ex];refine Nat.le_trans (Rs (r:=tk rk b 0) (fun j z1 z2=>by rw [show j=0 by lia];exact ζ _) y hy) (by simpa using q)
 unfold mhi
 refine δ (U0 ?_)
 iterate 3 refine m9 ?_
 refine δ (k6 (show a.size - 1<a.size by lia) ?_)
 iterate 3 refine m9 ?_
 by_cases e1:a.size - 1=0
 . rw [ξ (by simpa using e1)];exact π (h _ st (.refl _) (dn M0 (by lia) (ζ _) (.inl e1)))
 rw [ψ (by simpa using e1)]
 by_cases e2:b.size=1
 . rw [ξ (by simpa using e2)];exact π (h _ st (.refl _) (fb M0 (by lia) (ζ _) e2))
 rw [ψ (by simpa using e2)]
 refine δ (wpS_get ?_)
 refine m9 ?_
 refine δ (wpS_mono (wpS_forRange (I:=fun x c u=>GS st u/\∃na nb out g,c=(none,na,nb,out,g)/\MH rk a b out na nb/\(0<na/\na<=a.size)/\(1<nb/\nb<=b.size)/\na+nb+x+1<=a.size+b.size)
  (Q:=fun c u=>GS st u/\∃r t,c=(some r,t)/\r.toList.Perm (a.toList++b.toList)/\Asc rk r.toList) ?step ?fin ⟨.refl _,_,_,_,_,rfl,M0,by lia,by lia,by lia⟩) ?post)
 case fin=>
  rintro c u ⟨_,na,nb,out,g,rfl,_,h1,h2,h3⟩
  simp only [Nat.zero_max] at h3
  lia
 case post=>
  rintro c u ⟨G,r,t,rfl,f⟩
  exact π (h r u G f)
 case step=>
  rintro x c u _ _ ⟨G,na,nb,out,g,rfl,M,h1,h2,h3⟩
  iterate 9 refine m9 ?_
  dsimp -zetaHave only
  refine δ (wpS_mono (wpS_forRange (I:=fun y c v=>v=u/\∃na nb out ac bc,c=(none,na,nb,out,ac,bc)/\MH rk a b out na nb/\(0<na/\na<=a.size)/\(1<nb/\nb<=b.size)/\na+nb+x+1+y<=a.size+b.size)
   (Q:=fun c v=>v=u/\((∃r t,c=(some r,t)/\r.toList.Perm (a.toList++b.toList)/\Asc rk r.toList)\/∃na nb out ac bc,c=(none,na,nb,out,ac,bc)/\MH rk a b out na nb/\(0<na/\na<=a.size)/\(1<nb/\nb<=b.size)/\na+nb+x+2<=a.size+b.size))
   ?walk ?wfin ⟨rfl,na,nb,out,0,0,rfl,M,h1,h2,by lia⟩) ?wpost)
  case wfin=>
   rintro c v ⟨rfl,na,nb,out,ac,bc,rfl,M,h1,h2,h3⟩
   simp only [Nat.zero_max] at h3
   exact ⟨rfl,.inr ⟨na,nb,out,ac,bc,rfl,M,h1,h2,by lia⟩⟩
  case walk=>
   rintro y c v _ _ ⟨rfl,na,nb,out,ac,bc,rfl,M,h1,h2,h3⟩
   iterate 9 refine m9 ?_
   dsimp -zetaHave only
   refine δ (k6 (show nb - 1<b.size by lia) (δ (k6 (show na - 1<a.size by lia) (δ (hc _ _ (bin _ (Array.getElem_mem _)) (ain _ (Array.getElem_mem _)) _ _ (G.kind.trans hk) ?_)))))
   rw [<-i8 (rk:=rk),<-i8 (rk:=rk)]
   by_cases l:tk rk b (nb - 1)<tk rk a (na - 1)
   . rw [decide_eq_true l];dsimp -zetaHave only;rw [ξ rfl];have M':=MR.pushH M hA h1.1 h1.2 h2.2 fun j z=>Nat.le_trans (w6 hB (show j<=nb - 1 by lia) (by lia)) (Nat.le_of_lt l)
     refine δ (k6 (show na - 1<a.size by lia) ?_)
     iterate 4 refine m9 ?_
     by_cases f1:na - 1=0
     . rw [ξ (by simpa using f1)];exact π ⟨rfl,.inl ⟨_,_,rfl,dn M' (by lia) h2.2 (.inl f1)⟩⟩
     rw [ψ (by simpa using f1)];split
     . exact π ⟨rfl,.inr ⟨_,_,_,_,_,rfl,M',by lia,h2,by lia⟩⟩
     . exact π ⟨rfl,_,_,_,_,_,rfl,M',by lia,h2,by lia⟩
   . rw [decide_eq_false l];dsimp -zetaHave only;rw [ψ η];have M':MH rk a b (out.push b[nb - 1]) na (nb - 1):=(MR.pushH (a:=b) (b:=a) M.swap hB (by lia) h2.2 h1.2 fun j z=>Nat.le_trans (w6 hA (show j<=na - 1 by lia) (by lia)) (Nat.not_lt.mp l)).swap;refine δ (k6 (show nb - 1<b.size by lia) ?_)
     iterate 4 refine m9 ?_
     by_cases f1:nb - 1=1
     . rw [ξ (by simpa using f1)];exact π ⟨rfl,.inl ⟨_,_,rfl,fb M' h1.2 (by lia) f1⟩⟩
     rw [ψ (by simpa using f1)];split
     . exact π ⟨rfl,.inr ⟨_,_,_,_,_,rfl,M',h1,by lia,by lia⟩⟩
     . exact π ⟨rfl,_,_,_,_,_,rfl,M',h1,by lia,by lia⟩
  case wpost=>
   rintro c v ⟨rfl,⟨r,t,rfl,f⟩ | ⟨na,nb,out,ac,bc,rfl,M,h1,h2,h3⟩⟩
   . exact π ⟨G,r,_,rfl,f⟩
   iterate 10 refine m9 ?_
   dsimp -zetaHave only
   refine δ (U0 ?_)
   refine m9 ?_
   refine δ (wpS_mono (wpS_forRange (I:=fun _ c v=>GS st v/\∃na nb out mg ac bc,c=(none,na,nb,out,mg,ac,bc)/\MH rk a b out na nb/\(0<na/\na<=a.size)/\(1<nb/\nb<=b.size)/\na+nb+x+2<=a.size+b.size)
    (Q:=fun c v=>GS st v/\((∃r t,c=(some r,t)/\r.toList.Perm (a.toList++b.toList)/\Asc rk r.toList)\/∃na nb out mg ac bc,c=(none,na,nb,out,mg,ac,bc)/\MH rk a b out na nb/\(0<na/\na<=a.size)/\(1<nb/\nb<=b.size)/\na+nb+x+2<=a.size+b.size))
    ?jump (fun c v hI=>⟨hI.1,.inr hI.2⟩) ⟨G,na,nb,out,_,ac,bc,rfl,M,h1,h2,h3⟩) ?jpost)
   case jpost=>
    rintro c v2 ⟨G2,⟨r,t,rfl,f⟩ | ⟨na,nb,out,mg,ac,bc,rfl,M,h1,h2,h3⟩⟩
    . exact π ⟨G2,r,_,rfl,f⟩
    . exact δ (wpS_modify (π ⟨G2.g _,na,nb,out,_,rfl,M,h1,h2,by lia⟩))
   case jump=>
    clear M h1 h2 h3 out na nb ac bc
    rintro y c v2 _ _ ⟨G2,na,nb,out,mg,ac,bc,rfl,M,h1,h2,h3⟩
    extract_lets s1 n1 s2 b1 s3 o1 s4 m1 s5 a1 c1 nb1 jp mg1
    have N:MH rk a b o1 n1 b1/\(0<n1/\n1<=a.size)/\(1<b1/\b1<=b.size)/\n1+b1+x+2<=a.size+b.size:=⟨M,h1,h2,h3⟩
    have eb:nb1=b1 - 1:=rfl
    clear M h1 h2 h3
    clear_value o1 n1 b1 m1 a1 c1 nb1
    obtain ⟨M,h1,h2,h3⟩:=N
    have hb1:b1 - 1<b.size:=by lia
    refine Tw (g:=jp ⟨⟩) fun m=>?_
    refine δ (wpS_modify ?_)
    refine δ (k6 hb1 ?_)
    refine δ (S8 hc (by exact G2.kind.trans hk) (bin _ (Array.getElem_mem _)) ain (by lia) (by lia) (fun i j z1 z2 z3=>?_) fun p hp lt gt=>?_)
    . unfold bey at z3 ⊢;rw [ψ η] at z3 ⊢;have:=w6 hA (show 0+i<=0+j by lia) (by lia);simp only [Bool.not_eq_true',decide_eq_false_iff_not] at z3 ⊢
      lia
    dsimp -zetaHave only
    have ca:∀i,p<=i->i<n1->tk rk b (b1 - 1)<=tk rk a i:=fun i z1 z2=>by
     have:=gt i z1 z2;unfold bey at this;rw [ψ η,<-i8 (rk:=rk),Nat.zero_add] at this;simp only [Bool.not_eq_false',decide_eq_true_eq] at this
     lia
    have cb:∀i,i<p->tk rk a i<=tk rk b (b1 - 1):=fun i z=>by
     have:=lt i z;unfold bey at this;rw [ψ η,<-i8 (rk:=rk),Nat.zero_add] at this;simp only [Bool.not_eq_true',decide_eq_false_iff_not] at this
     lia
    have M1:=MR.extH M hA (p:=p) hp h1.2 h2.2 ca fun j z=>w6 hB (show j<=b1 - 1 by lia) (by lia)
    clear ca lt gt
    extract_lets k ac2 jq o2 n2
    refine Dc (jq ⟨⟩) (fun na1 out1=>MH rk a b out1 na1 b1/\(0<na1/\na1<=a.size)/\(∀i,i<na1->tk rk a i<=tk rk b (b1 - 1))/\na1+b1+x+2<=a.size+b.size) (fun na1 out1 z=>?_) fun J=>?_
    rotate_left
    . have ek:k=n1 - p:=rfl;split
      . by_cases f1:p=0
        . rw [ξ (by simpa using f1)];exact π ⟨G2.g _,.inl ⟨_,_,rfl,dn M1 (by lia) h2.2 (.inl f1)⟩⟩
        rw [ψ (by simpa using f1)];exact J _ _ ⟨M1,by lia,cb,by lia⟩
      . exact J n1 o1 ⟨M,h1,fun i z=>cb i (by lia),h3⟩
    clear M M1 cb h1 h3 o2 n2
    obtain ⟨M2,q1,r1,p1⟩:=z
    rw [<-eb] at hb1 r1
    refine δ (k6 hb1 ?_)
    extract_lets o3 na2
    have M3:MH rk a b (out1.push b[b1 - 1]) na1 (b1 - 1):=(MR.pushH (a:=b) (b:=a) M2.swap hB (by lia) h2.2 q1.2 (eb ▸ r1)).swap
    have M3:MH rk a b o3 na1 nb1:=by subst eb;exact M3
    clear_value o3
    by_cases f3:nb1=1
    . rw [ξ (by simpa using f3)];exact π ⟨G2.g _,.inl ⟨_,_,rfl,fb M3 q1.2 (by lia) f3⟩⟩
    rw [ψ (by simpa using f3)]
    have hi1:na1 - 1<a.size:=by lia
    refine δ (k6 hi1 ?_)
    refine δ (S8 hc (by exact G2.kind.trans hk) (ain _ (Array.getElem_mem _)) bin (by lia) (by lia) (fun i j z1 z2 z3=>?_) fun p2 hp2 lt gt=>?_)
    . unfold bey at z3 ⊢;rw [ξ rfl] at z3 ⊢;have:=w6 hB (show 0+i<=0+j by lia) (by lia);simp only [decide_eq_true_eq] at z3 ⊢
      lia
    dsimp -zetaHave only
    have ca:∀i,p2<=i->i<nb1->tk rk a (na1 - 1)<=tk rk b i:=fun i z1 z2=>by
     have:=gt i z1 z2;unfold bey at this;rw [ξ rfl,<-i8 (rk:=rk),Nat.zero_add] at this;simp only [decide_eq_false_iff_not] at this
     lia
    have cb:∀i,i<p2->tk rk b i<=tk rk a (na1 - 1):=fun i z=>by
     have:=lt i z;unfold bey at this;rw [ξ rfl,<-i8 (rk:=rk),Nat.zero_add] at this;simp only [decide_eq_true_eq] at this
     lia
    have M4:MH rk a b (o3++(b.extract p2 nb1).reverse) na1 p2:=(MR.extH (a:=b) (b:=a) M3.swap hB (p:=p2) hp2 (by lia) q1.2 ca fun j z=>w6 hA (show j<=na1 - 1 by lia) (by lia)).swap
    clear ca lt gt
    extract_lets k2 bc2 jr o4 nb2
    refine Dc (jr ⟨⟩) (fun nb out3=>MH rk a b out3 na1 nb/\(1<nb/\nb<=b.size)/\(∀i,i<nb->tk rk b i<=tk rk a (na1 - 1))/\na1+nb+x+2<=a.size+b.size) (fun nb out3 z=>?_) fun J=>?_
    rotate_left
    . have ek:k2=nb1 - p2:=rfl;split
      . by_cases f4:p2=1
        . rw [ξ (by simpa using f4)];exact π ⟨G2.g _,.inl ⟨_,_,rfl,fb M4 q1.2 (by lia) f4⟩⟩
        rw [ψ (by simpa using f4)];by_cases f5:p2=0
        . rw [ξ (by simpa using f5)];exact π ⟨G2.g _,.inl ⟨_,_,rfl,dn M4 q1.2 (by lia) (.inr f5)⟩⟩
        rw [ψ (by simpa using f5)];exact J _ _ ⟨M4,by lia,cb,by lia⟩
      . exact J nb1 o3 ⟨M3,by lia,fun i z=>cb i (by lia),by lia⟩
    clear M4 M3 cb o4 nb2
    obtain ⟨M5,b2,c2,p2⟩:=z
    refine δ (k6 hi1 ?_)
    extract_lets o5
    have M6:=MR.pushH M5 hA q1.1 q1.2 b2.2 c2
    by_cases f6:na1 - 1=0
    . rw [ξ (show (na2==0)=true by simpa using f6)];exact π ⟨G2.g _,.inl ⟨_,_,rfl,dn M6 (by lia) b2.2 (.inl f6)⟩⟩
    rw [ψ (show ¬(na2==0)=true by simpa using f6)]
    split
    . exact π ⟨G2.g _,.inr ⟨_,_,_,_,_,_,rfl,M6,by lia,b2,by lia⟩⟩
    . exact π ⟨G2.g _,_,_,_,_,_,_,rfl,M6,by lia,b2,by lia⟩
end
section
variable {rk:Keyed->Nat}
theorem Pn (c:Nat):∀(m:List Keyed) (n:Nat) (ys:Array Keyed),c+n+m.length<=ys.size ->
  ((m.zipIdx n).foldl (fun a (q:Keyed×Nat)=>a.setIfInBounds (c+q.2) q.1) ys).toList=ys.toList.take (c+n)++m++ys.toList.drop (c+n+m.length)
 | [],n,ys,_=>by simp
 | p::m,n,ys,h=>by
  simp only [List.length_cons] at h;rw [List.zipIdx_cons,List.foldl_cons,Pn c m (n+1) _ (by rw [Array.size_setIfInBounds];lia),Array.toList_setIfInBounds];have hl:c+n<ys.toList.length:=by rw [Array.length_toList];lia
  rw [show c+(n+1)=c+n+1 by lia,List.take_set,List.drop_set_of_lt (by lia),List.take_succ_eq_append_getElem hl,List.set_append_right _ _ (by rw [List.length_take];lia)];rw [List.length_take,show c+n - min (c+n) ys.toList.length=0 by lia,List.set_cons_zero,List.length_cons,show c+n+1+m.length=c+n+(m.length+1) by lia];simp
structure Seg (xs:Array Keyed) (pre X post:List Keyed):Prop where
 eq:xs.toList=pre++X++post
variable {xs:Array Keyed} {pre X post:List Keyed}
theorem Seg.size (S:Seg xs pre X post):xs.size=pre.length+X.length+post.length:=by rw [<-Array.length_toList,S.eq,θ,θ]
theorem Seg.at (S:Seg xs pre X post) (h:i<X.length):∃hh:pre.length+i<xs.size,xs[pre.length+i]=X[i]:=by refine ⟨by rw [S.size];lia,?_⟩;rw [<-Array.getElem_toList];simp only [S.eq];rw [List.getElem_append_left (by rw [θ];lia),List.getElem_append_right (by lia)];simp
theorem Seg.tk (S:Seg xs pre X post) (h:i<X.length):tk rk xs (pre.length+i)=rk X[i]:=by obtain ⟨hh,e⟩:=S.at h;rw [i8 hh,e]
theorem Asc.at (h:Asc rk l) (hij:i<=j) (hj:j<l.length):rk l[i]<=rk l[j]:=by
 rcases Nat.lt_or_ge i j with z | z
 . exact List.pairwise_iff_getElem.mp h i j (by lia) hj z
 . obtain rfl:i=j:=by lia
   exact ζ _
theorem Seg.ext (S:Seg xs pre X post) (k m:Nat) (h:k<=m) (hm:m<=X.length):(xs.extract (pre.length+k) (pre.length+m)).toList=(X.drop k).take (m - k):=by
 rw [Array.toList_extract,List.extract_eq_take_drop,S.eq,List.append_assoc,<-List.drop_drop,List.drop_left,List.drop_append_of_le_length (by lia),show pre.length+m - (pre.length+k)=m - k by lia,
  List.take_append_of_le_length (by rw [List.length_drop];lia)]
end
section
variable {prog:Program} {w:World} {A:Around} {E:Value->Shared->Prop} {s:Shared} {κ:SortKind} {a₀:Array Keyed} {rk:Keyed->Nat}
theorem Yo (e:a.toList=l) (h:i<l.length):tk rk a i=rk l[i]:=by subst e;rw [i8 (by simpa using h)];simp
theorem y06 {σ:Type} {M:Model} {v st:σ} {Q:PUnit->σ->Prop} (h:Q ⟨⟩ v):wpS M A E s (set v:StateT σ Sem PUnit) Q st:=by unfold wpS;rw [StateT.run_set];exact ω ⟨rfl,h⟩
theorem y2n (hc:x6 prog w A E s κ a₀ rk) {st:SortSt} (B:TBs κ a₀ st) {L R:List (Nat×Nat×Nat)} {pw pw':Nat} {pre X Y post:List Keyed} (hP:(pendingOf st).toList=L++(pre.length,X.length,pw)::(pre.length+X.length,Y.length,pw')::R)
  (hx:(arrOf st).toList=pre++X++(Y++post)) (aX:Asc rk X) (aY:Asc rk Y) (nX:0<X.length) (nY:0<Y.length) {Q:Bool->SortSt->Prop}
  (h:∀u Z,TBs κ a₀ u->(pendingOf u).toList=L++(pre.length,X.length+Y.length,pw)::R->(arrOf u).toList=pre++Z++post->Asc rk Z->Z.length=X.length+Y.length->Q true u):wpS (model prog w) A E s (mergeAt' L.length) Q st:=by
 have S1:Seg (arrOf st) pre X (Y++post):=⟨hx⟩
 have S2:Seg (arrOf st) (pre++X) Y post:=⟨by rw [hx,<-List.append_assoc]⟩
 have l2:(pre++X).length=pre.length+X.length:=θ
 have p1:(pendingOf st)[L.length]?=some (pre.length,X.length,pw):=by rw [<-Array.getElem?_toList,hP];simp
 have p2:(pendingOf st)[L.length+1]?=some (pre.length+X.length,Y.length,pw'):=by rw [<-Array.getElem?_toList,hP];simp
 have pn:(((pendingOf st).setIfInBounds L.length (pre.length,X.length+Y.length,pw)).eraseIdxIfInBounds (L.length+1)).toList=L++(pre.length,X.length+Y.length,pw)::R:=by rw [Array.toList_eraseIdxIfInBounds,Array.toList_setIfInBounds,hP];simp [List.eraseIdx_append_of_length_le]
 unfold mergeAt'
 refine δ (wpS_get ?_)
 dsimp only
 rw [p1,p2]
 dsimp only
 refine δ (y06 ?_)
 have z0:pre.length+X.length<(arrOf st).size:=by rw [S1.size,θ];lia
 refine δ (k6 z0 ?_)
 have kin:∀x∈arrOf st,x∈a₀:=fun x hx=>B.mem hx
 have hX:=S1.size
 rw [θ] at hX
 have vX:∀{i:Nat} (hi:i<X.length),tk rk (arrOf st) (pre.length+i)=rk X[i]:=fun hi=>S1.tk hi
 have vY:∀{i:Nat} (hi:i<Y.length),tk rk (arrOf st) (pre.length+X.length+i)=rk Y[i]:=fun {i} hi=>by have:=S2.tk (rk:=rk) hi;rwa [l2] at this
 have ky:rk (arrOf st)[pre.length+X.length]=rk Y[0]:=by rw [<-i8 (rk:=rk) z0];exact vY nY
 refine δ (S8 hc (by exact B.kind) (kin _ (Array.getElem_mem _)) kin (by lia) nX (fun i j z1 z2 z3=>?_) fun k hkn lt gt=>?_)
 . unfold bey at z3 ⊢;rw [ψ η] at z3 ⊢;rw [vX (by lia)] at z3 ⊢;have:=aX.at z1 z2;simp only [Bool.not_eq_true',decide_eq_false_iff_not] at z3 ⊢
   lia
 dsimp only
 have ca:∀i (hi:i<X.length),i<k->rk X[i]<=rk Y[0]:=fun i hi z=>by
  have:=lt i z;unfold bey at this;rw [ψ η,vX hi,ky] at this;simp only [Bool.not_eq_true',decide_eq_false_iff_not] at this
  lia
 have cb:∀i (hi:i<X.length),k<=i->rk Y[0]<rk X[i]:=fun i hi z=>by have:=gt i z hi;unfold bey at this;rw [ψ η,vX hi,ky] at this;simpa using this
 have finXY:(∀i (hi:i<X.length) j (hj:j<Y.length),rk X[i]<=rk Y[j])->Asc rk (X++Y):=fun q=>by refine List.pairwise_append.mpr ⟨aX,aY,fun x hx y hy=>?_⟩;obtain ⟨i,hi,rfl⟩:=List.mem_iff_getElem.mp hx;obtain ⟨j,hj,rfl⟩:=List.mem_iff_getElem.mp hy;exact q i hi j hj
 by_cases e1:X.length - k=0
 . rw [ξ (by simpa using e1)];exact π (h _ (X++Y) ⟨B.perm,B.kind,B.ok⟩ pn (by show (arrOf st).toList=_;rw [hx];simp) (finXY fun i hi j hj=>Nat.le_trans (ca i hi (by lia)) (aY.at (Nat.zero_le _) hj)) θ)
 rw [ψ (by simpa using e1)]
 have z1:pre.length+k+(X.length - k) - 1<(arrOf st).size:=by lia
 refine δ (k6 z1 ?_)
 have kx:rk (arrOf st)[pre.length+k+(X.length - k) - 1]=rk X[X.length - 1]:=by rw [<-i8 (rk:=rk) z1,show pre.length+k+(X.length - k) - 1=pre.length+(X.length - 1) by lia];exact vX (by lia)
 refine δ (S8 hc (by exact B.kind) (kin _ (Array.getElem_mem _)) kin (by lia) (by lia) (fun i j z1 z2 z3=>?_) fun m hm lt2 gt2=>?_)
 . unfold bey at z3 ⊢;rw [ξ rfl] at z3 ⊢;rw [vY (by lia)] at z3 ⊢;have:=aY.at z1 z2;simp only [decide_eq_true_eq] at z3 ⊢
   lia
 dsimp only
 have da:∀j (hj:j<Y.length),j<m->rk Y[j]<rk X[X.length - 1]:=fun j hj z=>by have:=lt2 j z;unfold bey at this;rw [ξ rfl,vY hj,kx] at this;simpa using this
 have db:∀j (hj:j<Y.length),m<=j->rk X[X.length - 1]<=rk Y[j]:=fun j hj z=>by
  have:=gt2 j z hj;unfold bey at this;rw [ξ rfl,vY hj,kx] at this;simp only [decide_eq_false_iff_not] at this
  lia
 by_cases e2:m=0
 . rw [ξ (by simpa using e2)];exact π (h _ (X++Y) ⟨B.perm,B.kind,B.ok⟩ pn (by show (arrOf st).toList=_;rw [hx];simp) (finXY fun i hi j hj=>Nat.le_trans (aX.at (show i<=X.length - 1 by lia) (by lia)) (db j hj (by lia))) θ)
 rw [ψ (by simpa using e2)]
 have ex:((arrOf st).extract (pre.length+k) (pre.length+X.length)).toList=X.drop k:=by rw [S1.ext k X.length hkn (ζ _)];exact List.take_of_length_le (by rw [List.length_drop];lia)
 have ey:((arrOf st).extract (pre.length+X.length) (pre.length+X.length+m)).toList=Y.take m:=by have:=S2.ext 0 m (Nat.zero_le _) hm;rwa [l2,Nat.add_zero,List.drop_zero,Nat.sub_zero] at this
 generalize hx1:(arrOf st).extract (pre.length+k) (pre.length+X.length)=x1 at *
 generalize hy1:(arrOf st).extract (pre.length+X.length) (pre.length+X.length+m)=y1 at *
 have lx:x1.size=X.length - k:=by rw [<-Array.length_toList,ex,List.length_drop]
 have ly:y1.size=m:=by rw [<-Array.length_toList,ey,List.length_take];lia
 have tx:∀i,i<X.length - k->∃hi:k+i<X.length,tk rk x1 i=rk X[k+i]:=fun i hi=>⟨by lia,by rw [Yo ex (by rw [List.length_drop];exact hi),List.getElem_drop]⟩
 have ty:∀i,i<m->∃hi:i<Y.length,tk rk y1 i=rk Y[i]:=fun i hi=>⟨by lia,by rw [Yo ey (by rw [List.length_take];lia),List.getElem_take]⟩
 have xin:∀x∈x1,x∈a₀:=fun x hx=>kin x (Array.mem_def.mpr (by rw [Array.mem_def,ex] at hx;rw [S1.eq];exact List.mem_append_left _ (List.mem_append_right _ (List.mem_of_mem_drop hx))))
 have yin:∀x∈y1,x∈a₀:=fun x hx=>kin x (Array.mem_def.mpr (by rw [Array.mem_def,ey] at hx;rw [S2.eq];exact List.mem_append_left _ (List.mem_append_right _ (List.mem_of_mem_take hx))))
 have first:∀j,j<x1.size->tk rk y1 0<=tk rk x1 j:=fun j hj=>by obtain ⟨h1,e1⟩:=tx j (by lia);obtain ⟨h2,e2⟩:=ty 0 (by lia);rw [e1,e2];exact Nat.le_of_lt (cb _ h1 (by lia))
 have last:∀j,j<y1.size->tk rk y1 j<=tk rk x1 (x1.size - 1):=fun j hj=>by
  obtain ⟨h1,e1⟩:=tx (x1.size - 1) (by lia);obtain ⟨h2,e2⟩:=ty j (by lia);rw [e1,e2];have:=da j h2 (by lia);simp only [show k+(x1.size - 1)=X.length - 1 by lia]
  lia
 have A1:Asc rk x1.toList:=by rw [ex];exact aX.drop k
 have A2:Asc rk y1.toList:=by rw [ey];exact aY.take m
 have done:∀(out:Array Keyed) (u:SortSt),GS (SortSt.mk' (kindOf st) (arrOf st) (((pendingOf st).setIfInBounds L.length (pre.length,X.length+Y.length,pw)).eraseIdxIfInBounds (L.length+1)) (gallopOf st) (failedOf st)) u->out.toList.Perm (x1.toList++y1.toList)/\Asc rk out.toList ->
   Q (failedOf (SortSt.mk' (kindOf u) (List.foldl (fun a (q:Keyed×Nat)=>a.setIfInBounds (pre.length+k+q.2) q.1) (arrOf u) out.toList.zipIdx) (pendingOf u) (gallopOf u) (failedOf u))).isNone (SortSt.mk' (kindOf u) (List.foldl (fun a (q:Keyed×Nat)=>a.setIfInBounds (pre.length+k+q.2) q.1) (arrOf u) out.toList.zipIdx) (pendingOf u) (gallopOf u) (failedOf u)):=fun out u G f=>by
  have eu:arrOf u=arrOf st:=G.arr
  have lo:out.toList.length=X.length - k+m:=by rw [f.1.length_eq,θ,ex,ey,List.length_drop,List.length_take];lia
  have en:=Pn (pre.length+k) out.toList 0 (arrOf u) (by rw [eu];lia)
  rw [Nat.add_zero,eu,hx,lo] at en
  have t1:(pre++X++(Y++post)).take (pre.length+k)=pre++X.take k:=by rw [List.append_assoc,List.take_length_add_append,List.take_append_of_le_length hkn]
  have t2:(pre++X++(Y++post)).drop (pre.length+k+(X.length - k+m))=Y.drop m++post:=by rw [show pre.length+k+(X.length - k+m)=(pre++X).length+m by rw [l2];lia,List.drop_length_add_append,List.drop_append_of_le_length hm]
  rw [t1,t2] at en
  have ok:failedOf u=none:=G.ok.trans B.ok
  have pz:(X.take k++out.toList++Y.drop m).Perm (X++Y):=by refine ((f.1.append_left (X.take k)).append_right (Y.drop m)).trans ?_;rw [ex,ey,<-List.append_assoc,List.take_append_drop,List.append_assoc,List.take_append_drop]
  rw [show (failedOf (SortSt.mk' (kindOf u) (List.foldl (fun a (q:Keyed×Nat)=>a.setIfInBounds (pre.length+k+q.2) q.1) (arrOf u) out.toList.zipIdx) (pendingOf u) (gallopOf u) (failedOf u))).isNone=true by show (failedOf u).isNone=true;rw [ok];rfl]
  refine h _ (X.take k++out.toList++Y.drop m) ⟨?_,G.kind.trans B.kind,ok⟩ (by show (pendingOf u).toList=_;rw [G.pend];exact pn) (by show (List.foldl _ (arrOf u) _).toList=_;rw [eu,en];simp) ?_ (by rw [pz.length_eq,θ])
  . refine Array.perm_iff_toList_perm.mpr ?_;show (List.foldl _ (arrOf u) _).toList.Perm _;rw [eu,en];refine List.Perm.trans ?_ (Array.perm_iff_toList_perm.mp B.perm);rw [hx];have e1:pre++X.take k++out.toList++(Y.drop m++post)=pre++((X.take k++out.toList++Y.drop m)++post):=by simp
    have e2:pre++X++(Y++post)=pre++((X++Y)++post):=by simp
    rw [e1,e2];exact (pz.append_right _).append_left _
  . have mem1:∀y∈out.toList,(∃(i:Nat) (hi:i<X.length),k<=i/\y=X[i])\/∃(j:Nat) (hj:j<Y.length),j<m/\y=Y[j]:=fun y hy=>by
     rcases List.mem_append.mp (f.1.mem_iff.mp hy) with z | z
     . rw [ex] at z;obtain ⟨i,hi,rfl⟩:=List.mem_iff_getElem.mp z;rw [List.length_drop] at hi;exact .inl ⟨k+i,by lia,by lia,List.getElem_drop⟩
     . rw [ey] at z;obtain ⟨i,hi,rfl⟩:=List.mem_iff_getElem.mp z;rw [List.length_take] at hi;exact .inr ⟨i,by lia,by lia,List.getElem_take⟩
    refine List.pairwise_append.mpr ⟨List.pairwise_append.mpr ⟨aX.take k,f.2,fun x hx y hy=>?_⟩,aY.drop m,fun x hx y hy=>?_⟩
    . obtain ⟨i,hi,rfl⟩:=List.mem_iff_getElem.mp hx;rw [List.length_take] at hi;rw [List.getElem_take];rcases mem1 y hy with ⟨j,hj,z,rfl⟩ | ⟨j,hj,z,rfl⟩
      . exact aX.at (by lia) hj
      . exact Nat.le_trans (ca i (by lia) (by lia)) (aY.at (Nat.zero_le _) hj)
    . obtain ⟨j,hj,rfl⟩:=List.mem_iff_getElem.mp hy;rw [List.length_drop] at hj;rw [List.getElem_drop];rcases List.mem_append.mp hx with z | z
      . obtain ⟨i,hi,rfl⟩:=List.mem_iff_getElem.mp z;rw [List.length_take] at hi;rw [List.getElem_take];exact Nat.le_trans (ca i (by lia) (by lia)) (aY.at (Nat.zero_le _) (by lia))
      . rcases mem1 x z with ⟨i,hi,_,rfl⟩ | ⟨i,hi,q,rfl⟩
        . exact Nat.le_trans (aX.at (show i<=X.length - 1 by lia) (by lia)) (db _ (by lia) (by lia))
        . exact aY.at (by lia) (by lia)
 by_cases e3:X.length - k<=m
 . rw [ξ e3];exact δ (y2l hc (by exact B.kind) xin yin A1 A2 (by lia) (by lia) first last fun out u G f=>δ (wpS_modify (δ (wpS_get (π (done out u G f))))))
 . rw [ψ e3];exact δ (y2m hc (by exact B.kind) xin yin A1 A2 (by lia) (by lia) first last fun out u G f=>δ (wpS_modify (δ (wpS_get (π (done out u G f))))))
end
section
variable {rk:Keyed->Nat}
noncomputable def pend:Nat->List (List Keyed×Nat)->List (Nat×Nat×Nat)
 | _,[]=>[]
 | lo,(X,pw)::S=>(lo,X.length,pw)::pend (lo+X.length) S
noncomputable def g9 (S:List (List Keyed×Nat)):List Keyed:=(S.map (·.1)).flatten
theorem E9 (S T:List (List Keyed×Nat)):g9 (S++T)=g9 S++g9 T:=by simp [g9]
theorem v3 (X:List Keyed) (pw:Nat) (S:List (List Keyed×Nat)):g9 ((X,pw)::S)=X++g9 S:=by simp [g9]
theorem V4:∀(lo:Nat) (S T:List (List Keyed×Nat)),pend lo (S++T)=pend lo S++pend (lo+(g9 S).length) T
 | lo,[],T=>by simp [pend,g9]
 | lo,(X,pw)::S,T=>by rw [List.cons_append,pend,pend,V4,v3,θ,List.cons_append,Nat.add_assoc]
theorem V3:∀(lo:Nat) (S:List (List Keyed×Nat)),(pend lo S).length=S.length
 | _,[]=>rfl
 | lo,(X,pw)::S=>by rw [pend,List.length_cons,V3,List.length_cons]
structure Runs (rk:Keyed->Nat) (u:SortSt) (S:List (List Keyed×Nat)) (rest:List Keyed):Prop where
 arr:(arrOf u).toList=g9 S++rest
 pend:(pendingOf u).toList=L2.pend 0 S
 asc:∀X∈S,Asc rk X.1/\0<X.1.length
variable {prog:Program} {w:World} {A:Around} {E:Value->Shared->Prop} {s:Shared} {κ:SortKind} {a₀:Array Keyed}
theorem kI (hc:x6 prog w A E s κ a₀ rk) {u:SortSt} (B:TBs κ a₀ u) {S T:List (List Keyed×Nat)} {X Y:List Keyed} {pw pw':Nat} {rest:List Keyed} (H:Runs rk u (S++(X,pw)::(Y,pw')::T) rest) {Q:Bool->SortSt->Prop}
  (h:∀v Z,TBs κ a₀ v->Runs rk v (S++(Z,pw)::T) rest->Z.length=X.length+Y.length->Q true v):wpS (model prog w) A E s (mergeAt' S.length) Q u:=by
 have aX:=H.asc (X,pw) (by simp)
 have aY:=H.asc (Y,pw') (by simp)
 have hl:(pend 0 S).length=S.length:=V3 0 S
 rw [<-hl]
 refine y2n hc B (L:=pend 0 S) (R:=pend ((g9 S).length+X.length+Y.length) T) (pw:=pw) (pw':=pw') (pre:=g9 S) (X:=X) (Y:=Y) (post:=g9 T++rest) ?_ ?_ aX.1 aY.1 aX.2 aY.2 fun v Z B' hp ha aZ lZ=>?_
 . rw [H.pend,V4,Nat.zero_add,pend,pend]
 . rw [H.arr,E9,v3,v3];simp
 . refine h v Z B' ⟨?_,?_,fun W hW=>?_⟩ lZ
   . rw [ha,E9,v3];simp
   . rw [hp,V4,Nat.zero_add,pend,lZ,Nat.add_assoc]
   . rcases List.mem_append.mp hW with z | z
     . exact H.asc W (List.mem_append_left _ z)
     . rcases List.mem_cons.mp z with rfl | z
       . exact ⟨aZ,by show 0<Z.length;rw [lZ];exact Nat.lt_of_lt_of_le aX.2 (Nat.le_add_right _ _)⟩
       . exact H.asc W (List.mem_append_right _ (.tail _ (.tail _ z)))
theorem kH {xs:Array Keyed} {lo n:Nat} (h:TSo rk xs lo (lo+n)) (hz:lo+n<=xs.size):Asc rk ((xs.toList.drop lo).take n):=by
 refine List.pairwise_iff_getElem.mpr fun i j hi hj hij=>?_
 simp only [List.length_take,List.length_drop,Array.length_toList] at hi hj;have:=h (lo+i) (lo+j) (by lia) (by lia) (by lia);rw [i8 (by lia),i8 (by lia)] at this;simpa using this
theorem Runs.few {u:SortSt} {rest:List Keyed}:∀{S:List (List Keyed×Nat)},(∀X∈S,Asc rk X.1/\0<X.1.length)->S.length<=(g9 S).length
 | [],_=>Nat.zero_le _
 | (X,pw)::S,h=>by
  have:=Runs.few (u:=u) (rest:=rest) (S:=S) fun Y hY=>h Y (.tail _ hY)
  have:=(h (X,pw) (.head _)).2;rw [v3,θ,List.length_cons];simp only at this
  lia
theorem kG (h:i+1<S.length):∃S1 X pw Y pw' T,S=S1++(X,pw)::(Y,pw')::T/\S1.length=i:=by refine ⟨S.take i,S[i].1,S[i].2,S[i+1].1,S[i+1].2,S.drop (i+2),?_,by rw [List.length_take];lia⟩;have e1:=List.drop_eq_getElem_cons (show i<S.length by lia);have e2:=List.drop_eq_getElem_cons h;show S=S.take i++S[i]::S[i+1]::S.drop (i+1+1);rw [<-e2,<-e1,List.take_append_drop]
theorem Nj (hc:x6 prog w A E s κ a₀ rk) {u:SortSt} (B:TBs κ a₀ u) {S:List (List Keyed×Nat)} {rest:List Keyed} (H:Runs rk u S rest) {i:Nat} (hi:i+1<S.length) {Q:Bool->SortSt->Prop}
  (h:∀v S',TBs κ a₀ v->Runs rk v S' rest->(g9 S').length=(g9 S).length->S'.length+1=S.length->Q true v):wpS (model prog w) A E s (mergeAt' i) Q u:=by
 obtain ⟨S1,X,pw,Y,pw',T,rfl,rfl⟩:=kG hi
 refine kI hc B H fun v Z B' H' lZ=>h v _ B' H' ?_ ?_
 . rw [E9,E9,v3,v3,v3];simp only [θ];lia
 . simp only [θ,List.length_cons];lia
theorem Runs.push (H:Runs rk v S (Z++r)) (a:Asc rk Z) (z:0<Z.length):Runs rk (setPending v ((pendingOf v).push ((g9 S).length,Z.length,0))) (S++[(Z,0)]) r:=by
 refine ⟨?_,?_,fun X hX=>?_⟩
 . show (arrOf v).toList=_;rw [H.arr,E9,v3];simp [g9]
 . show ((pendingOf v).push _).toList=_;rw [Array.toList_push,H.pend,V4,Nat.zero_add];rfl
 . rcases List.mem_append.mp hX with q | q
   . exact H.asc X q
   . rw [List.mem_singleton] at q;subst q;exact ⟨a,z⟩
theorem Rr (f:β->β):∀(l:List β) (x:β),(l++[x]).modify l.length f=l++[f x]
 | [],_=>rfl
 | a::l,x=>by rw [List.cons_append,List.length_cons,List.modify_succ_cons,Rr f l x,List.cons_append]
theorem Runs.repow (H:Runs rk v S r) (hS:S≠[]) (P:Nat):∃S',Runs rk (setPending v ((pendingOf v).modify ((pendingOf v).size - 1) fun x=>(x.1,x.2.1,P))) S' r/\g9 S'=g9 S:=by
 obtain ⟨S0,⟨X,pw⟩,rfl⟩:∃S0 t,S=S0++[t]:=⟨S.dropLast,S.getLast hS,(List.dropLast_concat_getLast hS).symm⟩;have sz:(pendingOf v).size=S0.length+1:=by rw [<-Array.length_toList,H.pend,V3];simp
 refine ⟨S0++[(X,P)],⟨?_,?_,fun Y hY=>?_⟩,by rw [E9,E9,v3,v3]⟩
 . show (arrOf v).toList=_;rw [H.arr,E9,E9,v3,v3]
 . show ((pendingOf v).modify _ _).toList=_;rw [Array.toList_modify,H.pend,sz,V4,V4,Nat.add_sub_cancel,<-V3 0 S0];exact Rr _ _ _
 . rcases List.mem_append.mp hY with q | q
   . exact H.asc Y (List.mem_append_left _ q)
   . rw [List.mem_singleton] at q;subst q;exact H.asc (X,pw) (by simp)
theorem y07 [Decidable c] (h:n=m) (h2:¬n<=1):(if c then n - 2 - 1 else n - 2)+1<m:=by split<;>omega
theorem kF (hc:x6 prog w A E s κ a₀ rk) {st:SortSt} (B:TBs κ a₀ st) (h2:2<=a₀.size) (hp:pendingOf st=#[]) {Q:Unit->SortSt->Prop} (h:∀u,TBs κ a₀ u->Asc rk (arrOf u).toList->Q () u):wpS (model prog w) A E s sortRuns' Q st:=by
 rw [sortRuns'_eq];refine δ (wpS_get ?_);dsimp only;rw [B.size];refine δ (wpS_mono (wpS_forRange (I:=fun x c u=>TBs κ a₀ u/\∃lo S rest,c=(none,lo)/\Runs rk u S rest/\(g9 S).length=lo/\lo<=a₀.size/\(x<=lo\/lo=a₀.size))
  (Q:=fun c u=>TBs κ a₀ u/\∃S rest,c=(none,a₀.size)/\Runs rk u S rest/\(g9 S).length=a₀.size) ?step ?fin ⟨B,0,[],(arrOf st).toList,rfl,⟨rfl,by rw [hp];rfl,fun X hX=>absurd hX List.not_mem_nil⟩,rfl,Nat.zero_le _,.inl (ζ _)⟩) ?post)
 case fin=>
  rintro c u ⟨B1,lo,S,rest,rfl,H,e,l1,l2⟩
  simp only [Nat.zero_max] at l2
  obtain rfl:lo=a₀.size:=by lia
  exact ⟨B1,S,rest,rfl,H,e⟩
 case post=>
  rintro c u ⟨B1,S,rest,rfl,H,e⟩
  dsimp only
  refine δ (wpS_mono (wpS_forRange (I:=fun x c v=>c=(none,())/\TBs κ a₀ v/\∃S rest,Runs rk v S rest/\(g9 S).length=a₀.size/\S.length+x<=a₀.size)
   (Q:=fun c v=>c=(none,())/\TBs κ a₀ v/\∃S rest,Runs rk v S rest/\(g9 S).length=a₀.size/\S.length<=1) (fun x c v _ _ hI=>?_) (fun c v hI=>?_) ⟨rfl,B1,S,rest,H,e,by have:=Runs.few (u:=u) (rest:=rest) H.asc;lia⟩) fun c v hI=>?_)
  . obtain ⟨rfl,B2,S,rest,H,e,l⟩:=hI;have sz:(pendingOf v).size=S.length:=by rw [<-Array.length_toList,H.pend,V3]
    refine δ (wpS_get ?_);by_cases q:(pendingOf v).size<=1
    . rw [ξ q];exact π ⟨rfl,B2,S,rest,H,e,by lia⟩
    . rw [ψ q];refine δ (Nj hc B2 H (y07 sz q) fun u2 S' B3 H' e' l'=>?_);exact π ⟨rfl,B3,S',rest,H',e'.trans e,by lia⟩
  . obtain ⟨rfl,B2,S,rest,H,e,l⟩:=hI;exact ⟨rfl,B2,S,rest,H,e,by simp only [Nat.zero_max] at l;lia⟩
  . obtain ⟨rfl,B2,S,rest,H,e,l⟩:=hI;refine π (h v B2 ?_);have hr:rest=[]:=by have:=congrArg List.length H.arr;rw [Array.length_toList,B2.size,θ,e] at this;exact List.length_eq_zero_iff.mp (by lia)
    rw [H.arr,hr,List.append_nil]
    match S,l,H.asc with
    | [],_,_=>exact .nil
    | [(X,pw)],_,a=>rw [v3];simpa [g9] using (a _ (.head _)).1
    | _::_::_,l,_=>simp at l
 case step=>
  rintro x c u _ _ ⟨B1,lo,S,rest,rfl,H,e,l1,l2⟩
  dsimp only
  by_cases q:lo ≥ a₀.size
  . rw [ξ q];obtain rfl:lo=a₀.size:=by lia
    exact π ⟨B1,S,rest,rfl,H,e⟩
  rw [ψ q]
  refine δ (vR hc B1 (by lia) (by lia) fun n u1 n1 n2 B2 L2 so=>?_)
  dsimp only
  obtain ⟨mr,hmr⟩:∃mr,mr=minRun' a₀.size a₀.size 0:=⟨_,rfl⟩
  rw [<-hmr]
  rcases Nat.lt_or_ge n mr with hn | hn
  case' inl=>
   rw [ξ hn]
   refine δ (U0 ?_)
   refine δ (y04 hc B2 (n:=min (a₀.size - lo) mr) (by lia) n1 (by lia) so fun u2 B3 L3 so2=>?_)
   rw [ψ (by simp)]
   obtain ⟨m,em,m1,m2,so3⟩:∃m,m=min (a₀.size - lo) mr/\1<=m/\lo+m<=a₀.size/\TSo rk (arrOf u2) lo (lo+m):=⟨_,rfl,by lia,by lia,so2⟩
   rw [<-em]
   have L4:=L2.trans L3
   clear em
  case' inr=>
   rw [ψ (by lia)]
   obtain ⟨m,u2,em,eu,m1,m2,so3,B3,L4⟩:∃m u2,m=n/\u2=u1/\1<=m/\lo+m<=a₀.size/\TSo rk (arrOf u2) lo (lo+m)/\TBs κ a₀ u2/\TL u u2 lo:=⟨_,_,rfl,rfl,n1,by lia,so,B2,L2⟩
   rw [<-em,<-eu]
   clear em eu
  all_goals
   have hz:lo+m<=(arrOf u2).size:=by rw [B3.size];exact m2
   obtain ⟨Z,eZ⟩:∃Z,Z=((arrOf u2).toList.drop lo).take m:=⟨_,rfl⟩
   have aZ:Asc rk Z:=eZ ▸ kH so3 hz
   have lZ:Z.length=m:=by rw [eZ,List.length_take,List.length_drop,Array.length_toList];lia
   have H2:Runs rk u2 S (Z++(arrOf u2).toList.drop (lo+m)):=by
    refine ⟨?_,by rw [L4.pend];exact H.pend,H.asc⟩;have t:(arrOf u2).toList.take lo=g9 S:=by
     have:(arrOf u2).toList.take lo=(arrOf u).toList.take lo:=by
      refine List.ext_getElem? fun i=>?_
      rw [List.getElem?_take,List.getElem?_take];by_cases z:i<lo
      . rw [ξ z,ξ z,Array.getElem?_toList,Array.getElem?_toList];exact L4.low i z
      . rw [ψ z,ψ z]
     rw [this,H.arr,<-e,List.take_left]
    rw [<-t,eZ,<-drop_take,List.take_append_drop]
   generalize (arrOf u2).toList.drop (lo+m)=r2 at H2
   refine δ (wpS_get ?_)
   have fin:∀(v:SortSt) (S':List (List Keyed×Nat)),TBs κ a₀ v->Runs rk v S' (Z++r2)->(g9 S').length=lo ->
     TBs κ a₀ (setPending v ((pendingOf v).push (lo,m,0)))/\∃lo' S'' rest,((none:Option Unit),lo+m)=(none,lo')/\Runs rk (setPending v ((pendingOf v).push (lo,m,0))) S'' rest/\(g9 S'').length=lo'/\lo'<=a₀.size/\(x+1<=lo'\/lo'=a₀.size):=fun v S' Bv Hv ev=>by
    have:=Hv.push aZ (by lia)
    rw [ev,lZ] at this
    exact ⟨⟨Bv.perm,Bv.kind,Bv.ok⟩,lo+m,_,r2,rfl,this,by rw [E9,v3,θ,ev,θ,lZ];simp [g9],m2,.inl (by lia)⟩
   cases hb:(pendingOf u2).back? with
   | none=>exact δ (wpS_modify (π (fin u2 S B3 H2 e)))
   | some t=>
    obtain ⟨s1,n1',p1⟩:=t
    dsimp only
    have hS:S≠[]:=fun z=>by have:=H2.pend;rw [z] at this;rw [Array.toList_eq_nil_iff.mp this] at hb;cases hb
    refine δ (wpS_mono (wpS_forRange (I:=fun _ c v=>c=(none,())/\TBs κ a₀ v/\∃S',Runs rk v S' (Z++r2)/\(g9 S').length=lo/\S'≠[])
     (Q:=fun c v=>c=(none,())/\TBs κ a₀ v/\∃S',Runs rk v S' (Z++r2)/\(g9 S').length=lo/\S'≠[]) (fun y c v _ _ hI=>?_) (fun c v hI=>hI) ⟨rfl,B3,S,H2,e,hS⟩) fun c v hI=>?_)
    . obtain ⟨rfl,Bv,S',Hv,ev,nv⟩:=hI;refine δ (wpS_get ?_);have sz:(pendingOf v).size=S'.length:=by rw [<-Array.length_toList,Hv.pend,V3]
      cases hq:(if (pendingOf v).size > 1 then (pendingOf v)[(pendingOf v).size - 2]? else none) with
      | none=>exact π ⟨rfl,Bv,S',Hv,ev,nv⟩
      | some t=>
       obtain ⟨q1,q2,older⟩:=t
       dsimp only
       have hs:(pendingOf v).size > 1:=by
        by_cases z:(pendingOf v).size > 1
        . exact z
        . rw [ψ z] at hq;cases hq
       split
       . exact π ⟨rfl,Bv,S',Hv,ev,nv⟩
       . refine δ (Nj hc Bv Hv (by lia) fun v2 S2 B5 H5 e5 l5=>?_);rw [ψ (by simp)];exact π ⟨rfl,B5,S2,H5,e5.trans ev,fun z=>by rw [z] at l5;simp at l5;lia⟩
    . obtain ⟨rfl,Bv,S',Hv,ev,nv⟩:=hI;dsimp only;obtain ⟨S2,H5,e5⟩:=Hv.repow nv (power' a₀.size (2 * s1+n1') (2 * s1+n1'+n1'+m) a₀.size);exact δ (wpS_modify (δ (wpS_modify (π (fin _ S2 ⟨Bv.perm,Bv.kind,Bv.ok⟩ H5 (by rw [e5];exact ev))))))
end
section
variable {prog:Program} {w:World} {E:Value->Shared->Prop} {s:Shared} {A:Around}
noncomputable def u9 (h:Heap) (a:Addr) (vs:List Value):Heap:=((h.update a (Obj.mapSeq fun _=>#[])).push (seqObj "tuple" vs.toArray 0)).push (seqObj "list" #[] 0)
theorem Vz (ho:h.get? a=some (seqObj "list" vs.toArray n)) :
  ∃k,(h.update a (Obj.mapSeq fun _=>#[])).get? a=some (seqObj "list" #[] k)/\(u9 h a vs).get? a=some (seqObj "list" #[] k):=
 ⟨_,get?_update_seq ho fun _=>#[],Ψ _ (Ψ _ (get?_update_seq ho fun _=>#[]))⟩
theorem xr (ho:s.heap.get? a=some (seqObj "list" vs.toArray n)) (h2:2<=vs.length) (hz:vs.length<=sizeLine)
  (hκ:∀(Q:SortKind->Shared->Prop),Q κ { s with heap:=u9 s.heap a vs }->wpAny (model prog w) A (keyKind' vs.toArray) Q E { s with heap:=u9 s.heap a vs })
  (hc:x6 prog w A E { s with heap:=u9 s.heap a vs } κ (pairsOf vs) rk)
  (h:∀out:Array Keyed,out.Perm (pairsOf vs)->Asc rk out.toList->P (.done (.ret .none)) { s with heap:=sortedHeap s.heap a vs (out.map (·.2)) }):wpAny (model prog w) A (Builtin.«list.sort» ⟨[.ref a],[]⟩) P E s:=by
 obtain ⟨k,k1,k2⟩:=Vz ho
 have nn:¬vs.toArray.size<2:=by rw [List.size_toArray];lia
 rw [list_sort_plain]
 refine χ (listItems_at ho rfl (χ (listUpdate_at ho rfl (χ (seqEpoch_at k1 rfl (χ (wpAny_newTuple (χ (wpAny_newList (wpAny_holding ?_) (Nat.zero_le _))) hz)))) (by rw [List.size_toArray];exact hz) (Nat.zero_le _))))
 show wpAny (model prog w) A _ P E { s with heap:=u9 s.heap a vs }
 rw [ψ nn,ψ nn]
 refine χ (hκ _ (χ (wpAny_mono (kF (st:=SortSt.mk' κ (pairsOf vs) #[] 7 none) hc ⟨.refl _,rfl,rfl⟩ (by rw [pairsOf_size];exact h2) rfl (Q:=fun _ u=>TBs κ (pairsOf vs) u/\Asc rk (arrOf u).toList) fun u B a=>⟨B,a⟩) ?_ fun _ _ x=>x)))
 rintro ⟨⟨⟩,u⟩ s' ⟨rfl,B,hA⟩
 refine χ (seqEpoch_at k2 rfl (χ (listUpdate_at k2 rfl ?_ (Nat.zero_le _) (by rw [Array.size_map,B.size,pairsOf_size];exact Nat.le_succ_of_le hz))))
 rw [B.ok,bne_self_eq_false]
 exact ω (h _ B.perm hA)
noncomputable def w4 (h:Heap) (vs:List Value):Heap:=((h.push (seqObj "list" #[] 0)).update h.objs.size (Obj.mapSeq (·++vs.toArray))).push (seqObj "list" vs.toArray 0)
theorem Lj (h:Heap) (vs:List Value):(w4 h vs).get? (h.objs.size+1)=some (seqObj "list" vs.toArray 0):=by
 have e:((h.push (seqObj "list" #[] 0)).update h.objs.size (Obj.mapSeq (·++vs.toArray))).objs.size=h.objs.size+1:=(Heap.size_update _ _ _).trans (size_push' _ _);unfold w4
 conv=>lhs;arg 2;rw [<-e]
 exact Ξ _ rfl
theorem yW (q:h.get? b=some o):(u9 (w4 h vs) (h.objs.size+1) vs).get? b=some o:=by have lt:b<h.objs.size:=Φ q;refine Ψ _ (Ψ _ ?_);rw [Heap.get?_update_ne _ _ _ _ (Nat.ne_of_lt (Nat.lt_add_right 1 lt))];refine Ψ _ ?_;rw [Heap.get?_update_ne _ _ _ _ (Nat.ne_of_lt lt)];exact Ψ _ q
theorem yV (hl:s.heap.IsList l vs.toArray) (h2:2<=vs.length) (hz:vs.length<=sizeLine)
  (hκ:∀(Q:SortKind->Shared->Prop),Q κ { s with heap:=u9 (w4 s.heap vs) (s.heap.objs.size+1) vs }->wpAny (model prog w) A.in1.in1 (keyKind' vs.toArray) Q (fun _ _=>False) { s with heap:=u9 (w4 s.heap vs) (s.heap.objs.size+1) vs })
  (hc:x6 prog w A.in1.in1 (fun _ _=>False) { s with heap:=u9 (w4 s.heap vs) (s.heap.objs.size+1) vs } κ (pairsOf vs) rk)
  (h:∀out:Array Keyed,out.Perm (pairsOf vs)->Asc rk out.toList->Q (.ref (s.heap.objs.size+1)) { s with heap:=sortedAll s.heap vs (out.map (·.2)) }):wpAny (model prog w) A (call (.builtin "sorted") [.ref l]) Q E s:=by
 have e:((s.heap.push (seqObj "list" #[] 0)).update s.heap.objs.size (Obj.mapSeq (·++vs.toArray))).objs.size=s.heap.objs.size+1:=(Heap.size_update _ _ _).trans (size_push' _ _)
 have b:=xr (s:={ s with heap:=w4 s.heap vs }) (E:=fun _ _=>False) (P:=fun f s'=>∃x,f=.done (.ret x)/\Q (.ref (s.heap.objs.size+1)) s') (Lj s.heap vs) h2 hz hκ hc fun out p a=>⟨_,rfl,h out p a⟩
 apply Calls.call_function_entry kind_sorted plain_sorted entry_sorted (args_sorted1 (.ref l))
 unfold Builtin.«sorted»
 refine χ (m:=checkCount "sorted" 1 1 _) (ω (χ (collect_list hl (χ (wpAny_newList ?_ hz)) hz)))
 show wpAny _ _ _ _ _ { s with heap:=w4 s.heap vs }
 rw [e]
 refine χ (wpAny_holding (wpAny_call_entry slot_list_sort ⟨_,Lj s.heap vs,rfl⟩ entry_list_sort (wpAny_mono b (fun f s' q=>?_) fun _ _ x=>x.elim) (args_list_sort _)))
 obtain ⟨x,rfl,q⟩:=q
 exact ⟨_,rfl,ω ⟨_,rfl,q⟩⟩
end
def rkD (ds:List D) (d:D):Nat:=ds.countP fun e=>ltT e d
theorem Pm (h:ois ds=true) (hd:d∈ds) (he:e∈ds):decide (rkD ds d<rkD ds e)=ltT d e:=by
 have ho:∀x∈ds,x.oi=true:=fun x hx=>ois_mem.mp h x hx
 have up:∀{d e:D},d∈ds->e∈ds->ltT d e=true->rkD ds d<rkD ds e:=fun {d e} hd he q=>by
  unfold rkD;have le:∀l:List D,(∀x∈l,x∈ds)->l.countP (fun x=>ltT x d)<=l.countP (fun x=>ltT x e):=fun l hl=>
   List.countP_mono_left fun x hx hxd=>Cj (ho x (hl x hx)) (ho d hd) (ho e he) hxd q
  obtain ⟨l1,l2,rfl⟩:=List.append_of_mem hd;have a:=le l1 fun x hx=>by simp [hx]
  have b:=le l2 fun x hx=>by simp [hx]
  simp only [List.countP_append,List.countP_cons,q,Ht (ho d hd)];simp
  lia
 cases q:ltT d e with
 | true=>simpa using up hd he q
 | false=>
  cases q':ltT e d with
  | true=>have:=up he hd q';simp;lia
  | false=>obtain rfl:=U3 (ho d hd) (ho e he) q q';simp
theorem Ai {d:D} (h:d.oi=true):(∃a,d=.int a)\/∃ds,d=.tup ds/\ois ds=true:=by
 cases d with
 | int a=>exact .inl ⟨a,rfl⟩
 | tup ds=>exact .inr ⟨ds,rfl,by simpa only [D.oi] using h⟩
 | _=>exact nomatch h
theorem vQ {K:Frag} {H:Hp} {n:Nat} (ih:∀{d e:D} {x:V},d.dep<=n->d.oi=true->e.oi=true->RD K H d x->RD K H e x->d=e):∀{ds es:List D} {xs:List V},h7 ds<=n->ois ds=true->ois es=true->RDs K H ds xs->RDs K H es xs->ds=es:=by
 intro ds;induction ds with
 | nil=>
  intro es xs _ _ _ r1 r2
  have l:=r2.length
  rw [<-r1.length] at l
  exact (List.length_eq_zero_iff.mp l).symm
 | cons d ds ihl=>
  intro es xs hd o1 o2 r1 r2
  cases es with
  | nil=>
   have l:=r1.length
   rw [<-r2.length] at l
   cases l
  | cons e es=>
   simp only [RDs] at r1 r2
   obtain ⟨x,ys,h1,p1,q1⟩:=r1
   obtain ⟨y,zs,h2,p2,q2⟩:=r2
   rw [h1] at h2;cases h2
   simp only [ois,Bool.and_eq_true] at o1 o2
   simp only [h7] at hd
   rw [ih (Nat.le_trans (Nat.le_max_left _ _) hd) o1.1 o2.1 p1 p2,ihl (Nat.le_trans (Nat.le_max_right _ _) hd) o1.2 o2.2 q1 q2]
theorem kE {K:Frag} {H:Hp}:∀(n:Nat) {d e:D} {x:V},d.dep<=n->d.oi=true->e.oi=true->RD K H d x->RD K H e x->d=e:=by
 intro n;induction n with
 | zero=>
  intro d e x hd o1 o2 r1 r2
  rcases Ai o1 with ⟨a,rfl⟩ | ⟨ds,rfl,_⟩
  . have h1:=r1.int;rcases Ai o2 with ⟨b,rfl⟩ | ⟨es,rfl,_⟩
    . have h2:=r2.int;rw [h1] at h2;cases h2;rfl
    . obtain ⟨_,_,h2,_⟩:=r2.tup;rw [h1] at h2;cases h2
  . simp only [D.dep] at hd;exact absurd hd (Nat.not_succ_le_zero _)
 | succ n ih=>
  intro d e x hd o1 o2 r1 r2
  rcases Ai o1 with ⟨a,rfl⟩ | ⟨ds,rfl,p1⟩
  . have h1:=r1.int;rcases Ai o2 with ⟨b,rfl⟩ | ⟨es,rfl,_⟩
    . have h2:=r2.int;rw [h1] at h2;cases h2;rfl
    . obtain ⟨_,_,h2,_⟩:=r2.tup;rw [h1] at h2;cases h2
  . obtain ⟨a,ys,h1,q1,w1⟩:=r1.tup;rcases Ai o2 with ⟨b,rfl⟩ | ⟨es,rfl,p2⟩
    . have h2:=r2.int;rw [h1] at h2;cases h2
    . obtain ⟨b,zs,h2,q2,w2⟩:=r2.tup;rw [h1] at h2;cases h2;rw [q1] at q2;cases q2;simp only [D.dep] at hd;rw [vQ ih (Nat.le_of_succ_le_succ hd) p1 p2 w1 w2]
theorem y08 {K:Frag} {H:Hp} {d e:D} {x:V} (o1:d.oi=true) (o2:e.oi=true) (r1:RD K H d x) (r2:RD K H e x):d=e:=kE d.dep (ζ _) o1 o2 r1 r2
theorem zy (p:l.Perm m):∀{xs:List α},m=xs.map f->∃ys:List α,ys.Perm xs/\l=ys.map f:=by
 induction p with
 | nil=>intro xs h;exact ⟨xs,.refl _,h⟩
 | cons a p ih=>
  intro xs h
  cases xs with
  | nil=>cases h
  | cons x xs=>
   simp only [List.map_cons,List.cons.injEq] at h
   obtain ⟨ys,p',e⟩:=ih h.2
   exact ⟨x::ys,p'.cons x,by rw [e,h.1];rfl⟩
 | swap a b l=>
  intro xs h
  match xs,h with
  | x::y::xs,h=>
   simp only [List.map_cons,List.cons.injEq] at h
   exact ⟨y::x::xs,.swap _ _ _,by rw [h.1,h.2.1,h.2.2];rfl⟩
 | trans p q ih1 ih2=>
  intro xs h
  obtain ⟨ys,p',e⟩:=ih2 h
  obtain ⟨zs,q',e'⟩:=ih1 e
  exact ⟨zs,q'.trans p',e'⟩
theorem Vy (l:List D):(List.range l.length).map (fun i=>l.getD i (.int 0))=l:=by
 apply List.ext_getElem?;intro i;rw [List.getElem?_map];by_cases hi:i<l.length
 . rw [List.getElem?_range hi];simp [hi]
 . rw [List.getElem?_eq_none (by simpa using hi),List.getElem?_eq_none (by simpa using hi)];rfl
noncomputable def atOf (its:List Value) (v:Value):Nat:=Classical.epsilon fun i=>i<its.length/\its.getD i Value.none=v
theorem Jn (h:i<its.length):atOf its (its.getD i Value.none)<its.length/\its.getD (atOf its (its.getD i Value.none)) Value.none=its.getD i Value.none:=by have hh:∃j,j<its.length/\its.getD j Value.none=its.getD i Value.none:=⟨i,h,rfl⟩;exact Classical.epsilon_spec hh
def Z9 (ds:List D):Bool:=ois ds&&decide (h7 ds<=20)&&ds.all (fun d=>ds.all fun e=>(d8 d e).isSome)&&(ds.all isI||ds.all F5||ds.all K5)
def p8:List D->Option D
 | [.lst ds]=>if Z9 ds=true then some (.lst (o9 ds)) else none
 | _=>none
def Pl (K:Frag):List V->Hp->VK->Prop:=fun xs H Q=>∃p ys ds,xs=[.ref p]/\H p=some (.lst ys)/\RDs K H ds ys/\Z9 ds=true/\∀(l:Addr) (is:List Nat),H l=none->(∀i∈is,i<ys.length)->o9 ds=is.map (fun i=>ds.getD i (.int 0))->Q (.ref l) (upd H l (.lst (is.map fun i=>ys.getD i .non)))
theorem O1 {K:Frag}:E2 K true p8 (Pl K):=by
 intro H0 H xs ds z Q s r ho k;unfold p8 at ho;split at ho<;>first | cases ho | skip
 split at ho<;>cases ho;rename_i es hok;obtain ⟨x,rfl,q1⟩:=r.uno;obtain ⟨p,ys,rfl,hp,ry⟩:=q1.lst;refine ⟨p,ys,es,rfl,s _ _ hp,ry.mono s,hok,fun l is hl hi he=>k _ _ (.new s hl fun H' hH=>?_)⟩;simp only [OB];refine ⟨_,hH,?_⟩;rw [he];exact ry.pick hi
section
variable {X:Cx} {pins:List (Addr×Obj)} {σ:St} {H:Hp} {s:Shared}
theorem vP (hx:(∃k,x=.int k)\/∃a,x=.ref a) (hy:(∃k,y=.int k)\/∃a,y=.ref a) (r1:RelV x v) (r2:RelV y v):x=y:=by
 rcases hx with ⟨k,rfl⟩ | ⟨a,rfl⟩<;>rcases hy with ⟨j,rfl⟩ | ⟨b,rfl⟩<;>simp only [RelV] at r1 r2
 . obtain ⟨t,rfl⟩:=r1;obtain ⟨u,h⟩:=r2;cases h;rfl
 . obtain ⟨t,rfl⟩:=r1;cases r2
 . obtain ⟨t,rfl⟩:=r2;cases r1
 . subst r1;cases r2;rfl
theorem Yn {K:Frag} {d:D} {x:V} (o:d.oi=true) (r:RD K H d x):(∃k,x=.int k)\/∃a,x=.ref a:=by
 cases d<;>simp only [D.oi] at o<;>first | cases o | skip
 . exact .inl ⟨_,r.int⟩
 . obtain ⟨a,_,h,_⟩:=r.tup;exact .inr ⟨a,h⟩
theorem Wt (vs:List Value):(pairsOf vs).toList=(List.range vs.length).map fun i=>((vs.getD i Value.none,vs.getD i Value.none):Keyed):=by
 unfold pairsOf;rw [Array.toList_zip];apply List.ext_getElem
 . simp
 . intro i h1 h2;simp at h1;simp [h1]
theorem Us (h:x∈pairsOf vs):∃i,i<vs.length/\x=(vs.getD i Value.none,vs.getD i Value.none):=by rw [Array.mem_def,Wt] at h;obtain ⟨i,hi,e⟩:=List.mem_map.mp h;exact ⟨i,List.mem_range.mp hi,e.symm⟩
theorem Vx:∀(vs:List Value),(∀i,i<vs.length->∃n t,vs.getD i Value.none=.int n t)->∃ns,IntsAre vs ns
 | [],_=>⟨[],.nil⟩
 | v::vs,h=>by
  obtain ⟨n,t,e⟩:=h 0 (by simp);obtain ⟨ns,r⟩:=Vx vs fun i hi=>by simpa using h (i+1) (by simpa using hi)
  have e':v=.int n t:=by simpa using e
  subst e';exact ⟨n::ns,.cons n t r⟩
theorem vO (ia:IntsAre vs ns) (h:2<=vs.length):keyKind' vs.toArray=pure oneType':=by
 match vs,ia,h with
 | v1::v2::vs,ia,_=>exact keyKind_ints ia
theorem N9 (hc:X.calm=true) (hu:X.A.units+64<cLine):CallR X (.builtin "sorted") (Pl X.K):=by
 intro pins s σ H xs us Q I r h;obtain ⟨p,ys,ds,rfl,hp,rd,hok,k⟩:=h;obtain ⟨u,rfl,ru⟩:=D4 r;cases ru;obtain ⟨its,rv,pl,hz⟩:=I.list (.of hp);obtain ⟨m,hn,_⟩:=id I.loc;have F:=Att.fr_all hn;have N:=Lg (g:=Att.noObjs s.heap) (h:=s.heap) (L:=X.env.locals);unfold Z9 at hok;simp only [Bool.and_eq_true,Bool.or_eq_true,decide_eq_true_eq] at hok;obtain ⟨⟨⟨hoi,hdep⟩,hcmp⟩,hkind⟩:=hok;have hl1:=rd.length;have hl2:=rv.length;have fin:∀{vs':Array Value} {is:List Nat},(∀i∈is,i<ys.length)->o9 ds=is.map (fun i=>ds.getD i (.int 0))->vs'=(is.map fun i=>its.getD i Value.none).toArray->EP X pins σ Q (.ref (s.heap.objs.size+1)) { s with heap:=sortedAll s.heap its vs' }:=fun {vs' is} hi he hv=>by
  have hlen:(is.map fun i=>ys.getD i .non).length<=sizeLine:=by
   have e1:is.length=ds.length:=by have:=congrArg List.length he;rw [List.length_map,(O4 ds).length_eq] at this;exact this.symm
   rw [List.length_map,e1,hl1];exact hz
  obtain ⟨e,he'⟩:=sortedAll_at s.heap its vs';have kp:∀b o,s.heap.get? b=some o->(sortedAll s.heap its vs').get? b=some o:=fun b o q=>sortedAll_old q
  have hN:=N.kept_cons F kp (Nat.le_succ _) he';obtain ⟨HD,I'⟩:=I.frnew (tk:=s.toks) (o:=.lst (is.map fun i=>ys.getD i .non)) hn (F.kept kp) hN (Heap.get?_none_of_le (Nat.le_succ _)) ⟨hlen,_,e,rv.pick hi,by subst hv;exact (hN _ (.head _)).1⟩;exact ⟨.ref _,_,I',rfl,k _ is HD hi he⟩
 by_cases h2:2<=its.length
 . have kp:∀b o,s.heap.get? b=some o->(u9 (w4 s.heap its) (s.heap.objs.size+1) its).get? b=some o:=fun b o q=>yW q
   have I':Inv X pins σ H { s with heap:=u9 (w4 s.heap its) (s.heap.objs.size+1) its }:=I.frn (tk:=s.toks) hn (F.kept kp) fun q hq=>(N.kept_cons F kp (Nat.le_succ _) (Vz (Lj s.heap its)).choose_spec.2) q (.tail _ hq)
   have huu:X.A.in1.in1.units+20<cLine:=by show X.A.units+1+1+20<cLine;lia
   have main:∀κ:SortKind,(∀(Q:SortKind->Shared->Prop),Q κ { s with heap:=u9 (w4 s.heap its) (s.heap.objs.size+1) its }->wpAny (model X.prog X.w) X.A.in1.in1 (keyKind' its.toArray) Q (fun _ _=>False) { s with heap:=u9 (w4 s.heap its) (s.heap.objs.size+1) its }) ->
     (∀(E:Value->Shared->Prop) (C:Bool->Shared->Prop) (i j:Nat),i<ys.length->j<ys.length->C (ltI ds i j) { s with heap:=u9 (w4 s.heap its) (s.heap.objs.size+1) its }->wpAny (model X.prog X.w) X.A.in1.in1 (keyLt' κ (its.getD i Value.none) (its.getD j Value.none)) C E { s with heap:=u9 (w4 s.heap its) (s.heap.objs.size+1) its }) ->
     wpAny (model X.prog X.w) X.A (call (.builtin "sorted") [.ref p]) (EP X pins σ Q) X.xe s:=by
    intro κ hκ hlt
    refine yV (rk:=fun q=>rkD ds (ds.getD (atOf its q.1) (.int 0))) pl.isList h2 (by lia) hκ ?_ fun out hp' hA=>?_
    . intro x y hx hy st Q' hk q;obtain ⟨i,hi,rfl⟩:=Us hx;obtain ⟨j,hj,rfl⟩:=Us hy;have ai:=Jn hi;have aj:=Jn hj;dsimp only at q;rw [Pm hoi (O3 (by lia)) (O3 (by lia))] at q;rw [lt'_eq];refine δ (wpS_get (δ (wpS_lift (wpAny_attempt ?_))));rw [hk];dsimp only;generalize atOf its (its.getD i Value.none)=i' at *;generalize atOf its (its.getD j Value.none)=j' at *;rw [<-ai.2,<-aj.2];exact hlt _ _ i' j' (by lia) (by lia) ⟨rfl,π q⟩
    . have e0:(pairsOf its).toList=(List.range its.length).map fun i=>((its.getD i Value.none,its.getD i Value.none):Keyed):=Wt its
      obtain ⟨is,hip,hie⟩:=zy (Array.perm_iff_toList_perm.mp hp') e0;have him:∀i∈is,i<its.length:=fun i hi=>List.mem_range.mp (hip.mem_iff.mp hi)
      have pm:(is.map fun i=>ds.getD i (.int 0)).Perm ds:=by refine (hip.map _).trans ?_;rw [show its.length=ds.length by lia,Vy]
      refine fin (is:=is) (fun i hi=>by have:=him i hi;lia) (Dx (Dy (O4 _) hoi) ((O4 _).trans pm.symm) (Q5 hoi) ?_) ?_
      . rw [hie] at hA;refine List.pairwise_map.mpr ((List.pairwise_map.mp hA).imp_of_mem fun {a b} ha hb hab=>?_);have same:∀i,i<its.length->ds.getD (atOf its (its.getD i Value.none)) (.int 0)=ds.getD i (.int 0):=fun i hi=>by have q:=Jn hi;have v1:=rv.getD (i:=atOf its (its.getD i Value.none)) (by lia);have v2:=rv.getD (i:=i) (by lia);have r1:=rd.getD (i:=atOf its (its.getD i Value.none)) (by lia);have r2:=rd.getD (i:=i) (by lia);have o1:=Js (i:=atOf its (its.getD i Value.none)) hoi;have o2:=Js (i:=i) hoi;rw [q.2] at v1;rw [vP (Yn o1 r1) (Yn o2 r2) v1 v2] at r1;exact y08 o1 o2 r1 r2
        dsimp only at hab;rw [same a (him a ha),same b (him b hb)] at hab;have z:=Pm hoi (d:=ds.getD b (.int 0)) (e:=ds.getD a (.int 0)) (O3 (by have:=him b hb;lia)) (O3 (by have:=him a ha;lia));rw [<-z,decide_eq_false_iff_not]
        lia
      . rw [<-Array.toList_inj,Array.toList_map,hie,List.map_map];rfl
   by_cases hI:ds.all isI=true
   . have getI:∀i,i<ys.length->∃n t,ds.getD i (.int 0)=.int n/\its.getD i Value.none=.int n t:=fun i hi=>by
      have r1:=rd.getD hi
      have v1:=rv.getD hi
      have m1:isI (ds.getD i (.int 0))=true:=List.all_eq_true.mp hI _ (O3 (by lia))
      generalize ds.getD i (.int 0)=d at *
      cases d<;>simp only [isI] at m1<;>first | cases m1 | skip
      rw [r1.int] at v1
      obtain ⟨t,e⟩:=v1
      exact ⟨_,t,rfl,e⟩
     refine main oneType' (fun Q' q=>?_) fun E C i j hi hj hC=>?_
     . have ia:∃ns,IntsAre its ns:=Vx its fun i hi=>by obtain ⟨n,t,_,e⟩:=getI i (by lia);exact ⟨n,t,e⟩
       obtain ⟨ns,ia⟩:=ia;rw [vO ia h2];exact ω q
     . obtain ⟨n,t,e1,e2⟩:=getI i hi;obtain ⟨n',t',e3,e4⟩:=getI j hj;rw [e2,e4];refine PySem.W.kat_lt_int ?_;unfold ltI at hC;rw [e1,e3] at hC;simpa only [ltT] using hC
   . obtain ⟨T,hT⟩:∃T:Bool,∀d∈ds,(if T=true then K5 d else F5 d)=true:=by
      rcases hkind with (z | z) | z
      . exact absurd z hI
      . exact ⟨false,fun d hd=>by rw [ψ η];exact List.all_eq_true.mp z d hd⟩
      . exact ⟨true,fun d hd=>by rw [ξ rfl];exact List.all_eq_true.mp z d hd⟩
     obtain ⟨fs,t1,t2,t3⟩:=Pz (M:=model X.prog X.w) I' T hT rd rv
     refine main (tuples' ((.type (if T=true then "tuple" else "int"):Value) != Value.type "tuple")) (fun Q' q=>PySem.W.kat_kind t1 (by lia) t3 (by cases T<;>rfl) q) fun E C i j hi hj hC=>?_
     have r1:=rd.getD hi
     have r2:=rd.getD hj
     have v1:=rv.getD hi
     have v2:=rv.getD hj
     have m1:ds.getD i (.int 0)∈ds:=O3 (by lia)
     have m2:ds.getD j (.int 0)∈ds:=O3 (by lia)
     have o1:=(ois_mem.mp hoi) _ m1
     have o2:=(ois_mem.mp hoi) _ m2
     have d1:=Kx m1
     have f1:=hT _ m1
     have f2:=hT _ m2
     obtain ⟨b,hb⟩:=Option.isSome_iff_exists.mp (List.all_eq_true.mp (List.all_eq_true.mp hcmp _ m1) _ m2)
     have hbl:b=ltI ds i j:=Qe hb
     rw [<-hbl] at hC
     generalize ds.getD i (.int 0)=da at *
     generalize ds.getD j (.int 0)=db at *
     have tp:∀{d:L2.D},(if T=true then K5 d else F5 d)=true->∃es,d=.tup es/\(T=false->∃k r,es=.int k::r):=fun {d} h=>by
      cases T with
      | false=>
       rw [ψ η] at h
       cases d<;>simp only [F5] at h<;>first | cases h | skip
       rename_i es
       cases es with
       | nil=>simp at h
       | cons e es=>cases e<;>simp at h;exact ⟨_,rfl,fun _=>⟨_,_,rfl⟩⟩
      | true=>
       rw [ξ rfl] at h
       cases d<;>simp only [K5] at h<;>first | cases h | skip
       exact ⟨_,rfl,fun z=>nomatch z⟩
     obtain ⟨ea,rfl,ka⟩:=tp f1
     obtain ⟨eb,rfl,kb⟩:=tp f2
     obtain ⟨a,xa,e1,ha,ra⟩:=r1.tup
     obtain ⟨c,xc,e2,hcc,rc⟩:=r2.tup
     rw [e1] at v1;rw [e2] at v2
     rw [show its.getD i Value.none=Value.ref a from v1,show its.getD j Value.none=Value.ref c from v2]
     obtain ⟨ia,va,oa,hoa,_,na,hda⟩:=I'.tupA ha
     obtain ⟨ic,vc,oc,hoc,_,nc,hdc⟩:=I'.tupA hcc
     simp only [L2.D.oi] at o1 o2
     simp only [L2.D.dep] at d1
     simp only [d8] at hb
     refine PySem.W.kat_lt hoa hda hoc hdc (Si I' huu hC 0 (fun hb0 _=>?_) o1 o2 (by lia) ra rc va vc hb (by simp))
     cases T with
     | false=>exact ⟨ka rfl,kb rfl⟩
     | true=>exact absurd hb0 (by simp)
 . have hs1:o9 ds=ds:=by
    match ds,hl1,hl2 with
    | [],_,_=>rfl
    | [d],_,_=>rfl
    | _::_::_,a,b=>simp at a;lia
   have pz:∀l:List Value,l.length<2->(pairsOf l).map (·.2)=(List.map (fun i=>l.getD i Value.none) (List.range l.length)).toArray:=fun l hl=>by
    match l,hl with
    | [],_=>simp [pairsOf]
    | [v],_=>simp [pairsOf]
    | _::_::_,z=>simp at z;lia
   refine zT pl.isList (by lia) (fin (is:=List.range its.length) (fun i hi=>by simp at hi;lia) ?_ (pz its (by lia)))
   rw [hs1,show its.length=ds.length by lia,Vy]
end
abbrev Kp (is:List Nat) (σ σ':St):Prop:=∀i∈is,σ'[i]?=σ[i]?
noncomputable def Gh (is:List Nat) (De:Ends) (σ:St):Ends:={ De with nx:=fun σ' H'=>Kp is σ σ'->De.nx σ' H',bk:=fun σ' H'=>Kp is σ σ'->De.bk σ' H',ct:=fun σ' H'=>Kp is σ σ'->De.ct σ' H' }
def TSk (K:Frag) (EX:XW) (is:List Nat) (g:DS->SR):TS:=fun De σ H=>TSd K EX false g (Gh is De σ) σ H
structure QK (X:Cx) (EX:XW) (is:List Nat) (st:Stmt) (g:DS->SR):Prop where
 h:PS X st (TSk X.K EX is g)
structure QKB (X:Cx) (EX:XW) (is:List Nat) (sts:List Stmt) (g:DS->SR):Prop where
 h:PSs X sts (TSk X.K EX is g)
def TGk (K:Frag) (is:List Nat) (tt:Tg):TG:=fun v σ H Q=>TGd K tt v σ H fun σ' H'=>Kp is σ σ'->Q σ' H'
structure QGk (X:Cx) (is:List Nat) (tg:Expr) (tt:Tg):Prop where
 h:PG X tg (TGk X.K is tt)
theorem SK.mon {K:Frag} {EX:XW} {fr:Bool} {Hc Hb:Hp} {D1 D2:Ends} {r:SR} (h:SK K EX fr Hc Hb D1 r) (hn:∀σ H,D1.nx σ H->D2.nx σ H) (hb:∀σ H,D1.bk σ H->D2.bk σ H) (hc:∀σ H,D1.ct σ H->D2.ct σ H) (hr:∀v H,D1.rt v H->D2.rt v H):SK K EX fr Hc Hb D2 r:=by
 cases r with
 | nx ρ=>exact fun σ H H0 R=>hn σ H (h σ H H0 R)
 | bk ρ=>exact fun σ H H0 R=>hb σ H (h σ H H0 R)
 | ct ρ=>exact fun σ H H0 R=>hc σ H (h σ H H0 R)
 | rt d=>exact fun v H o=>hr v H (h v H o)
 | er x=>exact h
 | st=>exact h
theorem TSd.mon {K:Frag} {EX:XW} {fr:Bool} {D1 D2:Ends} {g:DS->SR} {σ:St} {H:Hp} (h:TSd K EX fr g D1 σ H) (hn:∀σ H,D1.nx σ H->D2.nx σ H) (hb:∀σ H,D1.bk σ H->D2.bk σ H) (hc:∀σ H,D1.ct σ H->D2.ct σ H) (hr:∀v H,D1.rt v H->D2.rt v H):TSd K EX fr g D2 σ H:=by obtain ⟨Hc,Hb,H0,ρ,sb,R,h⟩:=h;exact ⟨Hc,Hb,H0,ρ,sb,R,h.mon hn hb hc hr⟩
theorem Kp.trans (h:Kp is a b) (k:Kp is b c):Kp is a c:=fun i hi=>(k i hi).trans (h i hi)
theorem Kp.set (h:i∉is):Kp is σ (σ.set i v):=fun j hj=>List.getElem?_set_ne (fun e:i=j=>h (by rw [e];exact hj))
section
variable {X:Cx} {EX:XW} {is:List Nat} {st:Stmt} {sts:List Stmt} {c e:Expr} {f fv fk:DE->R D} {t:DE->R Bool} {g g1 g2:DS->SR} {pos:Pos} {m:List Bool}
theorem kD:QKB X EX is [] sNx:=⟨pss_nil.imp fun _ _ _ q=>(Ft q) fun _ _=>rfl⟩
theorem Hk (h:QK X EX is st g):QKB X EX is [st] g:=⟨Kh h.h⟩
theorem Rq (h1:QK X EX is st g1) (h2:QKB X EX is sts g2):QKB X EX is (st::sts) (c7 g1 g2):=⟨(Ld h1.h h2.h).imp fun De σ H q=>by
 have q:=Gr q;unfold Cf at q ⊢;refine TSd.mon q (fun σ1 H1 n k=>?_) (fun _ _ b=>b) (fun _ _ b=>b) fun _ _ b=>b
 exact TSd.mon n (fun σ2 H2 n2 k2=>n2 (k.trans k2)) (fun σ2 H2 n2 k2=>n2 (k.trans k2)) (fun σ2 H2 n2 k2=>n2 (k.trans k2)) fun _ _ b=>b⟩
theorem y2o (hc:QT X EX c t) (ha:QKB X EX is x g1) (hb:QKB X EX is y g2):QK X EX is (.If c x y pos) (sIf t g1 g2):=⟨(Ov hc.h ha.h hb.h).imp fun _ _ _ q=>Of q⟩
theorem Ni (hni:i∉is) (hN:X.N.Nodup) (hi:X.N[i]?=some x) (hx:Loc X.env.scope x) (he:QE X EX fr' e f) (hs:swapsWith e (some (.Name x pos')) pos.line X.env=pure false:=by rfl) (hf:X.fn x=true\/X.env.scope.names.lookup x=some .local:=by first | exact .inl rfl | exact .inr rfl | assumption) :
  QK X EX is (.Assign [.Name x pos'] e pos) (i4 fr' i m f):=⟨(Hz hN hi hx he.h hs hf).imp fun De σ H q=>by
 have q:=Gq q
 unfold C3 t9 at q ⊢
 exact TEd.mono' q fun v H' n=>n (Kp.set hni)⟩
theorem kB (hu:X.A.units+64<cLine) (ho:PE X o (l8 i)) (hk:QE X EX false ix fk) (hv:QE X EX false e fv)
  (ha:∀v,assign (.Subscript o ix tpos) X.env v=(do
   let ov <-holding [v] (eval o X.env)
   let iv <-holding [v,ov] (eval ix X.env)
   standAt tpos
   holding [v,ov,iv] (setItem ov iv v)
   release [v,ov,iv] []):=by intro _;rfl) (hs:swapsWithSole [.Subscript o ix tpos] e pos.line X.env=pure false:=by rfl) (hw:swappedStores [.Subscript o ix tpos] e X.env=pure none:=by rfl)
  (h1:(assignEach [.Subscript o ix tpos] X.env).map (·.2)=[assign (.Subscript o ix tpos) X.env]:=by rfl):QK X EX is (.Assign [.Subscript o ix tpos] e pos) (G4 dSetN i m fk fv):=⟨(Ja hv.h (Jb ho hk.h (Np hu) ha) hs hw h1).imp fun De σ H q=>by
 have q:=Gp Ry q
 unfold C3 Cd Gh Kp at q
 simp only [implies_true,true_implies] at q
 exact q⟩
theorem Ym (hni:i∉is) (hN:X.N.Nodup) (hi:X.N[i]?=some x) (hx:Loc X.env.scope x) (hf:X.fn x=true\/X.env.scope.names.lookup x=some .local:=by first | exact .inl rfl | exact .inr rfl | assumption):QGk X is (.Name x pos) (.n i):=⟨(Dp hN hi hx hf).imp fun _ σ _ _ q=>(Yz q) (Kp.set hni)⟩
theorem Nh (hp:PassesOwn (model X.prog X.w) X.A X.env X.xe) (hc:X.calm=true) (hi:QI X EX kp tg iter fi) (hg:QGk X is tg tt) (hb:QKB X EX is body g)
  (hs:∀x,foldedSetIterable iter X.env x=pure x:=by intro _;rfl):QK X EX is (.For tg iter body [] pos) (r8 kp m fi tt g):=⟨(Td hp hc hi.h hg.h hb.h hs).imp fun De σ H q=>by
 obtain ⟨sx,ρ,H0,s,e,h⟩:=Od q
 refine ⟨sx,ρ,H0,s,e,h.mono fun ds z J H' H0' s' e' it=>?_⟩
 obtain ⟨W,⟨n,w0⟩,turn⟩:=z J H' H0' s' e' it
 refine ⟨fun i n σ1 H1=>W i n σ1 H1/\Kp is σ σ1,⟨n,w0,fun _ _=>rfl⟩,fun i n σ1 H1 ⟨w,k⟩=>?_⟩
 rcases turn i n σ1 H1 w with ⟨a,b⟩ | ⟨go,N,hN,step⟩
 . exact .inl ⟨a,b k⟩
 . refine .inr ⟨go,fun σ' H'=>N σ' H'/\Kp is σ σ',fun σ' H' ⟨a,b⟩=>?_,fun x H2 y=>?_⟩
   . obtain ⟨n',hl,w'⟩:=hN σ' H' a;exact ⟨n',hl,w',b⟩
   . obtain ⟨Hc,Hb,H3,ρ3,d,ρ4,I,r,e3,q3⟩:=step x H2 y;refine ⟨Hc,Hb,H3,ρ3,d,ρ4,I,r,e3,fun σ' I' k2=>?_⟩;have kk:=k.trans k2;exact TSd.mon (q3 σ' I') (fun σ5 H5 a k5=>⟨a,kk.trans k5⟩) (fun σ5 H5 a k5=>a (kk.trans k5)) (fun σ5 H5 a k5=>⟨a,kk.trans k5⟩) fun _ _ a=>a⟩
end
section
variable {K:Frag} {σ:St} {H:Hp}
theorem RS.hidden (R:RS K Hc Hb H0 ρ σ H) (q:ρ[i]?=some (.ow d)) (h1:σ[i]?=some (some (.ref a))) (s':Same (hid [a] H) H') (e':Ext H0 (hid [a] H) H0' H') (n':H0' a=none) (ob:OB K H0' H' a d'):RS K Hc Hb H0' (ρ.set i (.ow d')) σ H':=by
 obtain ⟨a',z1,z2,z3,z4⟩:=R.ow i d q;rw [h1] at z1;cases z1;have sbh:Same Hb (hid [a] H):=fun b o hb=>by rw [Dh fun hm=>by rw [List.mem_singleton.mp hm,z3] at hb;cases hb];exact R.sb b o hb
 refine ⟨sbh.trans s',⟨R.ext.1.trans e'.1,e'.2.1,fun b hb hc=>e'.2.2 b (sbh.ne hb) (R.ext.2.2 b hb hc)⟩,by simp [R.len],fun j e qj=>?_,fun j e qj=>?_,fun j k e1 e2 b q1 q2 s1 s2=>?_⟩
 . rcases Dg qj with ⟨_,z⟩ | ⟨_,qj⟩
   . cases z
   . obtain ⟨v,v1,v2⟩:=R.im j e qj;exact ⟨v,v1,v2.mono e'.1⟩
 . rcases Dg qj with ⟨e0,z⟩ | ⟨ne,qj⟩
   . subst e0;cases z;exact ⟨a,h1,n',z3,ob⟩
   . obtain ⟨b,b1,b2,b3,b4⟩:=R.ow j e qj;have na:b∉[a]:=fun hm=>ne (R.ap i j _ _ _ q qj h1 (by rw [b1,List.mem_singleton.mp hm]))
     obtain ⟨o,ho,_⟩:=b4.some;have hh:hid [a] H b=some o:=by rw [Dh na];exact ho
     refine ⟨b,b1,e'.2.2 b (by rw [hh];exact fun z=>nomatch z) b2,b3,?_⟩;exact (b4.at (by rw [ho];exact s' b o hh)).mono e'.1 (Same.refl _)
 . have back:∀(j:Nat) e,(ρ.set i (.ow d'))[j]?=some (.ow e)->∃e0,ρ[j]?=some (.ow e0):=fun j e qj=>by
    rcases Dg qj with ⟨e0,_⟩ | ⟨_,qj⟩
    . subst e0;exact ⟨_,q⟩
    . exact ⟨_,qj⟩
   obtain ⟨x1,y1⟩:=back j e1 q1
   obtain ⟨x2,y2⟩:=back k e2 q2
   exact R.ap j k _ _ b y1 y2 s1 s2
end
section
variable {X:Cx} {EX:XW} {is:List Nat} {st:Stmt} {sts:List Stmt} {e:Expr} {g g1 g2:DS->SR} {pos:Pos} {m:List Bool}
theorem y09 {T id:String} {name:Str} {i:Nat} {x:Str} {xp apos cpos:Pos} {es:List Expr} {fs:DE->R (List D)} {mt:D->List D->Option D} {rr:V->List V->Hp->VK->Prop} (pa:PlainAttrs T) (slot:Slot T name id) (hty:typeOf (.builtin id)=pure (.type "method_descriptor")) (hm:MtM X id rr) (od:X0 X.K mt rr) (hT:TyD X.K T)
  (ho:PE X (.Name x xp) (l8 i)) (ha:QA X EX (e::es) fs)
  (hbase:attributeBase (.Name x xp) name X.env (eval (.Name x xp) X.env)=eval (.Name x xp) X.env:=by rfl)
  (hfew:((backTo cpos (starEach (e::es) X.env)).all (fun x=>!x.1)&&(backToKw cpos (keywordEach [] X.env)).all (fun x=>x.1.isSome)
   && decide ((e::es).length+([]:List Keyword).length+(if ([]:List Keyword).isEmpty then 0 else 1)<30))=true:=by rfl)
  (hline:(apos.endLine==cpos.line)=true:=by rfl) (hs:starEach (e::es) X.env=(false,eval e X.env)::starEach es X.env:=by rfl) (hplain:(backTo cpos (starEach es X.env)).any (·.1)=false:=by rfl)
  (hsw:swapsWith (.Call (.Attribute (.Name x xp) name apos) (e::es) [] cpos) none pos.line X.env=pure false:=by rfl) :
  QK X EX is (.Expr (.Call (.Attribute (.Name x xp) name apos) (e::es) [] cpos) pos) (C5 T mt i m fs):=⟨(Kg (Oq pa slot hty hm ho ha.h hbase hfew hline hs hplain) hsw).imp fun De σ H q=>by
 have q:=Oe od hT q
 unfold T7 Gh Kp at q
 unfold T7
 simp only [implies_true,true_implies] at q
 exact q⟩
noncomputable def y0a (is:List Nat) (i:Nat) (De:Ends) (σ:St):Ends:={ De with nx:=fun σ' H'=>Kp is σ σ'->∃v,σ'[i]?=some (some v)/\De.rt v H',bk:=fun _ _=>False,ct:=fun _ _=>False,rt:=fun _ _=>False }
structure QKR (X:Cx) (EX:XW) (is:List Nat) (sts:List Stmt) (i:Nat) (g:DS->SR):Prop where
 h:PSs X sts (fun De σ H=>TSd X.K EX false g (y0a is i De σ) σ H)
theorem y0b (hN:X.N[i]?=some x:=by rfl) (hv:Vis X.env.scope x:=by first | exact Or.inl rfl | exact Or.inr (Or.inl rfl) | exact Or.inr (Or.inr rfl)) (hd:(x==("__debug__":Str))=false:=by decide)
  (hcd:(x==("__classdict__":Str))=false:=by decide):QKR X EX is [.Return (some (.Name x p)) pos] i sNx:=⟨(Kh (Jc (pw i hN hv hd hcd))).imp fun De σ H q=>by
 obtain ⟨v,hv,r⟩:=(Ft q) fun _ _=>rfl
 show l8 i σ H De.rt
 unfold l8
 rw [hv]
 exact r⟩
theorem Pk (h1:QK X EX is st g1) (h2:QKR X EX is sts i g2):QKR X EX is (st::sts) i (c7 g1 g2):=⟨(Ld h1.h h2.h).imp fun De σ H q=>by
 have q:=Gr q;unfold Cf at q ⊢;refine TSd.mon q (fun σ1 H1 n k=>?_) (fun _ _ b=>b.elim) (fun _ _ b=>b.elim) fun _ _ b=>b.elim
 exact TSd.mon n (fun σ2 H2 n2 k2=>n2 (k.trans k2)) (fun _ _ b=>b) (fun _ _ b=>b) fun _ _ b=>b⟩
end
def spW (K:Frag) (mW:List D->R (D×D)):Sp:=fun vs H Q _=>∃(d0 d1:D) (w:V) (a:Addr) (H0:Hp),vs=[w,.ref a]/\Same H0 H/\H0 a=none/\OB K H0 H a d1/\RD K H0 d0 w /\
 Rk (fun _=>False) (mW [d0,d1]) fun r=>∀H' H0' p,Same (hid [a] H) H'->Ext H0 (hid [a] H) H0' H'->H0' a=none->OB K H0' H' a r.1->p≠a->hid [a] H p=none->H0' p=none->OB K H0' H' p r.2->Q (.ref p) H'
noncomputable def Bj (k i:Nat) (g:DS->SR):List D->R (D×D)
 | [d0,d1]=>match g (.im d0::.ow d1::List.replicate k .em) with
  | .nx ρ=>match (ρ[1]?:Option Sl),(ρ[i]?:Option Sl) with
   | some (.ow d'),some (.ow r)=>.ok (d',r)
   | _,_=>.st
  | _=>.st
 | _=>.st
theorem kA {K:Frag} {H0 H:Hp} {d0 d1:D} {w:V} {a:Addr} (s:Same H0 H) (h0:H0 a=none) (ob:OB K H0 H a d1) (r:RD K H0 d0 w) (k:Nat) :
  RS K H0 (hid [a] H) H0 (.im d0::.ow d1::List.replicate k .em) (some w::some (.ref a)::List.replicate k none) H:=by
 have em:∀(i:Nat) (s:Sl),(List.replicate k Sl.em)[i]?=some s->s=.em:=fun i s q=>(List.mem_replicate.mp (List.mem_of_getElem? q)).2
 have one:∀(i:Nat) e,(Sl.im d0::Sl.ow d1::List.replicate k Sl.em)[i]?=some (.ow e)->i=1/\d1=e:=fun i e q=>by
  match i,q with
  | 0,q=>cases q
  | 1,q=>cases q;exact ⟨rfl,rfl⟩
  | i+2,q=>exact absurd (em i _ q) (fun z=>nomatch z)
 refine ⟨fun b o h=>?_,⟨Same.refl _,s,fun a ha e=>e⟩,by simp,fun i e q=>?_,fun i e q=>?_,fun i j e e' b qi qj si sj=>?_⟩
 . unfold hid at h;split at h
   . cases h
   . exact h
 . match i,q with
   | 0,q=>cases q;exact ⟨w,rfl,r⟩
   | 1,q=>cases q
   | i+2,q=>exact absurd (em i _ q) (fun z=>nomatch z)
 . obtain ⟨rfl,rfl⟩:=one i e q;exact ⟨a,rfl,h0,kU (List.mem_singleton.mpr rfl),ob⟩
 . obtain ⟨rfl,_⟩:=one i e qi;obtain ⟨rfl,_⟩:=one j e' qj;rfl
theorem fnW {P:Program} {w:World} {K:Frag} {mg:Str->Option Value} {base:Heap} {x qual:Str} {st:Stmt} {f:Addr} {fd:FuncData} {N ps:List Str} {k kk i:Nat} {g:DS->SR} (F:Fun K x qual st f fd) (S:FnScope N ps (d9 st)) (hps:ps.length=2) (hN:N.length=2+kk) (hi:i≠1)
  (hbody:∀(cdv:Value) (A:Around) (outer:List Env) (s:Shared) (H:Hp) (E:XK),Room k (A.deeper (envOfC qual (d9 st) s.heap.objs.size f cdv)) ->
   QKR (x5 (CX1 P w) P w K mg base N qual (d9 st) f cdv A outer s H E) F0 [1] (y9 st) i g):FnOk P w K mg base (CX1 P w) (k+1) f fd ps (spW K (Bj kk i g)):=by
 refine F.okX S (fun vs H Q E h=>?_) (fun cdv A outer s H vs Q E hr h=>?_)
 . obtain ⟨d0,d1,w,a,H0,rfl,_⟩:=h;rw [hps];rfl
 . refine ⟨_,(hbody cdv A outer s H E hr).h,?_⟩;obtain ⟨d0,d1,w,a,H0,rfl,s0,h0,ob,r,h⟩:=h;have e:start N [w,.ref a]=some w::some (.ref a)::List.replicate kk none:=by unfold start;rw [hN,show 2+kk - [w,V.ref a].length=kk by simp];rfl
   rw [e];refine ⟨H0,hid [a] H,H0,Sl.im d0::Sl.ow d1::List.replicate kk Sl.em,F0.same _,kA s0 h0 ob r kk,?_⟩;unfold Bj at h;simp only at h;cases q:g (Sl.im d0::Sl.ow d1::List.replicate kk Sl.em) with
   | nx ρ=>
    rw [q] at h
    intro σ' H' H0' RR kp
    simp only at h
    split at h
    . rename_i d' r' q1 q2;obtain ⟨a',z1,z2,z3,z4⟩:=RR.ow 1 d' q1;obtain ⟨p,y1,y2,y3,y4⟩:=RR.ow i r' q2;have:=kp 1 (List.mem_singleton.mpr rfl);rw [z1] at this;cases this;refine ⟨.ref p,y1,h H' H0' p RR.sb RR.ext z2 z4 (fun z=>?_) y3 y2 y4⟩;subst z;exact hi (RR.ap i 1 _ _ p q2 q1 y1 z1)
    . exact h.elim
   | rt d=>rw [q] at h;exact h.elim
   | er x=>rw [q] at h;exact h.elim
   | bk ρ=>rw [q] at h;exact h.elim
   | ct ρ=>rw [q] at h;exact h.elim
   | st=>rw [q] at h;exact h.elim
def W3 (i j:Nat) (m:List Bool) (mW:List D->R (D×D)) (f0:DE->R D):DS->SR:=fun ρ=>(f0 (vis m ρ)).toS fun d0=>match (j7 (keeps false d0) m ρ)[j]? with
 | some (.ow d1)=>(match mW [d0,d1] with
  | .ok r=>.nx (((j7 (keeps false d0) m ρ).set j (.ow r.1)).set i (.ow r.2))
  | _=>.st)
 | _=>.st
section
variable {K:Frag} {EX:XW} {fr:Bool} {De:Ends} {σ:St} {H:Hp} {m:List Bool}
theorem y0c (h:TSd K EX fr (W3 i j m mW f0) De σ H) :
  C3 (U6 (spW K mW) E (D3 (TEd K EX false f0) (D3 (l8 j) R9))) (t9 i) De σ H:=by
 obtain ⟨Hc,Hb,H0,ρ,sb,R,h⟩:=h
 unfold W3 at h
 rw [SK.toS] at h
 refine R.te sb h fun d0 h v H' H0n R' ap=>?_
 have rd:=ap.rd
 split at h
 . rename_i d1 q;obtain ⟨a,z1,z2,z3,z4⟩:=R'.ow j d1 q;unfold D3 l8;rw [z1];refine ⟨d0,d1,v,a,H0n,rfl,R'.ext.2.1,z2,z4,rd,?_⟩;split at h
   . rename_i r qm;rw [qm];intro H2 H02 p s2 e2 n2 ob1 hpa hp n3 ob2;have RR:=R'.hidden q z1 s2 e2 n2 ob1;have sbh:Same Hb (hid [a] H'):=fun b o hb=>by rw [Dh fun hm=>by rw [List.mem_singleton.mp hm,z3] at hb;cases hb];exact R'.sb b o hb
     have AP:Apt K true Hb H02 ((j7 (keeps false d0) m ρ).set j (.ow r.1)) σ H2 r.2 (.ref p):=by
      unfold Apt;rw [ξ rfl];refine ⟨p,rfl,n3,sbh.none hp,ob2,fun k e qk hk=>?_⟩;rcases Dg qk with ⟨e0,_⟩ | ⟨ne,qk⟩
      . subst e0;rw [z1] at hk;cases hk;exact hpa rfl
      . obtain ⟨b,b1,b2,b3,b4⟩:=R'.ow k e qk;rw [hk] at b1;cases b1;obtain ⟨o,ho,_⟩:=b4.some;rw [Dh fun hm=>hpa (List.mem_singleton.mp hm),ho] at hp;cases hp
     exact h _ H2 H02 (RR.put AP i)
   . exact h.elim
 . exact h.elim
end
section
variable {X:Cx} {EX:XW} {fr:Bool}
theorem y0d (hN:X.N.Nodup) (hi:X.N[i]?=some x) (hx:Loc X.env.scope x) (G:i0 X.prog X.w X.K X.mg X.base fn ps kl (spW X.K mW)) (hr:Room jj X.A) (hg:Gl X fn) (h0:QE X EX false e0 f0) (h1:PE X e1 (l8 j)) (hkj:kl<=jj:=by omega) (hdb:(fn==("__debug__":Str))=false:=by decide)
  (he:starEach [e0,e1] X.env=(false,eval e0 X.env)::starEach [e1] X.env:=by rfl) (he1:starEach [e1] X.env=(false,eval e1 X.env)::starEach [] X.env:=by rfl) (hpl:(backTo cp (starEach [e1] X.env)).any (·.1)=false:=by rfl)
  (hs:swapsWith (.Call (.Name fn fp) [e0,e1] [] cp) (some (.Name x pos')) pos.line X.env=pure false:=by rfl) (hf:X.fn x=true\/X.env.scope.names.lookup x=some .local:=by first | exact .inl rfl | exact .inr rfl | assumption) :
  QS X EX fr (.Assign [.Name x pos'] (.Call (.Name fn fp) [e0,e1] [] cp) pos) (W3 i j m mW f0):=
 ⟨(Hz hN hi hx (Su G (Fq (X:=X)).on hr hg (O0 h0.h (O0 h1 pa_nil he1) he) hkj hdb he hpl) hs hf).imp fun _ _ _ q=>y0c q⟩
end
def dInN (neg:Bool):D->D->Option D
 | .tup es,.dn ks _=>match nkD (.tup es) with
  | some k=>if k.dep<=8 then some (.bl (if neg=true then !decide (k∈ks) else decide (k∈ks))) else none
  | none=>none
 | _,_=>none
def rInN (neg:Bool):R2:=fun y x H Q=>∃(a:Addr) (qs:List (NK×Addr)) (xs:List V) (ob:Obj) (k:NK) (b:Addr),x=.ref a/\y=.ref b/\H a=some (.ext (dnP a qs xs ob))/\DN H a qs/\NKr H k (.ref b)/\k.dep<=8 /\
 Q (.bl (if neg=true then !decide (k∈qs.map (·.1)) else decide (k∈qs.map (·.1)))) H
section
variable {X:Cx} {K:Frag}
theorem y0e (qs:List (NK×Addr)) (vs:List Value) (h:qs.length=vs.length) (k:NK):(atKey (z3 qs vs) k).isSome=decide (k∈qs.map (·.1)):=by have e:=Rz (z3 qs vs) k;rw [Cp qs vs h] at e;exact e
theorem Ko (hu:X.A.units+64<cLine):OpR X (compareOp .NotIn) (rInN true):=by intro pins s σ H x y v u Q I rx ry h;obtain ⟨a,qs,xs,ob,k,b,rfl,rfl,e,n,hk,hd,q⟩:=h;cases rx;cases ry;obtain ⟨_,vs,p1,p2,dd⟩:=Aa I e n;refine wpAny_notIn_heap (knd:=deepKind X.prog X.w) (by show X.A.units+1+8<cLine;omega) ⟨T5 I hk rfl,hd⟩ n.2.2.1 dd ?_;rw [y0e qs vs p2];generalize decide (k∈qs.map (·.1))=c at q ⊢;exact ⟨.bl (!c),H,I.tok _,rfl,q⟩
theorem Hj:OpD K false (dInN neg) (rInN neg):=by
 intro H0 H x y d e z Q s rx ry ho k;cases d<;>simp only [dInN] at ho<;>first | (cases ho;done) | skip
 cases e<;>simp only [dInN] at ho<;>first | (cases ho;done) | skip
 rename_i es ks ds;split at ho<;>first | (cases ho;done) | skip
 rename_i kk hkk;split at ho<;>first | (cases ho;done) | skip
 rename_i hd;cases ho;have nk:=Y7 hkk rx;obtain ⟨b,ys,rfl,hb,rb⟩:=rx.tup;simp only [RD] at ry;obtain ⟨a,qs,xs,ob,rfl,h1,hk,n,ra⟩:=ry;refine ⟨a,qs,xs,ob,kk,b,rfl,rfl,s _ _ h1,n.tk fun b zs q=>s _ _ q,NKr.mono (fun b zs q=>s _ _ q) nk,hd,?_⟩;rw [hk];exact k _ H (.pure s (.mkBl _))
def dIxN:D->D->Option D
 | .dn ks ds,.tup es=>match nkD (.tup es) with
  | some k=>if k.dep<=8 then valN ks ds k else none
  | none=>none
 | _,_=>none
def rIxN:R2:=fun x y H Q=>∃(a:Addr) (qs:List (NK×Addr)) (xs:List V) (ob:Obj) (k:NK) (b:Addr) (w:V),x=.ref a/\y=.ref b/\H a=some (.ext (dnP a qs xs ob))/\DN H a qs/\NKr H k (.ref b)/\k.dep<=8/\valN (qs.map (·.1)) xs k=some w/\Q w H
theorem Rp:∀{qs:List (NK×Addr)} {xs:List V} {vs:List Value} {w:V},Vals xs vs->qs.length=vs.length->valN (qs.map (·.1)) xs k=some w->∃p:Addr×Value,atKey (z3 qs vs) k=some p/\RelV w p.2
 | [],xs,vs,w,r,hl,h=>by unfold valN at h;rw [List.map_nil,List.zip_nil_left] at h;cases h
 | q::qs,_,_,w,.nil,hl,h=>by simp at hl
 | q::qs,_,_,w,.cons (a:=x) (b:=v) (l₁:=xs) (l₂:=vs) r rr,hl,hw=>by
  by_cases h:q.1=k
  . unfold valN at hw;rw [List.map_cons,List.zip_cons_cons,List.find?_cons_of_pos (by simpa using h)] at hw;cases hw;refine ⟨(q.2,v),?_,r⟩;show ((z3 (q::qs) (v::vs)).find? fun x=>decide (x.1=k)).map (·.2)=_;unfold z3;rw [List.zip_cons_cons,List.map_cons,List.find?_cons_of_pos (by simpa using h)];rfl
  . unfold valN at hw;rw [List.map_cons,List.zip_cons_cons,List.find?_cons_of_neg (by simpa using h)] at hw;obtain ⟨p,e,rp⟩:=Rp (qs:=qs) rr (by simpa using hl) hw;refine ⟨p,?_,rp⟩;show ((z3 (q::qs) (v::vs)).find? fun x=>decide (x.1=k)).map (·.2)=_;unfold z3;rw [List.zip_cons_cons,List.map_cons,List.find?_cons_of_neg (by simpa using h)];exact e
theorem Ng (hu:X.A.units+64<cLine):IxR X rIxN:=by intro value slice pins s σ H x y v u Q I rx ry h hs;obtain ⟨a,qs,xs,ob,k,b,w,rfl,rfl,e,n,hk,hd,hv,q⟩:=h;cases rx;cases ry;obtain ⟨_,vs,p1,p2,dd⟩:=Aa I e n;obtain ⟨p,hp,rp⟩:=Rp p1 p2 hv;exact tail_any (ops:=[.ref a,.ref b]) dd.typeIs PySem.F.slot_dict_getitem.lookup (wpAny_getItem_heap (knd:=deepKind X.prog X.w) (by show X.A.units+1+8<cLine;lia) ⟨T5 I hk rfl,hd⟩ dd hp ⟨w,H,I.tok _,rp,q⟩) hs
theorem Tv:∀{ks:List NK} {ds:List D} {xs:List V},RDs K H ds xs->valN ks ds k=some z->∃w,valN ks xs k=some w/\RD K H z w
 | [],ds,xs,r,h=>by unfold valN at h;rw [List.zip_nil_left] at h;cases h
 | k'::ks,[],xs,r,h=>by unfold valN at h;rw [List.zip_nil_right] at h;cases h
 | k'::ks,d::ds,xs,r,hz=>by
  simp only [RDs] at r;obtain ⟨x,r',rfl,r1,r2⟩:=r;by_cases h:k'=k
  . unfold valN at hz ⊢;rw [List.zip_cons_cons,List.find?_cons_of_pos (by simpa using h)] at hz ⊢;cases hz;exact ⟨x,rfl,r1⟩
  . unfold valN at hz ⊢;rw [List.zip_cons_cons,List.find?_cons_of_neg (by simpa using h)] at hz ⊢;exact Tv r2 hz
theorem Pj:OpD K false dIxN rIxN:=by
 intro H0 H x y d e z Q s rx ry ho k;cases d<;>simp only [dIxN] at ho<;>first | (cases ho;done) | skip
 cases e<;>simp only [dIxN] at ho<;>first | (cases ho;done) | skip
 rename_i ks ds es;split at ho<;>first | (cases ho;done) | skip
 rename_i kk hkk;split at ho<;>first | (cases ho;done) | skip
 rename_i hd;have nk:=Y7 hkk ry;obtain ⟨b,ys,rfl,hb,rb⟩:=ry.tup;simp only [RD] at rx;obtain ⟨a,qs,xs,ob,rfl,h1,hk,n,ra⟩:=rx;rw [<-hk] at ho;obtain ⟨w,hw,rw'⟩:=Tv ra ho;exact ⟨a,qs,xs,ob,kk,b,w,rfl,rfl,s _ _ h1,n.tk fun b zs q=>s _ _ q,NKr.mono (fun b zs q=>s _ _ q) nk,hd,hw,k _ H (.pure s rw')⟩
end
def Pi (tk tv:TE):TE:=fun σ H Q=>∀(p:Addr) (ob:Obj),H p=none->(p==sysModules)=false->tk σ (upd H p (.ext (dnP p [] [] ob))) fun x H1=>tv σ H1 fun y H2=>
 ∃(k:NK) (b:Addr),x=.ref b/\H2 p=some (.ext (dnP p [] [] ob))/\NKr H2 k (.ref b)/\k.dep<=8/\∀ob',Q (.ref p) (upd H2 p (.ext (dnP p [(k,b)] [y] ob')))
def eDisp1 (fk fv:DE->R D):DE->R D:=fun ρ=>(fk ρ).bind fun k=>(fv ρ).bind fun v=>R.of (match k with
 | .tup es=>match nkD (.tup es) with
  | some kk=>if kk.dep<=8 then some (.dn [kk] [v]) else none
  | none=>none
 | _=>none)
section
variable {X:Cx} {EX:XW} {σ:St} {H:Hp} {Q:VK} {k v:Expr} {pos:Pos}
theorem xq {tk tv:TE} (hu:X.A.units+64<cLine) (hk:PE X k tk) (hv:PE X v tv):PE X (.Dict [some k] [v] pos) (Pi tk tv):=by
 intro pins s σ H Q I q;have hn:=I.hok.fresh (ζ s.heap.objs.size);have hsm:(s.heap.objs.size==sysModules)=false:=beq_eq_false_iff_ne.mpr (Ne.symm (Nat.ne_of_lt I.big));have I1:=I.laid (a:=s.heap.objs.size) (o:=.ext (dnP s.heap.objs.size [] [] { cls:=.type "dict",data:=.dict #[] })) (h':=s.heap.push { cls:=.type "dict",data:=.dict #[] }) (t':=s.toks) (fun _ _ q=>Ψ _ q) (ζ _)
  ⟨⟨Ξ _ rfl,[],#[],0,.nil,rfl,⟨rfl,rfl,rfl⟩,rfl,rfl⟩,⟨_,Ξ _ rfl⟩,dnP.stay⟩
 have hp:PPs X pos [some k] [v] [(tk,tv)]:=xY hk hv wL;refine wpAny_Dict_any rfl rfl (by simp) (by simp) (thn (hp pins _ σ _ (fun ps H2=>match ps with
  | [(x,y)]=>∃(kk:NK) (b:Addr),x=.ref b/\H2 s.heap.objs.size=some (.ext (dnP s.heap.objs.size [] [] { cls:=.type "dict",data:=.dict #[] }))/\NKr H2 kk (.ref b)/\kk.dep<=8/\∀ob',Q (.ref s.heap.objs.size) (upd H2 s.heap.objs.size (.ext (dnP s.heap.objs.size [(kk,b)] [y] ob')))
  | _=>False) I1 (q _ { cls:=.type "dict",data:=.dict #[] } hn hsm)) fun ws s2 ⟨ps,H2,I2,rel,q2⟩=>?_)
 rcases rel with _ | ⟨r,_ | _⟩
 . exact False.elim q2
 rotate_left
 . exact False.elim q2
 rename_i p1 p0 _;obtain ⟨x,y⟩:=p1;obtain ⟨ux,uy⟩:=p0;obtain ⟨kk,b,ex,e2,nk,hd,q2⟩:=q2;obtain ⟨r1,r2⟩:=r;dsimp only at ex r1 r2 q2;subst ex;cases r1;obtain ⟨_,vs,p1,p2,dd⟩:=Aa I2 e2 ⟨List.nodup_nil,fun q hq=>(by simp at hq),hsm,Nat.zero_le _⟩;cases p1;unfold storeAll;rw [List.forIn_cons];refine χ (χ (wpAny_dictSet_heap (knd:=deepKind X.prog X.w) (hsz:=Nat.zero_le _) (by show X.A.units+8<cLine;lia) ⟨T5 I2 nk rfl,hd⟩ dd fun h' dd' hs=>ω (ω ?_)));obtain ⟨o',es,ep,d1,d2,d3,d4,_⟩:=dd';refine ⟨.ref s.heap.objs.size,_,?_,rfl,q2 o'⟩;exact Do I2 (by rw [e2];exact True.intro) hs ⟨o',d1⟩ ⟨⟨d1,[uy],es,ep,.cons r2 .nil,rfl,d2,d3,d4⟩,⟨o',d1⟩,dnP.stay⟩
theorem vN {K:Frag} {fk fv:DE->R D} (h:TEd K EX true (eDisp1 fk fv) σ H Q):Pi (TEd K EX false fk) (TEd K EX false fv) σ H Q:=by
 obtain ⟨sx,ρ,H0,s,e,h⟩:=h;intro p ob hp hsm;have sp:Same H (upd H p (.ext (dnP p [] [] ob))):=Same.upd_new hp;have h0p:=s.none hp;unfold eDisp1 at h;rw [Rk.bind] at h;show TEd K EX false fk σ _ _;refine TEd.go (sx.trans sp) (s.trans sp) e h fun a h v1 H1 H1' s1 e1 r1=>?_
 rw [Rk.bind] at h;refine TEd.go ((sx.trans sp).trans s1) e1.2.1 (e.mono e1.1) h fun x h v2 H2 H2' s2 e2 r2=>?_
 have e12:=e1.trans s1 e2;have s12:=s1.trans s2;obtain ⟨z,hz,h⟩:=h.of;cases a<;>first | (cases hz;done) | skip
 rename_i es;simp only at hz;split at hz<;>first | (cases hz;done) | skip
 rename_i kk hkk;split at hz<;>first | (cases hz;done) | skip
 rename_i hd;cases hz;have nk:=Y7 hkk (r1.mono e2.1);obtain ⟨b,ys,rfl,hb,rb⟩:=r1.tup;refine ⟨kk,b,rfl,s12 p _ i9,NKr.mono (fun b zs q=>e2.2.1 _ _ q) nk,hd,fun ob'=>h _ _ ?_⟩;have p6:H2' p=none:=e12.2.2 p (by rw [i9];exact fun z=>nomatch z) h0p;refine .fresh (fun c o q=>?_) ⟨e12.1,fun c o q=>?_,fun c q1 q2=>e12.2.2 c (sp.ne q1) q2⟩ hp p6 ?_
 . have hc:c≠p:=fun z=>by rw [z,hp] at q;cases q
   rw [d7 hc];exact s12 c o (sp c o q)
 . have hc:c≠p:=fun z=>by rw [z,p6] at q;cases q
   rw [d7 hc];exact e12.2.1 c o q
 . simp only [OB];exact ⟨[(kk,b)],[v2],ob',i9,rfl,⟨by simp,fun q hq=>by rw [List.mem_singleton.mp hq];exact ⟨nk,hd⟩,hsm,by rw [sizeLine_eq];simp⟩,.one r2⟩
theorem vM (hu:X.A.units+64<cLine) (hk:QE X EX false k fk) (hv:QE X EX false v fv):QE X EX true (.Dict [some k] [v] pos) (eDisp1 fk fv):=
 ⟨(xq hu hk.h hv.h).imp fun _ _ _ q=>vN q⟩
end
open PySem.W in
noncomputable def Db (tb:String->Option Builtin) (p:Program) (w:World) (m:Nat) (ann:Option Value):Nat->SharedT->Thread->Option SharedT
 | 0,_,_=>none
 | n+1,s,t=>match through t with
  | true=>some s
  | false=>match stepOk m ann t with
   | false=>none
   | true=>match stepT (denote tb) p w s t with
    | some (s',t')=>Db tb p w m ann n s' t'
    | none=>none
open PySem.W in
theorem Vw:∀(n:Nat) {s s':SharedT} {t:Thread},Db tb p w m ann n s t=some s'->topRun tb p w m ann n s.abs t=some s'.abs
 | 0,_,_,_,h=>nomatch h
 | n+1,s,s',t,h=>by
  unfold Db at h;unfold topRun;cases a:through t with
  | true=>rw [a] at h;cases h;rfl
  | false=>
   rw [a] at h
   cases b:stepOk m ann t with
   | false=>rw [b] at h;cases h
   | true=>
    rw [b] at h
    cases c:stepT (denote tb) p w s t with
    | none=>rw [c] at h;cases h
    | some z=>
     obtain ⟨s2,t2⟩:=z
     rw [c] at h
     rw [stepT_spec c]
     exact Vw n h
open PySem.W in
noncomputable def Ph:List Obj->Nat->BT->BT
 | [],_,t=>t
 | o::l,i,t=>Ph l (i+1) (t.ins i o)
open PySem.W in
def bootS (w:World) (os:OsState):SharedT:=⟨Ph (boot_heap w.params).objs.toList 0 .nil,(boot_heap w.params).objs.size,(boot_heap w.params).life,Array.mk [],boot_drawn,boot_toks,os⟩
open PySem.W in
noncomputable def seenAt (p q:Program) (loose:List Str) (Xt:Shared->Bool) {α:Type} (Yf:Shared->α) (w:World) (t:Shared):=
 (staticsOk (importedModules p.main.body) (boot_heap w.params) t.heap&&namesBound p t.heap&&gensDone t&&laidKept (boot_heap w.params) t.heap,openSeen q loose (importedModules p.main.body) Xt true t,Yf t)
open PySem.W in
def outAt (p q:Program) (loose:List Str) (Xt:Shared->Bool) {α:Type} (Yf:Shared->α) (N:Nat) (w:World) (os:OsState):=
 (Db treeTable p w (boot_heap w.params).objs.size ((boot_heap w.params).nsMap mainGlobals "__annotations__") N (bootS w os) (topStub p)).map fun s=>seenAt p q loose Xt Yf w s.abs
open PySem.W in
theorem xn:∀(w:World) (os:OsState),(bootS w os).abs=⟨boot_heap w.params,Array.mk [],boot_drawn,boot_toks,os⟩:=fun _ _=>by kernel_rfl
open PySem.W in
theorem vL:∀w:World,(boot_heap w.params).isNs mainGlobals=true:=fun _=>by kernel_rfl
open PySem.W in
theorem vK (e:opening p=plainProg p.main.scope.names) (hN:Nat.ble 600 N=true)
  (f:∀s,fenceModules? p s=some s) (h:∀w os,outAt p q loose Xt Yf N w os=some (true,openGood q loose,Ya w)):LeftO p q loose Xt Yf Ya N:=fun w=>by
 obtain ⟨⟨hp,gs,d,k,os⟩,a,b⟩:=Option.map_eq_some_iff.mp (boot_open e hN f w)
 obtain ⟨rfl,rfl,rfl,rfl⟩:hp=boot_heap w.params/\gs=Array.mk []/\d=boot_drawn/\k=boot_toks:=by simpa using b
 obtain ⟨s,r,c⟩:=Option.map_eq_some_iff.mp (h w os)
 have r2:=Vw N r
 rw [xn] at r2
 obtain ⟨l1,l2,l3⟩:_/\_/\_:=by simpa only [seenAt,Prod.mk.injEq] using c
 have t:topFrom treeTable p w N ⟨boot_heap w.params,Array.mk [],boot_drawn,boot_toks,os⟩=some s.abs:=by unfold topFrom;dsimp only;rw [vL,r2];show (match staticsOk (importedModules p.main.body) (boot_heap w.params) s.abs.heap&&namesBound p s.abs.heap&&gensDone s.abs&&laidKept (boot_heap w.params) s.abs.heap with | true=>_ | false=>_)=_;rw [l1]
 unfold openEnds
 rw [a]
 show (topFrom treeTable p w N _).map _=_
 rw [t]
 exact congrArg some (Prod.ext l2 l3)
abbrev vs (x:String) (t:Nat):Value:=.str (Str.ofString x) t
abbrev en (P:Params) (x:String) (t:Nat) (v:Value):DictEntry:=⟨PyData.keyHash P (Str.ofString x),.str (Str.ofString x) t,v⟩
abbrev oT (l:List Value):Obj:={ cls:=.type "tuple",data:=.seq l.toArray }
abbrev oD (l:List DictEntry) (n:Nat):Obj:={ cls:=.type "dict",data:=.dict l.toArray n }
abbrev oF (st:Stmt) (x q:String) (dV kV doc pm:Value) (an:Option Addr) (cd ct:Value):Obj:={ cls:=.type "function",data:=.func (PySem.W.fnOf (Str.ofString x) (Str.ofString q) (J8 st) (y9 st) (d9 st) dV kV doc pm an cd ct) }
end L2
namespace Bd
end Bd
namespace Cu
abbrev P2:=Int×Int
abbrev P3:=Int×Int×Int
def sh (at' x:Int):Int:=if x > at' then x+1 else x
def sh2 (c:Int) (p:P2):P2:=(sh c p.1,sh c p.2)
def sh3 (c:Int) (p:P3):P3:=(sh c p.1,sh c p.2.1,sh c p.2.2)
def outer (p:P3):P2:=(p.1,p.2.2)
def j8 (n c:Int):P2:=if c=n - 1 then (0,c) else (c,c+2)
def n5 (n c:Int):P3:=if c=n - 1 then (0,c,n) else (c,c+1,c+2)
structure CInv (n:Int) (ls:List P2) (T:List P3):Prop where
 n3:3<=n
 tri:∀a c b,(a,c,b)∈T->0<=a/\a<c/\c<b/\b<=n - 1/\((a,c)∈ls\/c=a+1)/\((c,b)∈ls\/b=c+1)
 lin:∀a b,(a,b)∈ls->0<=a/\a+2<=b/\b<=n - 1/\¬(a=0/\b=n - 1)
 nc:∀a b c d,(a,b)∈ls->(c,d)∈ls->¬(a<c/\c<b/\b<d)
 nd:ls.Nodup
 prm:(T.map outer).Perm ((0,n - 1)::ls)
theorem y2p:CInv 3 [] [(0,1,2)] where
 n3:=by omega
 tri:=fun a c b h=>by simp only [List.mem_cons,Prod.mk.injEq,List.not_mem_nil,or_false] at h;omega
 lin:=fun a b h=>by simp at h
 nc:=fun a b c d h=>by simp at h
 nd:=List.nodup_nil
 prm:=.refl _
theorem N8 {c:Int} {ls:List P2} {x y:Int} (h:(x,y)∈ls.map (sh2 c)):∃a b,(a,b)∈ls/\x=sh c a/\y=sh c b:=by obtain ⟨⟨a,b⟩,hm,e⟩:=List.mem_map.mp h;simp only [sh2,Prod.mk.injEq] at e;exact ⟨a,b,hm,e.1.symm,e.2.symm⟩
theorem Jm {c:Int} {ls:List P2} {a b:Int} (h:(a,b)∈ls):(sh c a,sh c b)∈ls.map (sh2 c):=List.mem_map.mpr ⟨(a,b),h,rfl⟩
theorem Y6 (h:sh c x=sh c y):x=y:=by unfold sh at h;split at h<;>split at h<;>lia
theorem CInv.grow (I:CInv n ls T) (c:Int) (h0:0<=c) (h1:c<n):CInv (n+1) (ls.map (sh2 c)++[j8 n c]) (T.map (sh3 c)++[n5 n c]) where
 n3:=by have:=I.n3;lia
 tri:=fun x y z h=>by
  have h3:=I.n3;rcases List.mem_append.mp h with h | h
  . obtain ⟨⟨a,m,b⟩,hm,e⟩:=List.mem_map.mp h;simp only [sh3,Prod.mk.injEq] at e;obtain ⟨rfl,rfl,rfl⟩:=e;obtain ⟨g1,g2,g3,g4,g5,g6⟩:=I.tri a m b hm;have k1:0<=sh c a:=by unfold sh;split<;>lia
    have k2:sh c a<sh c m:=by unfold sh;split<;>split<;>lia
    have k3:sh c m<sh c b:=by unfold sh;split<;>split<;>lia
    have k4:sh c b<=n+1 - 1:=by unfold sh;split<;>lia
    have side:∀u w,u+1=w->w<=n - 1->(sh c u,sh c w)∈ls.map (sh2 c)++[j8 n c]\/sh c w=sh c u+1:=fun u w e hw=>by
     by_cases q:u=c
     . left;refine List.mem_append.mpr (.inr ?_);have e1:sh c u=c:=by unfold sh;split<;>lia
       have e2:sh c w=c+2:=by unfold sh;split<;>lia
       rw [e1,e2];unfold j8;rw [ψ (by lia)];simp
     . right;unfold sh;split<;>split<;>lia
    refine ⟨k1,k2,k3,k4,?_,?_⟩
    . rcases g5 with g5 | g5
      . exact .inl (List.mem_append.mpr (.inl (Jm g5)))
      . exact side a m (by lia) (by lia)
    . rcases g6 with g6 | g6
      . exact .inl (List.mem_append.mpr (.inl (Jm g6)))
      . exact side m b (by lia) (by lia)
  . simp only [List.mem_singleton] at h;unfold n5 at h;by_cases q:c=n - 1
    . rw [ξ q] at h;simp only [Prod.mk.injEq] at h;obtain ⟨rfl,rfl,rfl⟩:=h;refine ⟨by lia,by lia,by lia,by lia,.inl (List.mem_append.mpr (.inr ?_)),.inr (by lia)⟩;unfold j8;rw [ξ q];simp
    . rw [ψ q] at h;simp only [Prod.mk.injEq] at h;obtain ⟨rfl,rfl,rfl⟩:=h;exact ⟨by lia,by lia,by lia,by lia,.inr rfl,.inr (by lia)⟩
 lin:=fun x y h=>by
  have h3:=I.n3;rcases List.mem_append.mp h with h | h
  . obtain ⟨a,b,hm,rfl,rfl⟩:=N8 h;obtain ⟨g1,g2,g3,g4⟩:=I.lin a b hm;unfold sh;split<;>split<;>lia
  . simp only [List.mem_singleton] at h;unfold j8 at h;by_cases q:c=n - 1
    . rw [ξ q] at h;simp only [Prod.mk.injEq] at h;lia
    . rw [ψ q] at h;simp only [Prod.mk.injEq] at h;lia
 nc:=fun x y z w h h'=>by
  have h3:=I.n3;rcases List.mem_append.mp h with h | h<;>rcases List.mem_append.mp h' with h' | h'
  . obtain ⟨a,b,hm,rfl,rfl⟩:=N8 h;obtain ⟨a',b',hm',rfl,rfl⟩:=N8 h';have:=I.nc a b a' b' hm hm';unfold sh;split<;>split<;>split<;>split<;>lia
  . obtain ⟨a,b,hm,rfl,rfl⟩:=N8 h;simp only [List.mem_singleton] at h';have:=I.lin a b hm;unfold j8 at h';by_cases q:c=n - 1
    . rw [ξ q] at h';simp only [Prod.mk.injEq] at h';unfold sh;split<;>split<;>lia
    . rw [ψ q] at h';simp only [Prod.mk.injEq] at h';unfold sh;split<;>split<;>lia
  . obtain ⟨a,b,hm,rfl,rfl⟩:=N8 h';simp only [List.mem_singleton] at h;have:=I.lin a b hm;unfold j8 at h;by_cases q:c=n - 1
    . rw [ξ q] at h;simp only [Prod.mk.injEq] at h;unfold sh;split<;>split<;>lia
    . rw [ψ q] at h;simp only [Prod.mk.injEq] at h;unfold sh;split<;>split<;>lia
  . simp only [List.mem_singleton] at h h';rw [<-h'] at h;simp only [Prod.mk.injEq] at h;lia
 nd:=by
  have h3:=I.n3;rw [List.nodup_append];refine ⟨?_,by simp,fun p hp q hq=>?_⟩
  . refine (List.pairwise_map.mpr (I.nd.imp fun {p q} hne e=>hne ?_));simp only [sh2,Prod.mk.injEq] at e;exact Prod.ext (Y6 e.1) (Y6 e.2)
  . simp only [List.mem_singleton] at hq;subst hq;obtain ⟨x,y⟩:=p;obtain ⟨a,b,hm,rfl,rfl⟩:=N8 hp;have:=I.lin a b hm;intro e;unfold j8 at e;by_cases q:c=n - 1
    . rw [ξ q] at e;simp only [Prod.mk.injEq] at e;unfold sh at e;split at e<;>split at e<;>lia
    . rw [ψ q] at e;simp only [Prod.mk.injEq] at e;unfold sh at e;split at e<;>split at e<;>lia
 prm:=by
  have h3:=I.n3;have e1:(T.map (sh3 c)++[n5 n c]).map outer=(T.map outer).map (sh2 c)++[outer (n5 n c)]:=by simp only [List.map_append,List.map_map,List.map_cons,List.map_nil];rfl
  have p1:((T.map outer).map (sh2 c)++[outer (n5 n c)]).Perm (((0,n - 1)::ls).map (sh2 c)++[outer (n5 n c)]):=(I.prm.map (sh2 c)).append_right _;rw [e1];refine p1.trans ?_;have e0:sh c 0=0:=by unfold sh;split<;>lia
  rw [List.map_cons];by_cases q:c=n - 1
  . have e2:sh2 c (0,n - 1)=j8 n c:=by
     unfold j8 sh2;rw [ξ q];simp only [Prod.mk.injEq];exact ⟨e0,by unfold sh;split<;>lia⟩
    have e3:outer (n5 n c)=(0,n+1 - 1):=by unfold n5 outer;rw [ξ q];simp
    rw [e2,e3]
    refine (List.perm_append_comm (l₁:=_::_) (l₂:=[_])).trans ?_
    refine List.Perm.cons _ ?_
    exact (List.perm_append_comm (l₁:=[j8 n c]) (l₂:=ls.map (sh2 c)))
  . have e2:sh2 c (0,n - 1)=(0,n+1 - 1):=by
     unfold sh2;simp only [Prod.mk.injEq];exact ⟨e0,by unfold sh;split<;>lia⟩
    have e3:outer (n5 n c)=j8 n c:=by unfold n5 j8 outer;rw [ψ q,ψ q]
    rw [e2,e3];exact .refl _
end Cu
namespace Cu
open L2 (mxD Hq T2 T3 so3 Ty Q1)
def pk (x:Int) (p l:P2):Bool:=decide (l.1=x)&&(decide (l.2<=p.2)&&!(decide (l.1=p.1)&&decide (l.2=p.2)))
theorem kz:pk x p l=true↔l.1=x/\l.2<=p.2/\¬(l.1=p.1/\l.2=p.2):=by
 simp only [pk,Bool.and_eq_true,decide_eq_true_eq,Bool.not_eq_true',Bool.and_eq_false_iff,decide_eq_false_iff_not];constructor
 . rintro ⟨h1,h2,h3⟩;exact ⟨h1,h2,fun h=>by rcases h3 with z | z<;>lia⟩
 . rintro ⟨h1,h2,h3⟩;refine ⟨h1,h2,?_⟩;by_cases z:l.1=p.1
   . exact .inr fun w=>h3 ⟨z,w⟩
   . exact .inl z
def ends (x:Int) (p:P2) (ls:List P2):List Int:=(ls.filter (pk x p)).map (·.2)
theorem mem_ends:y∈ends x p ls↔(x,y)∈ls/\y<=p.2/\¬(x=p.1/\y=p.2):=by
 simp only [ends,List.mem_map,List.mem_filter,kz];constructor
 . rintro ⟨⟨a,b⟩,⟨h1,h2,h3,h4⟩,rfl⟩;simp only at h2 h3 h4 ⊢;subst h2;exact ⟨h1,h3,h4⟩
 . rintro ⟨h1,h2,h3⟩;exact ⟨(x,y),⟨h1,rfl,h2,h3⟩,rfl⟩
section
variable {n:Int} {ls ls':List P2} {T:List P3} {a b c:Int}
theorem CInv.beh1 (I:CInv n ls T) (p:ls'.Perm ls) (h:(a,c,b)∈T):mxD (a+1) (ends a (a,b) ls')=c:=by
 obtain ⟨g1,g2,g3,g4,g5,g6⟩:=I.tri a c b h;have key:∀y∈ends a (a,b) ls',y<=c:=fun y hy=>by
  obtain ⟨m1,m2,m3⟩:=mem_ends.mp hy;have m1:=p.mem_iff.mp m1;simp only at m2 m3;have:¬y=b:=fun z=>m3 (by simpa using z)
  rcases g6 with g6 | g6
  . have:=I.nc a y c b m1 g6;lia
  . lia
 refine Hq key ?_;rcases g5 with g5 | g5
 . left;exact mem_ends.mpr ⟨p.mem_iff.mpr g5,by simp only;lia,by simp only;lia⟩
 . by_cases z:ends a (a,b) ls'=[]
   . exact .inr ⟨z,by lia⟩
   . obtain ⟨y,hy⟩:=List.exists_mem_of_ne_nil _ z;have:=key y hy;obtain ⟨m1,m2,m3⟩:=mem_ends.mp hy;have:=I.lin a y (p.mem_iff.mp m1);lia
theorem CInv.beh2 (I:CInv n ls T) (p:ls'.Perm ls) (h:(a,c,b)∈T):mxD (c+1) (ends c (a,b) ls')=b:=by
 obtain ⟨g1,g2,g3,g4,g5,g6⟩:=I.tri a c b h;refine Hq (fun y hy=>(mem_ends.mp hy).2.1) ?_;rcases g6 with g6 | g6
 . left;exact mem_ends.mpr ⟨p.mem_iff.mpr g6,by simp only;lia,by simp only;lia⟩
 . by_cases z:ends c (a,b) ls'=[]
   . exact .inr ⟨z,by lia⟩
   . obtain ⟨y,hy⟩:=List.exists_mem_of_ne_nil _ z;obtain ⟨m1,m2,m3⟩:=mem_ends.mp hy;have:=I.lin c y (p.mem_iff.mp m1);simp only at m2;lia
def thr (T:List P3) (p:P2):P3:=(T.find? fun t=>decide (outer t=p)).getD (0,0,0)
theorem Pg (h:p∈T.map outer):thr T p∈T/\outer (thr T p)=p:=by
 obtain ⟨t,ht,e⟩:=List.mem_map.mp h;unfold thr;cases hf:T.find? fun t=>decide (outer t=p) with
 | none=>
  have:=List.find?_eq_none.mp hf t ht
  simp [e] at this
 | some u=>
  have h1:=List.mem_of_find?_eq_some hf
  have h2:=List.find?_some hf
  exact ⟨h1,by simpa using h2⟩
theorem CInv.thr_outer (I:CInv n ls T) (h:t∈T):thr T (outer t)=t:=by obtain ⟨h1,h2⟩:=Pg (T:=T) (List.mem_map.mpr ⟨t,h,rfl⟩);obtain ⟨a,c,b⟩:=t;generalize thr T (outer (a,c,b))=u at h1 h2;obtain ⟨a',c',b'⟩:=u;simp only [outer,Prod.mk.injEq] at h2;obtain ⟨rfl,rfl⟩:=h2;have e1:=I.beh1 (.refl _) h1;have e2:=I.beh1 (.refl _) h;rw [e1] at e2;rw [e2]
theorem CInv.tops (I:CInv n ls T) (p:ls'.Perm ls):(((0,n - 1)::ls').map (thr T)).Perm T:=by
 have q:((0,n - 1)::ls').Perm (T.map outer):=(p.cons _).trans I.prm.symm;refine (q.map (thr T)).trans ?_;rw [List.map_map];have:T.map (thr T∘outer)=T:=by
  conv=>rhs;rw [<-List.map_id T]
  exact List.map_congr_left fun t ht=>I.thr_outer ht
 rw [this]
theorem CInv.top_in (I:CInv n ls T) (p:ls'.Perm ls) (h:q∈(0,n - 1)::ls'):thr T q∈T/\outer (thr T q)=q:=
 Pg ((((p.cons _).trans I.prm.symm).mem_iff).mp h)
theorem CInv.len (I:CInv n ls T):T.length=ls.length+1:=by have:=I.prm.length_eq;simpa using this
end
def bth (x y:Int) (t:P3):Bool:=(decide (x=t.1)||(decide (x=t.2.1)||decide (x=t.2.2)))&&(decide (y=t.1)||(decide (y=t.2.1)||decide (y=t.2.2)))
theorem bth_iff:bth x y (a,c,b)=true↔(x=a\/x=c\/x=b)/\(y=a\/y=c\/y=b):=by simp only [bth,Bool.and_eq_true,Bool.or_eq_true,decide_eq_true_eq]
open Classical in
noncomputable def ee (n:Int) (ls:List P2) (x y:Int):Nat:=(if (x,y)∈ls then 2 else 0)+(if y=x+1/\0<=x/\y<=n - 1 then 1 else 0)+(if x=0/\y=n - 1 then 1 else 0)
def Cnt (n:Int) (ls:List P2) (T:List P3):Prop:=∀x y,x<y->(T.filter (bth x y)).length=ee n ls x y
theorem y2q:Cnt 3 [] [(0,1,2)]:=by
 intro x y h;unfold ee;by_cases b:bth x y (0,1,2)=true
 . rw [List.filter_cons_of_pos b];rw [bth_iff] at b;simp only [List.filter_nil,List.length_cons,List.length_nil,List.not_mem_nil,if_false];by_cases z:y=x+1/\0<=x/\y<=3 - 1
   . rw [ξ z,ψ (by lia)]
   . rw [ψ z,ξ (by lia)]
 . rw [List.filter_cons_of_neg b];rw [bth_iff] at b;simp only [List.filter_nil,List.length_nil,List.not_mem_nil,if_false];rw [ψ (by lia),ψ (by lia)]
theorem z8n (f:α->β) (p:β->Bool) (q:α->Bool) (h:∀a,p (f a)=q a) (l:List α):((l.map f).filter p).length=(l.filter q).length:=by
 induction l with
 | nil=>rfl
 | cons a r ih=>
  rw [List.map_cons,List.filter_cons,List.filter_cons,h a]
  split<;>simp [ih]
theorem y0f:(sh c x=sh c y)↔x=y:=⟨Y6,fun h=>by rw [h]⟩
theorem ku (c x y:Int) (t:P3):bth (sh c x) (sh c y) (sh3 c t)=bth x y t:=by simp only [bth,sh3,y0f]
theorem Cnt.grow (I:CInv n ls T) (C:Cnt n ls T) (c:Int) (h0:0<=c) (h1:c<n):Cnt (n+1) (ls.map (sh2 c)++[j8 n c]) (T.map (sh3 c)++[n5 n c]):=by
 intro x y hxy;have h3:=I.n3;rw [List.filter_append,θ];by_cases old:x≠c+1/\y≠c+1
 . obtain ⟨u,rfl⟩:∃u,x=sh c u:=by
    by_cases z:x > c
    . exact ⟨x - 1,by unfold sh;rw [ξ (by omega)];omega⟩
    . exact ⟨x,by unfold sh;rw [ψ (by omega)]⟩
   obtain ⟨w,rfl⟩:∃w,y=sh c w:=by
    by_cases z:y > c
    . exact ⟨y - 1,by unfold sh;rw [ξ (by omega)];omega⟩
    . exact ⟨y,by unfold sh;rw [ψ (by omega)]⟩
   have huw:u<w:=by unfold sh at hxy;split at hxy<;>split at hxy<;>omega
   rw [z8n (sh3 c) _ (bth u w) (ku c u w),C u w huw]
   have hm:((sh c u,sh c w)∈ls.map (sh2 c)++[j8 n c])↔((u,w)∈ls\/(sh c u,sh c w)=j8 n c):=by rw [List.mem_append,List.mem_singleton];refine ⟨fun h=>h.elim (fun h=>.inl ?_) .inr,fun h=>h.elim (fun h=>.inl (Jm h)) .inr⟩;obtain ⟨a,b,g,e1,e2⟩:=N8 h;rw [Y6 e1,Y6 e2];exact g
   have hlin:=I.lin u w
   unfold ee
   by_cases q:c=n - 1
   . have en:j8 n c=(0,c):=by unfold j8;rw [ξ q]
     have et:n5 n c=(0,c,n):=by unfold n5;rw [ξ q]
     rw [en] at hm;rw [en,et];simp only [Prod.mk.injEq] at hm;by_cases l1:(u,w)∈ls
     . have:=hlin l1;rw [ξ l1,ξ (hm.mpr (.inl l1)),ψ (by omega),ψ (by omega),ψ (by unfold sh;split<;>split<;>omega),ψ (by unfold sh;split<;>split<;>omega),
        List.filter_cons_of_neg (by rw [bth_iff];unfold sh;split<;>split<;>omega)];rfl
     . rw [ψ l1];by_cases z:u=0/\w=n - 1
       . rw [ψ (by omega),ξ z,ξ (hm.mpr (.inr (by unfold sh;split<;>split<;>omega))),ψ (by unfold sh;split<;>split<;>omega),ψ (by unfold sh;split<;>split<;>omega),
          List.filter_cons_of_pos (by rw [bth_iff];unfold sh;split<;>split<;>omega)];rfl
       . rw [ψ z,ψ (fun h=>(hm.mp h).elim l1 (by unfold sh;split<;>split<;>omega)),List.filter_cons_of_neg (by rw [bth_iff];unfold sh;split<;>split<;>omega),
          ψ (show ¬(sh c u=0/\sh c w=n+1 - 1) by unfold sh;split<;>split<;>omega)]
         by_cases y1:w=u+1/\0<=u/\w<=n - 1
         . rw [ξ y1,ξ (by unfold sh;split<;>split<;>omega)];rfl
         . rw [ψ y1,ψ (by unfold sh;split<;>split<;>omega)];rfl
   . have en:j8 n c=(c,c+2):=by unfold j8;rw [ψ q]
     have et:n5 n c=(c,c+1,c+2):=by unfold n5;rw [ψ q]
     rw [en] at hm;rw [en,et];simp only [Prod.mk.injEq] at hm;by_cases l1:(u,w)∈ls
     . have:=hlin l1;rw [ξ l1,ξ (hm.mpr (.inl l1)),ψ (by omega),ψ (by omega),ψ (by unfold sh;split<;>split<;>omega),ψ (by unfold sh;split<;>split<;>omega),
        List.filter_cons_of_neg (by rw [bth_iff];unfold sh;split<;>split<;>omega)];rfl
     . rw [ψ l1];by_cases z:u=c/\w=c+1
       . rw [ξ (by omega),ψ (show ¬(u=0/\w=n - 1) by omega),ξ (hm.mpr (.inr (by unfold sh;split<;>split<;>omega))),ψ (by unfold sh;split<;>split<;>omega),ψ (by unfold sh;split<;>split<;>omega),
          List.filter_cons_of_pos (by rw [bth_iff];unfold sh;split<;>split<;>omega)];rfl
       . rw [ψ (fun h=>(hm.mp h).elim l1 (by unfold sh;split<;>split<;>omega)),List.filter_cons_of_neg (by rw [bth_iff];unfold sh;split<;>split<;>omega)];by_cases y1:w=u+1/\0<=u/\w<=n - 1
         . rw [ξ y1,ξ (show sh c w=sh c u+1/\0<=sh c u/\sh c w<=n+1 - 1 by unfold sh;split<;>split<;>omega),ψ (by omega),ψ (by unfold sh;split<;>split<;>omega)];rfl
         . rw [ψ y1,ψ (show ¬(sh c w=sh c u+1/\0<=sh c u/\sh c w<=n+1 - 1) by unfold sh;split<;>split<;>omega)];by_cases y2:u=0/\w=n - 1
           . rw [ξ y2,ξ (by unfold sh;split<;>split<;>omega)];rfl
           . rw [ψ y2,ψ (by unfold sh;split<;>split<;>omega)];rfl
 . have hnil:(T.map (sh3 c)).filter (bth x y)=[]:=by
    rw [List.filter_eq_nil_iff]
    intro t ht
    obtain ⟨⟨a,m,b⟩,_,rfl⟩:=List.mem_map.mp ht
    simp only [sh3]
    rw [bth_iff]
    have k1:sh c a≠c+1:=by unfold sh;split<;>omega
    have k2:sh c m≠c+1:=by unfold sh;split<;>omega
    have k3:sh c b≠c+1:=by unfold sh;split<;>omega
    rintro ⟨hu,hv⟩
    refine old ⟨?_,?_⟩
    . rcases hu with h | h | h<;>rw [h]<;>assumption
    . rcases hv with h | h | h<;>rw [h]<;>assumption
   rw [hnil,List.length_nil,Nat.zero_add]
   have hm:¬((x,y)∈ls.map (sh2 c)++[j8 n c]):=by
    rw [List.mem_append,List.mem_singleton];rintro (h | h)
    . obtain ⟨a,b,g,e1,e2⟩:=N8 h;have k1:sh c a≠c+1:=by unfold sh;split<;>omega
      have k2:sh c b≠c+1:=by unfold sh;split<;>omega
      exact old ⟨by rw [e1];exact k1,by rw [e2];exact k2⟩
    . unfold j8 at h;by_cases q:c=n - 1
      . rw [ξ q] at h;simp only [Prod.mk.injEq] at h;omega
      . rw [ψ q] at h;simp only [Prod.mk.injEq] at h;omega
   unfold ee
   rw [ψ hm]
   unfold n5
   by_cases q:c=n - 1
   . rw [ξ q];by_cases z:bth x y (0,c,n)=true
     . rw [List.filter_cons_of_pos z];rw [bth_iff] at z;by_cases y1:y=x+1/\0<=x/\y<=n+1 - 1
       . rw [ξ y1,ψ (by omega)];rfl
       . rw [ψ y1,ξ (by omega)];rfl
     . rw [List.filter_cons_of_neg z];rw [bth_iff] at z;rw [ψ (by omega),ψ (by omega)];rfl
   . rw [ψ q];by_cases z:bth x y (c,c+1,c+2)=true
     . rw [List.filter_cons_of_pos z];rw [bth_iff] at z;rw [ξ (by omega),ψ (by omega)];rfl
     . rw [List.filter_cons_of_neg z];rw [bth_iff] at z;rw [ψ (by omega),ψ (by omega)];rfl
end Cu
namespace Cu
def b1n (b:Bool):Nat:=if b=true then 1 else 0
theorem Ek (p:P3->Bool) (t u:P3) (r:List P3):((t::u::r).filter p).length=b1n (p t)+b1n (p u)+(r.filter p).length:=by simp only [List.filter_cons,b1n];cases p t<;>cases p u<;>simp<;>lia
theorem Z8 (x y a c b:Int):b1n (bth x y (a,c,b))=if ((x=a\/x=c\/x=b)/\(y=a\/y=c\/y=b)) then 1 else 0:=by
 unfold b1n;by_cases h:bth x y (a,c,b)=true
 . rw [ξ h,ξ (bth_iff.mp h)]
 . rw [ψ h,ψ (fun z=>h (bth_iff.mpr z))]
def e2 (x y a b:Int):Nat:=if x=a/\y=b then 1 else 0
theorem L8 (hxy:x<y) (h1:a<c) (h2:c<b):b1n (bth x y (a,c,b))=e2 x y a c+e2 x y c b+e2 x y a b:=by
 rw [Z8];unfold e2;by_cases z1:x=a/\y=c
 . rw [ξ (by lia),ξ z1,ψ (by lia),ψ (by lia)]
 . by_cases z2:x=c/\y=b
   . rw [ξ (by lia),ψ z1,ξ z2,ψ (by lia)]
   . by_cases z3:x=a/\y=b
     . rw [ξ (by lia),ψ z1,ψ z2,ξ z3]
     . rw [ψ (by lia),ψ z1,ψ z2,ψ z3]
theorem Bi (x y a b:Int):(if (x,y)=(a,b) then 2 else 0)=2 * e2 x y a b:=by
 unfold e2;by_cases z:x=a/\y=b
 . rw [ξ z,ξ (by rw [z.1,z.2])]
 . rw [ψ z,ψ (fun h=>z (by simpa only [Prod.mk.injEq] using h))]
theorem Ur (C:Cnt n ls T) (pT:T.Perm (t1::t2::T0)) (pl:ls.Perm (l::ls0)) (hw:w∉ls) (hl:l∉ls0)
  (key:∀x y,x<y->b1n (bth x y u1)+b1n (bth x y u2)+(if (x,y)=l then 2 else 0)=b1n (bth x y t1)+b1n (bth x y t2)+(if (x,y)=w then 2 else 0))
  (hlw:l.1<l.2/\w.1<w.2) (hls:¬(l.2=l.1+1)/\¬(l.1=0/\l.2=n - 1)) (hws:¬(w.2=w.1+1)/\¬(w.1=0/\w.2=n - 1)):Cnt n (ls0++[w]) (u1::u2::T0):=by
 intro x y hxy
 have c:=C x y hxy
 rw [(pT.filter _).length_eq,Ek] at c
 rw [Ek]
 have k:=key x y hxy
 have e:ee n (ls0++[w]) x y+(if (x,y)=l then 2 else 0)=ee n ls x y+(if (x,y)=w then 2 else 0):=by
  unfold ee;have m1:(x,y)∈ls↔((x,y)=l\/(x,y)∈ls0):=by rw [pl.mem_iff,List.mem_cons]
  have m2:(x,y)∈ls0++[w]↔((x,y)∈ls0\/(x,y)=w):=by rw [List.mem_append,List.mem_singleton]
  by_cases a:(x,y)=l
  . have b:(x,y)≠w:=fun z=>hw (by rw [<-z];exact m1.mpr (.inl a))
    have b0:(x,y)∉ls0:=fun z=>hl (by rw [<-a];exact z)
    rw [ξ a,ψ b,ψ (fun z=>(m2.mp z).elim b0 b),ξ (m1.mpr (.inl a))];lia
  . by_cases b:(x,y)=w
    . have a0:(x,y)∉ls:=fun z=>hw (by rw [<-b];exact z)
      rw [ψ a,ξ b,ξ (m2.mpr (.inr b)),ψ a0];lia
    . rw [ψ a,ψ b];by_cases z:(x,y)∈ls0
      . rw [ξ (m2.mpr (.inl z)),ξ (m1.mpr (.inr z))]
      . rw [ψ (fun q=>(m2.mp q).elim z b),ψ (fun q=>(m1.mp q).elim a z)]
 lia
theorem CInv.top_or (I:CInv n ls T) (h:(a,c,b)∈T):(a,b)∈ls\/(a=0/\b=n - 1):=by
 have:(a,b)∈(0,n - 1)::ls:=I.prm.mem_iff.mp (List.mem_map.mpr ⟨(a,c,b),h,rfl⟩);rcases List.mem_cons.mp this with z | z
 . simp only [Prod.mk.injEq] at z;exact .inr z
 . exact .inl z
structure Cut (n:Int) (ls:List P2) (T:List P3):Prop where
 inv:CInv n ls T
 cnt:Cnt n ls T
theorem nc2 (I:CInv n ls T) (h:(a,b)∈ls\/b=a+1) (hx:(x,y)∈ls):¬(a<x/\x<b/\b<y)/\¬(x<a/\a<y/\y<b):=by
 rcases h with h | h
 . exact ⟨I.nc a b x y h hx,I.nc x y a b hx h⟩
 . lia
theorem nc3 (I:CInv n ls T) (h:(a,b)∈ls\/(a=0/\b=n - 1)) (hx:(x,y)∈ls):¬(a<x/\x<b/\b<y)/\¬(x<a/\a<y/\y<b):=by
 rcases h with h | h
 . exact ⟨I.nc a b x y h hx,I.nc x y a b hx h⟩
 . have:=I.lin x y hx;omega
theorem y2r {p m q r x y:Int} (a2:p<m) (a3:m<q) (b3:q<r) (k1:¬(p<x/\x<m/\m<y)/\¬(x<p/\p<y/\y<m)) (k2:¬(m<x/\x<q/\q<y)/\¬(x<m/\m<y/\y<q)) (k3:¬(q<x/\x<r/\r<y)/\¬(x<q/\q<y/\y<r)) (k4:¬(p<x/\x<r/\r<y)/\¬(x<p/\p<y/\y<r)) (h2:¬(x=p/\y=q)) (hl:x+2<=y) :
  ¬(m<x/\x<r/\r<y)/\¬(x<m/\m<y/\y<r):=by
 refine ⟨fun ⟨u,v,z⟩=>k4.1 ⟨Int.lt_trans a2 u,v,z⟩,fun ⟨u,v,z⟩=>?_⟩
 rcases Int.lt_trichotomy y q with f | f | f
 . exact k2.2 ⟨u,v,f⟩
 . subst f;rcases Int.lt_trichotomy x p with e | e | e
   . exact k4.2 ⟨e,Int.lt_trans a2 v,z⟩
   . exact h2 ⟨e,rfl⟩
   . exact k1.1 ⟨e,u,v⟩
 . exact k3.2 ⟨Int.lt_trans u a3,f,z⟩
theorem y2s {p m q r x y:Int} (a2:p<m) (a3:m<q) (b2:r<p) (k1:¬(p<x/\x<m/\m<y)/\¬(x<p/\p<y/\y<m)) (k2:¬(m<x/\x<q/\q<y)/\¬(x<m/\m<y/\y<q)) (k3:¬(r<x/\x<p/\p<y)/\¬(x<r/\r<y/\y<p)) (k4:¬(r<x/\x<q/\q<y)/\¬(x<r/\r<y/\y<q)) (h2:¬(x=p/\y=q)) (hl:x+2<=y) :
  ¬(r<x/\x<m/\m<y)/\¬(x<r/\r<y/\y<m):=by
 refine ⟨fun ⟨u,v,z⟩=>?_,fun ⟨u,v,z⟩=>k4.2 ⟨u,v,Int.lt_trans z a3⟩⟩
 rcases Int.lt_trichotomy x p with e | e | e
 . exact k3.1 ⟨u,e,Int.lt_trans a2 z⟩
 . subst e;rcases Int.lt_trichotomy y q with f | f | f
   . exact k2.2 ⟨v,z,f⟩
   . exact h2 ⟨rfl,f⟩
   . exact k4.1 ⟨u,Int.lt_trans v a3,f⟩
 . exact k1.1 ⟨e,v,z⟩
theorem Cut.turnA (K:Cut n ls T) (pT:T.Perm ((p,m,q)::(p,q,r)::T0)) (pl:ls.Perm ((p,q)::ls0)) :
  Cut n (ls0++[(m,r)]) ((p,m,r)::(m,q,r)::T0):=by
 have I:=K.inv
 have m1:(p,m,q)∈T:=pT.mem_iff.mpr (by simp)
 have m2:(p,q,r)∈T:=pT.mem_iff.mpr (by simp)
 obtain ⟨a1,a2,a3,a4,a5,a6⟩:=I.tri p m q m1
 obtain ⟨b1,b2,b3,b4,b5,b6⟩:=I.tri p q r m2
 have tp:=I.top_or m2
 have nd0:(p,q)∉ls0/\ls0.Nodup:=by have:=pl.nodup_iff.mp I.nd;rw [List.nodup_cons] at this;exact this
 have hlq:(p,q)∈ls:=pl.mem_iff.mpr (by simp)
 have sub:∀x y,(x,y)∈ls0->(x,y)∈ls/\¬(x=p/\y=q):=fun x y h=>⟨pl.mem_iff.mpr (List.mem_cons_of_mem _ h),fun z=>nd0.1 (by rw [<-z.1,<-z.2];exact h)⟩
 have new:∀x y,(x,y)∈ls0->¬(m<x/\x<r/\r<y)/\¬(x<m/\m<y/\y<r):=fun x y h=>by obtain ⟨h1,h2⟩:=sub x y h;exact y2r a2 a3 b3 (nc2 I a5 h1) (nc2 I a6 h1) (nc2 I b6 h1) (nc3 I tp h1) h2 (I.lin x y h1).2.1
 have wn:(m,r)∉ls:=fun z=>by have:=I.nc p q m r hlq z;lia
 have keep:∀x y,(x,y)∈ls->¬(x=p/\y=q)->(x,y)∈ls0++[(m,r)]:=fun x y h1 h2=>by
  rcases List.mem_cons.mp (pl.mem_iff.mp h1) with z | z
  . simp only [Prod.mk.injEq] at z;exact absurd z h2
  . exact List.mem_append.mpr (.inl z)
 have inw:(m,r)∈ls0++[(m,r)]:=List.mem_append.mpr (.inr (by simp))
 refine ⟨⟨I.n3,fun x y z h=>?_,fun x y h=>?_,fun x y z w h h'=>?_,?_,?_⟩,?_⟩
 . rcases List.mem_cons.mp h with h | h
   . simp only [Prod.mk.injEq] at h;obtain ⟨rfl,rfl,rfl⟩:=h;exact ⟨a1,a2,by lia,b4,a5.imp (fun h=>keep _ _ h (by lia)) id,.inl inw⟩
   rcases List.mem_cons.mp h with h | h
   . simp only [Prod.mk.injEq] at h;obtain ⟨rfl,rfl,rfl⟩:=h;exact ⟨by lia,a3,b3,b4,a6.imp (fun h=>keep _ _ h (by lia)) id,b6.imp (fun h=>keep _ _ h (by lia)) id⟩
   . have hT:(x,y,z)∈T:=pT.mem_iff.mpr (by simp [h]);obtain ⟨c1,c2,c3,c4,c5,c6⟩:=I.tri x y z hT;have cn:=K.cnt p q (by lia);have two:ee n ls p q=2:=by unfold ee;have:=I.lin p q hlq;rw [ξ hlq,ψ (by lia),ψ (by lia)]
     rw [two,(pT.filter _).length_eq,Ek,Z8,Z8,ξ (by lia),ξ (by lia)] at cn;have nil:T0.filter (bth p q)=[]:=List.length_eq_zero_iff.mp (by lia);have nb:¬(bth p q (x,y,z)=true):=fun w=>by have:(x,y,z)∈T0.filter (bth p q):=List.mem_filter.mpr ⟨h,w⟩;rw [nil] at this;cases this
     rw [bth_iff] at nb;exact ⟨c1,c2,c3,c4,c5.imp (fun h=>keep _ _ h (by lia)) id,c6.imp (fun h=>keep _ _ h (by lia)) id⟩
 . rcases List.mem_append.mp h with h | h
   . exact I.lin x y (sub x y h).1
   . simp only [List.mem_singleton,Prod.mk.injEq] at h;lia
 . rcases List.mem_append.mp h with h | h<;>rcases List.mem_append.mp h' with h' | h'
   . exact I.nc x y z w (sub x y h).1 (sub z w h').1
   . simp only [List.mem_singleton,Prod.mk.injEq] at h';have:=new x y h;lia
   . simp only [List.mem_singleton,Prod.mk.injEq] at h;have:=new z w h';lia
   . simp only [List.mem_singleton,Prod.mk.injEq] at h h';lia
 . rw [List.nodup_append];refine ⟨nd0.2,by simp,fun a ha b hb=>?_⟩;simp only [List.mem_singleton] at hb;subst hb;intro e;subst e;exact wn (sub _ _ ha).1
 . have p1:((p,q)::(p,r)::T0.map outer).Perm ((0,n - 1)::(p,q)::ls0):=((pT.map outer).symm.trans I.prm).trans (pl.cons _);have p2:((p,r)::T0.map outer).Perm ((0,n - 1)::ls0):=(List.perm_cons (p,q)).mp (p1.trans (.swap _ _ _));show ((p,r)::(m,r)::T0.map outer).Perm _;refine (List.Perm.swap _ _ _).trans ((p2.cons _).trans ?_);refine (List.Perm.swap _ _ _).trans (List.Perm.cons _ ?_);exact (List.perm_append_singleton _ _).symm
 . refine Ur K.cnt pT pl wn nd0.1 (fun x y hxy=>?_) ⟨by simp only;lia,by simp only;lia⟩ ⟨by have:=I.lin p q hlq;simp only;lia,by have:=I.lin p q hlq;simp only;lia⟩ ⟨by simp only;lia,by simp only;lia⟩;rw [L8 hxy (by lia) (by lia),L8 hxy (by lia) (by lia),L8 hxy (by lia) (by lia),L8 hxy (by lia) (by lia),Bi,Bi]
   lia
theorem Cut.turnB (K:Cut n ls T) (pT:T.Perm ((p,m,q)::(r,p,q)::T0)) (pl:ls.Perm ((p,q)::ls0)) :
  Cut n (ls0++[(r,m)]) ((r,p,m)::(r,m,q)::T0):=by
 have I:=K.inv
 have m1:(p,m,q)∈T:=pT.mem_iff.mpr (by simp)
 have m2:(r,p,q)∈T:=pT.mem_iff.mpr (by simp)
 obtain ⟨a1,a2,a3,a4,a5,a6⟩:=I.tri p m q m1
 obtain ⟨b1,b2,b3,b4,b5,b6⟩:=I.tri r p q m2
 have tp:=I.top_or m2
 have nd0:(p,q)∉ls0/\ls0.Nodup:=by have:=pl.nodup_iff.mp I.nd;rw [List.nodup_cons] at this;exact this
 have hlq:(p,q)∈ls:=pl.mem_iff.mpr (by simp)
 have sub:∀x y,(x,y)∈ls0->(x,y)∈ls/\¬(x=p/\y=q):=fun x y h=>⟨pl.mem_iff.mpr (List.mem_cons_of_mem _ h),fun z=>nd0.1 (by rw [<-z.1,<-z.2];exact h)⟩
 have new:∀x y,(x,y)∈ls0->¬(r<x/\x<m/\m<y)/\¬(x<r/\r<y/\y<m):=fun x y h=>by obtain ⟨h1,h2⟩:=sub x y h;exact y2s a2 a3 b2 (nc2 I a5 h1) (nc2 I a6 h1) (nc2 I b5 h1) (nc3 I tp h1) h2 (I.lin x y h1).2.1
 have wn:(r,m)∉ls:=fun z=>by have:=I.nc r m p q z hlq;lia
 have keep:∀x y,(x,y)∈ls->¬(x=p/\y=q)->(x,y)∈ls0++[(r,m)]:=fun x y h1 h2=>by
  rcases List.mem_cons.mp (pl.mem_iff.mp h1) with z | z
  . simp only [Prod.mk.injEq] at z;exact absurd z h2
  . exact List.mem_append.mpr (.inl z)
 have inw:(r,m)∈ls0++[(r,m)]:=List.mem_append.mpr (.inr (by simp))
 refine ⟨⟨I.n3,fun x y z h=>?_,fun x y h=>?_,fun x y z w h h'=>?_,?_,?_⟩,?_⟩
 . rcases List.mem_cons.mp h with h | h
   . simp only [Prod.mk.injEq] at h;obtain ⟨rfl,rfl,rfl⟩:=h;exact ⟨b1,b2,a2,by lia,b5.imp (fun h=>keep _ _ h (by lia)) id,a5.imp (fun h=>keep _ _ h (by lia)) id⟩
   rcases List.mem_cons.mp h with h | h
   . simp only [Prod.mk.injEq] at h;obtain ⟨rfl,rfl,rfl⟩:=h;exact ⟨b1,by lia,a3,a4,.inl inw,a6.imp (fun h=>keep _ _ h (by lia)) id⟩
   . have hT:(x,y,z)∈T:=pT.mem_iff.mpr (by simp [h]);obtain ⟨c1,c2,c3,c4,c5,c6⟩:=I.tri x y z hT;have cn:=K.cnt p q (by lia);have two:ee n ls p q=2:=by unfold ee;have:=I.lin p q hlq;rw [ξ hlq,ψ (by lia),ψ (by lia)]
     rw [two,(pT.filter _).length_eq,Ek,Z8,Z8,ξ (by lia),ξ (by lia)] at cn;have nil:T0.filter (bth p q)=[]:=List.length_eq_zero_iff.mp (by lia);have nb:¬(bth p q (x,y,z)=true):=fun w=>by have:(x,y,z)∈T0.filter (bth p q):=List.mem_filter.mpr ⟨h,w⟩;rw [nil] at this;cases this
     rw [bth_iff] at nb;exact ⟨c1,c2,c3,c4,c5.imp (fun h=>keep _ _ h (by lia)) id,c6.imp (fun h=>keep _ _ h (by lia)) id⟩
 . rcases List.mem_append.mp h with h | h
   . exact I.lin x y (sub x y h).1
   . simp only [List.mem_singleton,Prod.mk.injEq] at h;lia
 . rcases List.mem_append.mp h with h | h<;>rcases List.mem_append.mp h' with h' | h'
   . exact I.nc x y z w (sub x y h).1 (sub z w h').1
   . simp only [List.mem_singleton,Prod.mk.injEq] at h';have:=new x y h;lia
   . simp only [List.mem_singleton,Prod.mk.injEq] at h;have:=new z w h';lia
   . simp only [List.mem_singleton,Prod.mk.injEq] at h h';lia
 . rw [List.nodup_append];refine ⟨nd0.2,by simp,fun a ha b hb=>?_⟩;simp only [List.mem_singleton] at hb;subst hb;intro e;subst e;exact wn (sub _ _ ha).1
 . have p1:((p,q)::(r,q)::T0.map outer).Perm ((0,n - 1)::(p,q)::ls0):=((pT.map outer).symm.trans I.prm).trans (pl.cons _);have p2:((r,q)::T0.map outer).Perm ((0,n - 1)::ls0):=(List.perm_cons (p,q)).mp (p1.trans (.swap _ _ _));show ((r,m)::(r,q)::T0.map outer).Perm _;refine ((p2.cons _).trans ?_);refine (List.Perm.swap _ _ _).trans (List.Perm.cons _ ?_);exact (List.perm_append_singleton _ _).symm
 . refine Ur K.cnt pT pl wn nd0.1 (fun x y hxy=>?_) ⟨by simp only;lia,by simp only;lia⟩ ⟨by have:=I.lin p q hlq;simp only;lia,by have:=I.lin p q hlq;simp only;lia⟩ ⟨by simp only;lia,by simp only;lia⟩;rw [L8 hxy (by lia) (by lia),L8 hxy (by lia) (by lia),L8 hxy (by lia) (by lia),L8 hxy (by lia) (by lia),Bi,Bi]
   lia
theorem CInv.T_nodup (I:CInv n ls T):T.Nodup:=by
 have h:((0,n - 1)::ls).Nodup:=by rw [List.nodup_cons];exact ⟨fun z=>by have:=I.lin _ _ z;omega,I.nd⟩
 have:=I.prm.nodup_iff.mpr h;exact List.Pairwise.of_map outer (fun a b h e=>h (by rw [e])) this
open L2 (so3 Q1 soI Dv ltT L Eb J5 Fg Di O2)
theorem Ah (p:a.Perm b):soI a=soI b:=by have:=Eb (J5 b L2.D.int Fg) (p.map L2.D.int);rw [Di,Di] at this;exact O2 (fun _ _ h=>by cases h;rfl) this
theorem S7 (h:a<b):soI [a,b]=[a,b]:=by
 have e:ltT (L2.D.int b) (L2.D.int a)=false:=by simp only [L2.ltT];exact decide_eq_false (by lia)
 simp only [soI,L2.sortB,L2.insB,e,Bool.false_eq_true,if_false]
def z5 (T:List P3) (p:P2):List Int:=soI (((so3 T).filter (bth p.1 p.2)).map fun t=>t.1+(t.2.1+(t.2.2+0)) - (p.1+(p.2+0)))
theorem Da (h:(T.filter (bth p.1 p.2)).Perm F):z5 T p=soI (F.map fun t=>t.1+(t.2.1+(t.2.2+0)) - (p.1+(p.2+0))):=
 Ah (((((Q1 T).filter _).trans h)).map _)
theorem Cut.two (K:Cut n ls T) (hl:l∈ls):(T.filter (bth l.1 l.2)).length=2:=by have:=K.inv.lin l.1 l.2 hl;rw [K.cnt l.1 l.2 (by omega)];unfold ee;rw [ξ (show (l.1,l.2)∈ls from hl),ψ (by omega),ψ (by omega)]
theorem Cut.turn (K:Cut n ls T) (hl:l∈ls) :
  ∃(w:P2) (ls0:List P2) (T':List P3),ls.Perm (l::ls0)/\Cut n (ls0++[w]) T'/\z5 T l=[w.1,w.2]/\z5 T' w=[l.1,l.2]/\w∉ls:=by
 obtain ⟨p,q⟩:=l
 have I:=K.inv
 have two:=K.two hl
 simp only at two
 have hlin:=I.lin p q hl
 obtain ⟨ls0,pl⟩:∃ls0,ls.Perm ((p,q)::ls0):=⟨ls.erase (p,q),List.perm_cons_erase hl⟩
 obtain ⟨t1m,t1o⟩:=I.top_in (ls':=ls) (.refl _) (q:=(p,q)) (List.mem_cons_of_mem _ hl)
 generalize thr T (p,q)=t1 at t1m t1o
 obtain ⟨a,m,b⟩:=t1
 simp only [outer,Prod.mk.injEq] at t1o
 obtain ⟨rfl,rfl⟩:=t1o
 have g1:=I.tri a m b t1m
 obtain ⟨T1,pT1⟩:∃T1,T.Perm ((a,m,b)::T1):=⟨T.erase (a,m,b),List.perm_cons_erase t1m⟩
 have len1:(T1.filter (bth a b)).length=1:=by have:=(pT1.filter (bth a b)).length_eq;rw [two,List.filter_cons_of_pos (bth_iff.mpr (by lia))] at this;simp only [List.length_cons] at this;lia
 obtain ⟨t2,ht2⟩:∃t2,t2∈T1.filter (bth a b):=by
  cases hf:T1.filter (bth a b) with
  | nil=>rw [hf] at len1;cases len1
  | cons x r=>exact ⟨x,by simp⟩
 obtain ⟨t2m,t2b⟩:=List.mem_filter.mp ht2
 obtain ⟨T0,pT2⟩:∃T0,T1.Perm (t2::T0):=⟨T1.erase t2,List.perm_cons_erase t2m⟩
 have pT:T.Perm ((a,m,b)::t2::T0):=pT1.trans (pT2.cons _)
 have nd:=pT.nodup_iff.mp I.T_nodup
 have fl:(T.filter (bth a b)).Perm [(a,m,b),t2]:=by
  refine (pT.filter _).trans ?_;have l0:(T0.filter (bth a b)).length=0:=by have:=(pT2.filter (bth a b)).length_eq;rw [len1,List.filter_cons_of_pos t2b] at this;simp only [List.length_cons] at this;lia
  rw [List.filter_cons_of_pos (bth_iff.mpr (by lia)),List.filter_cons_of_pos t2b,List.length_eq_zero_iff.mp l0]
 obtain ⟨x,y,z⟩:=t2
 have t2T:(x,y,z)∈T:=pT.mem_iff.mpr (by simp)
 have g2:=I.tri x y z t2T
 rw [bth_iff] at t2b
 have nout:¬(x=a/\z=b):=fun hh=>by have e1:=I.thr_outer t1m;have e2:=I.thr_outer t2T;simp only [outer] at e1 e2;rw [hh.1,hh.2,e1] at e2;simp only [Prod.mk.injEq] at e2;obtain ⟨_,rfl,_⟩:=e2;obtain ⟨rfl,rfl⟩:=hh;rw [List.nodup_cons] at nd;exact nd.1 (by simp)
 by_cases cA:x=a/\y=b
 . obtain ⟨rfl,rfl⟩:=cA;have K':=K.turnA pT pl;have wn:(m,z)∉ls:=fun hz=>by have:=I.nc x y m z hl hz;lia
   refine ⟨(m,z),ls0,_,pl,K',?_,?_,wn⟩
   . rw [Da fl];simp only [List.map_cons,List.map_nil];rw [show x+(m+(y+0)) - (x+(y+0))=m by lia,show x+(y+(z+0)) - (x+(y+0))=z by lia,S7 (by lia)]
   . have two':=K'.two (l:=(m,z)) (List.mem_append.mpr (.inr (by simp)));have fl':(((x,m,z)::(m,y,z)::T0).filter (bth m z)).Perm [(x,m,z),(m,y,z)]:=by simp only at two';rw [List.filter_cons_of_pos (bth_iff.mpr (by lia)),List.filter_cons_of_pos (bth_iff.mpr (by lia))] at two' ⊢;simp only [List.length_cons] at two';rw [List.length_eq_zero_iff.mp (show (T0.filter (bth m z)).length=0 by lia)]
     rw [Da (p:=(m,z)) fl'];simp only [List.map_cons,List.map_nil];rw [show x+(m+(z+0)) - (m+(z+0))=x by lia,show m+(y+(z+0)) - (m+(z+0))=y by lia,S7 (by lia)]
 . have cB:y=a/\z=b:=by lia
   obtain ⟨rfl,rfl⟩:=cB;have K':=K.turnB pT pl;have wn:(x,m)∉ls:=fun hz=>by have:=I.nc x m y z hz hl;lia
   refine ⟨(x,m),ls0,_,pl,K',?_,?_,wn⟩
   . rw [Da fl];simp only [List.map_cons,List.map_nil];rw [show y+(m+(z+0)) - (y+(z+0))=m by lia,show x+(y+(z+0)) - (y+(z+0))=x by lia,Ah (List.Perm.swap x m []),S7 (by lia)]
   . have two':=K'.two (l:=(x,m)) (List.mem_append.mpr (.inr (by simp)));have fl':(((x,y,m)::(x,m,z)::T0).filter (bth x m)).Perm [(x,y,m),(x,m,z)]:=by simp only at two';rw [List.filter_cons_of_pos (bth_iff.mpr (by lia)),List.filter_cons_of_pos (bth_iff.mpr (by lia))] at two' ⊢;simp only [List.length_cons] at two';rw [List.length_eq_zero_iff.mp (show (T0.filter (bth x m)).length=0 by lia)]
     rw [Da (p:=(x,m)) fl'];simp only [List.map_cons,List.map_nil];rw [show x+(y+(m+0)) - (x+(m+0))=y by lia,show x+(m+(z+0)) - (x+(m+0))=z by lia,S7 (by lia)]
end Cu
namespace Cu
open L2 (so2 F1 Ab ltT T2 Srt Dx Q5 J5 O9 O2 Y8 D)
end Cu
namespace Cu
open L2 (so2 F1 Q0)
def nr (p:P2):P2:=if p.1<p.2 then p else (p.2,p.1)
theorem CInv.perm (I:CInv n ls T) (p:ls'.Perm ls):CInv n ls' T where
 n3:=I.n3
 tri:=fun a c b h=>by rw [p.mem_iff,p.mem_iff];exact I.tri a c b h
 lin:=fun a b h=>I.lin a b (p.mem_iff.mp h)
 nc:=fun a b c d h h'=>I.nc a b c d (p.mem_iff.mp h) (p.mem_iff.mp h')
 nd:=p.nodup_iff.mpr I.nd
 prm:=I.prm.trans (p.symm.cons _)
def C1 (o:List Int) (k:Nat) (x:Int):List Int:=o.take k++x::o.drop k
theorem Tu (o:List Int) (k:Nat) (x:Int):(C1 o k x).length=o.length+1:=by simp only [C1,θ,List.length_cons,List.length_take,List.length_drop];omega
theorem vJ (o:List Int) (k:Nat) (x:Int) (hk:k<=o.length) (i:Nat) (hi:i<o.length):(C1 o k x).getD (if k<=i then i+1 else i) 0=o.getD i 0:=by
 unfold C1;simp only [List.getD_eq_getElem?_getD];by_cases h:k<=i
 . rw [ξ h,List.getElem?_append_right (by rw [List.length_take];lia),List.length_take,show i+1 - min k o.length=(i - k)+1 by lia,List.getElem?_cons_succ,List.getElem?_drop,show k+(i - k)=i by lia]
 . rw [ψ h,List.getElem?_append_left (by rw [List.length_take];lia),List.getElem?_take,ξ (by lia)]
def nmP (o:List Int) (p:P2):P2:=(o.getD p.1.toNat 0,o.getD p.2.toNat 0)
structure Bld (o:List Int) (ps:List P2) (T:List P3):Prop where
 rng:∀x∈o,0<=x/\x<o.length
 nd:o.Nodup
 inn:∀p∈ps,(0<=p.1/\p.1<o.length)/\(0<=p.2/\p.2<o.length)
 inv:CInv (o.length:Int) (ps.map nr) T
 cnt:Cnt (o.length:Int) (ps.map nr) T
 len:ps.length+3=o.length
theorem y2t:Bld [0,1,2] [] [(0,1,2)]:=⟨by decide,by decide,by simp,y2p,y2q,rfl⟩
theorem y0g (c:Int) (p:P2):nr (sh2 c p)=sh2 c (nr p):=by
 obtain ⟨a,b⟩:=p;unfold nr sh2 sh;simp only;by_cases h:a<b
 . rw [ξ h,ξ (by split<;>split<;>lia)]
 . rw [ψ h,ψ (by split<;>split<;>lia)]
def nwP (m:Nat) (c:Nat):P2:=((c:Int),sh (c:Int) (((c+1) % m:Nat):Int))
theorem y0h (h3:3<=m) (hc:c<m):nr (nwP m c)=j8 (m:Int) (c:Int):=by
 unfold nwP j8;by_cases h:c+1=m
 . rw [h,Nat.mod_self,ξ (by lia)];rw [show sh (c:Int) ((0:Nat):Int)=0 by unfold sh;rw [ψ (by lia)];rfl];exact ψ (by show ¬(c:Int)<0;lia)
 . rw [Nat.mod_eq_of_lt (by lia),ψ (by lia)];rw [show sh (c:Int) ((c+1:Nat):Int)=(c:Int)+2 by unfold sh;rw [ξ (by lia)];lia];exact ξ (by show (c:Int)<c+2;lia)
theorem Bld.grow (B:Bld o ps T) (c:Nat) (hc:c<o.length) :
  Bld (C1 o (c+1) (o.length:Int)) (ps.map (sh2 (c:Int))++[nwP o.length c]) (T.map (sh3 (c:Int))++[n5 (o.length:Int) (c:Int)]) /\
  (ps.map (nmP o)++[(o.getD c 0,o.getD ((c+1) % o.length) 0)])=(ps.map (sh2 (c:Int))++[nwP o.length c]).map (nmP (C1 o (c+1) (o.length:Int))):=by
 have h3:3<=o.length:=by have:=B.inv.n3;lia
 have hl:=Tu o (c+1) (o.length:Int)
 have shN:∀x:Int,0<=x->x<o.length->(C1 o (c+1) (o.length:Int)).getD (sh (c:Int) x).toNat 0=o.getD x.toNat 0:=fun x x0 x1=>by
  have:=vJ o (c+1) (o.length:Int) (by lia) x.toNat (by lia);rw [<-this];congr 1;unfold sh;split
  . rw [ξ (by lia)];lia
  . rw [ψ (by lia)]
 have m1:(c+1) % o.length<o.length:=Nat.mod_lt _ (by lia)
 have elines:(ps.map (sh2 (c:Int))++[nwP o.length c]).map nr=(ps.map nr).map (sh2 (c:Int))++[j8 (o.length:Int) (c:Int)]:=by
  rw [List.map_append,List.map_map,List.map_map];congr 1
  . exact List.map_congr_left fun p _=>y0g _ p
  . rw [List.map_cons,List.map_nil,y0h h3 hc]
 refine ⟨⟨?_,?_,?_,?_,?_,?_⟩,?_⟩
 . intro x hx;rw [hl];rcases List.mem_append.mp hx with h | h
   . have:=B.rng x (List.mem_of_mem_take h);lia
   . rcases List.mem_cons.mp h with h | h
     . lia
     . have:=B.rng x (List.mem_of_mem_drop h);lia
 . have p:(C1 o (c+1) (o.length:Int)).Perm ((o.length:Int)::o):=by
    unfold C1
    refine List.perm_middle.trans (.cons _ (.of_eq (List.take_append_drop _ _)))
   rw [p.nodup_iff,List.nodup_cons]
   exact ⟨fun h=>by have:=B.rng _ h;lia,B.nd⟩
 . intro p hp;rw [hl];rcases List.mem_append.mp hp with h | h
   . obtain ⟨q,hq,rfl⟩:=List.mem_map.mp h;have:=B.inn q hq;unfold sh2 sh;simp only;refine ⟨⟨?_,?_⟩,?_,?_⟩<;>split<;>lia
   . rw [List.mem_singleton] at h;subst h;unfold nwP sh;simp only;refine ⟨⟨?_,?_⟩,?_,?_⟩<;>(try split)<;>lia
 . rw [elines,hl];exact B.inv.grow (c:Int) (by lia) (by lia)
 . rw [elines,hl];exact B.cnt.grow B.inv (c:Int) (by lia) (by lia)
 . rw [hl,θ,List.length_map,List.length_singleton];have:=B.len;lia
 . rw [List.map_append,List.map_map];congr 1
   . refine List.map_congr_left fun p hp=>?_
     have:=B.inn p hp;show (o.getD p.1.toNat 0,o.getD p.2.toNat 0)=(_,_);unfold sh2;simp only;rw [shN _ this.1.1 this.1.2,shN _ this.2.1 this.2.2]
   . rw [List.map_cons,List.map_nil];congr 1;unfold nmP nwP;simp only;have e1:=shN (c:Int) (by lia) (by lia);rw [show sh (c:Int) (c:Int)=c by unfold sh;rw [ψ (by lia)]] at e1;rw [e1,shN _ (by lia) (by lia),Int.toNat_natCast,Int.toNat_natCast]
theorem vI {o:List Int} (nd:o.Nodup) (i:Nat) (hi:i<o.length):L2.lookD (o.map fun x=>(Sum.inl x:L2.Key)) ((List.range o.length).map fun (k:Nat)=>L2.D.int (k:Int)) (Sum.inl (o.getD i 0))=some (.int (i:Int)):=by
 have key:∀(o:List Int) (s i:Nat),o.Nodup->i<o.length->L2.lookD (o.map fun x=>(Sum.inl x:L2.Key)) ((List.range' s o.length).map fun (k:Nat)=>L2.D.int (k:Int)) (Sum.inl (o.getD i 0))=some (.int ((s+i:Nat):Int)):=by
  intro o;induction o with
  | nil=>intro s i _ h;simp at h
  | cons x o ih=>
   intro s i nd h
   rw [List.nodup_cons] at nd
   cases i with
   | zero=>simp [L2.lookD,List.range'_succ]
   | succ i=>
    have hx:¬x=o.getD i 0:=fun e=>nd.1 (by rw [e,List.getD_eq_getElem?_getD,List.getElem?_eq_getElem (by simpa using h)];exact List.getElem_mem _)
    have:=ih (s+1) i nd.2 (by simpa using h)
    rw [show s+1+i=s+(i+1) by lia] at this
    rw [<-this]
    simp only [L2.lookD,List.map_cons,List.length_cons,List.range'_succ,List.zip_cons_cons,List.getD_cons_succ]
    rw [List.find?_cons_of_neg (by simpa using hx)]
 have:=key o 0 i nd hi;rw [Nat.zero_add,<-List.range_eq_range'] at this;exact this
end Cu
namespace Cu
open L2 (so2 F1 Q0 so3 Q1 soI Dv)
def adj (n:Int) (ls:List P2) (x k:Int):Prop:=k=(x+1) % n\/k=(x - 1) % n\/(x,k)∈ls\/(k,x)∈ls
section
variable {n:Int} {ls:List P2} {T:List P3}
theorem CInv.three (I:CInv n ls T) (h1:x<y) (h2:y<z) (e1:(x,y)∈ls\/y=x+1) (e2:(y,z)∈ls\/z=y+1) (e3:(x,z)∈ls\/(x=0/\z=n - 1)):(x,y,z)∈T:=by
 obtain ⟨m1,m2⟩:=I.top_in (ls':=ls) (.refl _) (q:=(x,z)) (by
  rcases e3 with e | ⟨rfl,rfl⟩
  . exact List.mem_cons_of_mem _ e
  . exact List.mem_cons_self)
 generalize thr T (x,z)=t at m1 m2;obtain ⟨a,c,b⟩:=t;simp only [outer,Prod.mk.injEq] at m2;obtain ⟨rfl,rfl⟩:=m2;have g:=I.tri _ _ _ m1;have:c=y:=by
  apply Classical.byContradiction;intro hne;rcases Int.lt_or_gt_of_ne hne with hlt | hgt
  . have a1:(c,b)∈ls:=by rcases g.2.2.2.2.2 with z | z;exact z;omega
    have a2:(a,y)∈ls:=by rcases e1 with z | z;exact z;omega
    exact I.nc a y c b a2 a1 (by omega)
  . have a1:(a,c)∈ls:=by rcases g.2.2.2.2.1 with z | z;exact z;omega
    have a2:(y,b)∈ls:=by rcases e2 with z | z;exact z;omega
    exact I.nc a c y b a1 a2 (by omega)
 rw [<-this];exact m1
theorem T9 (I:CInv n ls T) (h0:0<=x) (h:x<k) (hk:k<n) (ha:adj n ls x k\/adj n ls k x):(x,k)∈ls\/k=x+1\/(x=0/\k=n - 1):=by
 have n3:=I.n3;have up:∀u:Int,0<=u->u<n->(u+1) % n=if u=n - 1 then 0 else u+1:=fun u u0 u1=>by
  split
  . rename_i e;rw [e,show n - 1+1=n by lia,Int.emod_self]
  . rw [Int.emod_eq_of_lt (by lia) (by lia)]
 have dn:∀u:Int,0<=u->u<n->(u - 1) % n=if u=0 then n - 1 else u - 1:=fun u u0 u1=>by
  split
  . rename_i e;rw [e,<-Int.add_emod_right,Int.emod_eq_of_lt (by lia) (by lia)];lia
  . rw [Int.emod_eq_of_lt (by lia) (by lia)]
 rcases ha with ha | ha
 . rcases ha with e | e | e | e
   . rw [up x h0 (by lia)] at e;split at e<;>lia
   . rw [dn x h0 (by lia)] at e;split at e<;>lia
   . exact Or.inl e
   . have:=I.lin _ _ e;lia
 . rcases ha with e | e | e | e
   . rw [up k (by lia) hk] at e;split at e<;>lia
   . rw [dn k (by lia) hk] at e;split at e<;>lia
   . have:=I.lin _ _ e;lia
   . exact Or.inl e
theorem Hi (I:CInv n ls T) (h0:0<=x) (h:x<k) (hk:k<n) (he:(x,k)∈ls\/k=x+1\/(x=0/\k=n - 1)):adj n ls x k/\adj n ls k x:=by
 have n3:=I.n3;rcases he with e | e | ⟨e,e'⟩
 . exact ⟨Or.inr (Or.inr (Or.inl e)),Or.inr (Or.inr (Or.inr e))⟩
 . subst e;exact ⟨Or.inl (by rw [Int.emod_eq_of_lt (by lia) (by lia)]),Or.inr (Or.inl (by rw [show x+1 - 1=x by lia,Int.emod_eq_of_lt (by lia) (by lia)]))⟩
 . subst e;subst e';exact ⟨Or.inr (Or.inl (by rw [<-Int.add_emod_right,Int.emod_eq_of_lt (by lia) (by lia)];lia)),Or.inl (by rw [show n - 1+1=n by lia,Int.emod_self])⟩
theorem mem_dues:k∈z5 T p↔∃t∈T,bth p.1 p.2 t=true/\k=t.1+(t.2.1+(t.2.2+0)) - (p.1+(p.2+0)):=by
 unfold z5;rw [(Dv _).mem_iff,List.mem_map];constructor
 . rintro ⟨t,ht,rfl⟩;obtain ⟨h1,h2⟩:=List.mem_filter.mp ht;exact ⟨t,(Q1 T).mem_iff.mp h1,h2,rfl⟩
 . rintro ⟨t,h1,h2,rfl⟩;exact ⟨t,List.mem_filter.mpr ⟨(Q1 T).mem_iff.mpr h1,h2⟩,rfl⟩
theorem CInv.com (I:CInv n ls T) (hl:(a,b)∈ls) (k0:0<=k) (k1:k<n) (ka:k≠a) (kb:k≠b):(adj n ls a k/\adj n ls b k)↔k∈z5 T (a,b):=by
 have n3:=I.n3;have l:=I.lin a b hl;rw [mem_dues];constructor
 . rintro ⟨h1,h2⟩;by_cases c1:k<a
   . have e1:=T9 I k0 c1 (by omega) (Or.inr h1);have e2:=T9 I k0 (show k<b by omega) (by omega) (Or.inr h2);have t:=I.three (x:=k) (y:=a) (z:=b) (by omega) (by omega) (by rcases e1 with z | z | z;exact .inl z;exact .inr z;omega) (.inl hl) (by rcases e2 with z | z | z;exact .inl z;omega;exact .inr z);exact ⟨_,t,bth_iff.mpr (by simp),by simp only;omega⟩
   . by_cases c2:k<b
     . have e1:=T9 I l.1 (show a<k by omega) (by omega) (Or.inl h1);have e2:=T9 I k0 c2 (by omega) (Or.inr h2);have t:=I.three (x:=a) (y:=k) (z:=b) (by omega) (by omega) (by rcases e1 with z | z | z;exact .inl z;exact .inr z;omega) (by rcases e2 with z | z | z;exact .inl z;exact .inr z;omega) (.inl hl);exact ⟨_,t,bth_iff.mpr (by simp),by simp only;omega⟩
     . have e1:=T9 I l.1 (show a<k by omega) (by omega) (Or.inl h1);have e2:=T9 I (show 0<=b by omega) (show b<k by omega) (by omega) (Or.inl h2);have t:=I.three (x:=a) (y:=b) (z:=k) (by omega) (by omega) (.inl hl) (by rcases e2 with z | z | z;exact .inl z;exact .inr z;omega) (by rcases e1 with z | z | z;exact .inl z;omega;exact .inr z);exact ⟨_,t,bth_iff.mpr (by simp),by simp only;omega⟩
 . rintro ⟨⟨x,y,z⟩,ht,hb,e⟩;have g:=I.tri _ _ _ ht;have o:=I.top_or ht;rw [bth_iff] at hb;simp only at e;have xy:adj n ls x y/\adj n ls y x:=Hi I g.1 g.2.1 (by omega) (by rcases g.2.2.2.2.1 with z | z;exact .inl z;exact .inr (.inl z));have yz:adj n ls y z/\adj n ls z y:=Hi I (by omega) g.2.2.1 (by omega) (by rcases g.2.2.2.2.2 with z | z;exact .inl z;exact .inr (.inl z));have xz:adj n ls x z/\adj n ls z x:=Hi I g.1 (show x<z by omega) (by omega) (by rcases o with z | z;exact .inl z;exact .inr (.inr z));have:(a=x/\b=y/\k=z)\/(a=x/\b=z/\k=y)\/(a=y/\b=z/\k=x):=by omega
   rcases this with ⟨rfl,rfl,rfl⟩ | ⟨rfl,rfl,rfl⟩ | ⟨rfl,rfl,rfl⟩
   . exact ⟨xz.1,yz.1⟩
   . exact ⟨xy.1,yz.2⟩
   . exact ⟨xy.2,xz.2⟩
end
end Cu
namespace Cu
abbrev En:=List P2×Int×Option P2
def ky (F:List En):List (List P2):=F.map (·.1)
theorem mem_ky:v∈ky F↔∃e∈F,e.1=v:=by unfold ky;rw [List.mem_map]
theorem Pf {α:Type} {p q:α->Bool} (h:∀x,p x=true->q x=true):∀{l:List α},(∃x∈l,q x=true/\p x=false)->(l.filter p).length<(l.filter q).length
 | [],⟨_,hx,_⟩=>by cases hx
 | a::l,⟨x,hx,h1,h2⟩=>by
  have le:∀l:List α,(l.filter p).length<=(l.filter q).length:=fun l=>by
   induction l with
   | nil=>simp
   | cons b l ih=>
    rw [List.filter_cons,List.filter_cons]
    cases e:p b with
    | true=>rw [h b e];simpa using ih
    | false=>
     cases q b with
     | true=>simp;lia
     | false=>simpa using ih
  rw [List.filter_cons,List.filter_cons];rcases List.mem_cons.mp hx with rfl | hx
  . rw [h1,h2];have:=le l;simp;lia
  . have ih:=Pf h ⟨x,hx,h1,h2⟩;cases e:p a with
    | true=>rw [h a e];simpa using ih
    | false=>
     cases q a with
     | true=>simp;lia
     | false=>simpa using ih
theorem Pe [DecidableEq α]:∀{l U:List α},l.Nodup->(∀x∈l,x∈U)->l.length<=U.length
 | [],U,_,_=>Nat.zero_le _
 | a::l,U,nd,h=>by
  have nd':=List.nodup_cons.mp nd;have ha:=h a (by simp);have:=Pe (U:=U.erase a) nd'.2 fun x hx=>(List.mem_erase_of_ne fun z=>nd'.1 (by rw [<-z];exact hx)).mpr (h x (by simp [hx]))
  rw [List.length_erase_of_mem ha] at this;have:0<U.length:=List.length_pos_of_mem ha;rw [List.length_cons];omega
section
variable {G:List P2->Prop} {t:List P2->P2->List P2×P2} {c0:List P2}
structure Bf (G:List P2->Prop) (t:List P2->P2->List P2×P2) (c0:List P2) (k:Int) (F:List En):Prop where
 nd:(ky F).Nodup
 gd:∀e∈F,G e.1
 z:∀e∈F,(e.2.1=0↔e.1=c0)
 le:∀e∈F,0<=e.2.1/\e.2.1<=k
 c0:c0∈ky F
 bk:∀e∈F,e.2.1≠0->∃w,e.2.2=some w/\w∈e.1/\∃e'∈F,e'.1=(t e.1 w).1/\e'.2.1=e.2.1 - 1
def Cl (t:List P2->P2->List P2×P2) (k:Int) (F:List En):Prop:=∀e∈F,e.2.1<k->∀x∈e.1,∃e'∈F,e'.1=(t e.1 x).1/\e'.2.1<=e.2.1+1
def Sz (k:Int) (F:List En):Prop:=k<=((F.filter fun e=>decide (e.2.1<k)).length:Int)
structure Lv (G:List P2->Prop) (t:List P2->P2->List P2×P2) (c0:List P2) (k:Int) (fr:List (List P2)) (F:List En):Prop where
 bf:Bf G t c0 k F
 k0:0<=k
 fr:∀v,v∈fr↔∃o,(v,k,o)∈F
 cl:Cl t k F
 sz:Sz k F
structure Md (G:List P2->Prop) (t:List P2->P2->List P2×P2) (c0:List P2) (k:Int) (fr B:List (List P2)) (F:List En) (dn:List P2->P2->Prop):Prop where
 bf:Bf G t c0 (k+1) F
 k0:0<=k
 fr:∀v,v∈fr↔∃o,(v,k,o)∈F
 be:∀v,v∈B↔∃o,(v,k+1,o)∈F
 cl:Cl t k F
 sz:Sz k F
 bl:B.length<=F.length
 pr:∀v x,dn v x->∃e'∈F,e'.1=(t v x).1/\e'.2.1<=k+1
theorem Lv.start (g0:G c0):Lv G t c0 0 [c0] [(c0,0,none)] where
 bf:=⟨by simp [ky],fun e he=>by rw [List.mem_singleton.mp he];exact g0,fun e he=>by rw [List.mem_singleton.mp he];simp,fun e he=>by rw [List.mem_singleton.mp he];simp,by simp [ky],fun e he h=>by rw [List.mem_singleton.mp he] at h;exact absurd rfl h⟩
 k0:=by lia
 fr:=fun v=>by simp
 cl:=fun e he h=>by rw [List.mem_singleton.mp he] at h;simp at h
 sz:=by unfold Sz;lia
theorem Lv.md {k:Int} {fr:List (List P2)} {F:List En} (L:Lv G t c0 k fr F):Md G t c0 k fr [] F (fun _ _=>False) where
 bf:={ L.bf with le:=fun e he=>by have:=L.bf.le e he;lia }
 k0:=L.k0
 fr:=L.fr
 be:=fun v=>by
  constructor
  . intro h;cases h
  . rintro ⟨o,h⟩;have:=L.bf.le _ h;simp only at this;lia
 cl:=L.cl
 sz:=L.sz
 bl:=Nat.zero_le _
 pr:=fun v x h=>h.elim
theorem Yl (nd:(ky F).Nodup) (h:e∈F) (h':e'∈F) (q:e.1=e'.1):e=e':=by
 obtain ⟨i,hi,ei⟩:=List.mem_iff_getElem.mp h;obtain ⟨j,hj,ej⟩:=List.mem_iff_getElem.mp h';have z:(ky F)[i]'(by simpa [ky] using hi)=(ky F)[j]'(by simpa [ky] using hj):=by simp only [ky,List.getElem_map,ei,ej,q]
 have:=(List.getElem_inj nd).mp z;subst this;rw [<-ei,<-ej]
theorem Md.step {k:Int} {fr B:List (List P2)} {F:List En} {dn:List P2->P2->Prop} (M:Md G t c0 k fr B F dn) (hG:∀v x,G v->x∈v->G (t v x).1/\(t v x).2∈(t v x).1/\t (t v x).1 (t v x).2=(v,x)) {v:List P2} {x:P2} (hv:v∈fr) (hx:x∈v) :
  ((t v x).1∈ky F->Md G t c0 k fr B F (fun v' x'=>dn v' x'\/(v'=v/\x'=x))) /\
  ((t v x).1∉ky F->Md G t c0 k fr (B++[(t v x).1]) (F++[((t v x).1,k+1,some (t v x).2)]) (fun v' x'=>dn v' x'\/(v'=v/\x'=x))):=by
 obtain ⟨o,ho⟩:=(M.fr v).mp hv
 obtain ⟨g1,g2,g3⟩:=hG v x (M.bf.gd _ ho) hx
 have k0:=M.k0
 generalize hr:t v x=r at *
 constructor
 . intro hm;refine { M with pr:=fun v' x' h=>?_ };rcases h with h | ⟨rfl,rfl⟩
   . exact M.pr v' x' h
   . obtain ⟨e,he,q⟩:=mem_ky.mp hm;exact ⟨e,he,by rw [q,hr],(M.bf.le e he).2⟩
 . intro hm;have old:∀e,e∈F->e∈F++[(r.1,k+1,some r.2)]:=fun e he=>List.mem_append_left _ he
   have cs:∀e,e∈F++[(r.1,k+1,some r.2)]->e∈F\/e=(r.1,k+1,some r.2):=fun e he=>by
    rcases List.mem_append.mp he with h | h
    . exact .inl h
    . exact .inr (List.mem_singleton.mp h)
   have e1:ky (F++[(r.1,k+1,some r.2)])=ky F++[r.1]:=by unfold ky;rw [List.map_append];rfl
   refine ⟨⟨?_,fun e he=>?_,fun e he=>?_,fun e he=>?_,?_,fun e he hd=>?_⟩,k0,fun u=>?_,fun u=>?_,fun e he hd y hy=>?_,?_,?_,fun v' x' h=>?_⟩
   . rw [e1,List.nodup_append];exact ⟨M.bf.nd,by simp,fun a ha b hb z=>hm (by rw [<-List.mem_singleton.mp hb,<-z];exact ha)⟩
   . rcases cs e he with h | rfl
     . exact M.bf.gd e h
     . exact g1
   . rcases cs e he with h | rfl
     . exact M.bf.z e h
     . exact ⟨fun z=>by simp only at z;lia,fun z=>absurd M.bf.c0 (by rw [<-z];exact hm)⟩
   . rcases cs e he with h | rfl
     . exact M.bf.le e h
     . simp only;lia
   . rw [e1];exact List.mem_append_left _ M.bf.c0
   . rcases cs e he with h | rfl
     . obtain ⟨w,w1,w2,e',h1,h2⟩:=M.bf.bk e h hd;exact ⟨w,w1,w2,e',old _ h1,h2⟩
     . refine ⟨r.2,rfl,g2,(v,k,o),old _ ho,by simp only;rw [g3],by simp only;lia⟩
   . rw [M.fr u];constructor
     . rintro ⟨o',h⟩;exact ⟨o',old _ h⟩
     . rintro ⟨o',h⟩;rcases cs _ h with h | h
       . exact ⟨o',h⟩
       . have:=congrArg (fun e:En=>e.2.1) h;simp only at this;lia
   . rw [List.mem_append,List.mem_singleton,M.be u];constructor
     . rintro (⟨o',h⟩ | rfl)
       . exact ⟨o',old _ h⟩
       . exact ⟨some r.2,by simp⟩
     . rintro ⟨o',h⟩;rcases cs _ h with h | h
       . exact .inl ⟨o',h⟩
       . exact .inr (congrArg (fun e:En=>e.1) h)
   . rcases cs e he with h | rfl
     . obtain ⟨e',h1,h2⟩:=M.cl e h hd y hy;exact ⟨e',old _ h1,h2⟩
     . simp only at hd;lia
   . have:=M.sz;unfold Sz at this ⊢;rw [List.filter_append,θ];lia
   . have:=M.bl;rw [θ,θ];simp;exact this
   . rcases h with h | ⟨rfl,rfl⟩
     . obtain ⟨e',h1,h2⟩:=M.pr v' x' h;exact ⟨e',old _ h1,h2⟩
     . exact ⟨(r.1,k+1,some r.2),by simp,by simp only;rw [hr],Int.le_refl _⟩
theorem Md.imp {k:Int} {fr B:List (List P2)} {F:List En} {dn dn':List P2->P2->Prop} (M:Md G t c0 k fr B F dn) (h:∀v x,dn' v x->dn v x):Md G t c0 k fr B F dn':={ M with pr:=fun v x q=>M.pr v x (h v x q) }
theorem Md.fin {k:Int} {fr B:List (List P2)} {F:List En} {dn:List P2->P2->Prop} (M:Md G t c0 k fr B F dn) (hne:fr≠[]) (hd:∀v∈fr,∀x∈v,dn v x):Lv G t c0 (k+1) B F where
 bf:=M.bf
 k0:=by have:=M.k0;lia
 fr:=M.be
 cl:=fun e he h x hx=>by
  by_cases q:e.2.1<k
  . exact M.cl e he q x hx
  . have ek:e.2.1=k:=by lia
    have hf:e.1∈fr:=(M.fr e.1).mpr ⟨e.2.2,by rw [<-ek];exact he⟩;obtain ⟨e',h1,h2,h3⟩:=M.pr e.1 x (hd e.1 hf x hx);exact ⟨e',h1,h2,by lia⟩
 sz:=by
  obtain ⟨v,hv⟩:=List.exists_mem_of_ne_nil _ hne;obtain ⟨o,ho⟩:=(M.fr v).mp hv;have s:=M.sz;unfold Sz at s ⊢;have:=Pf (p:=fun e:En=>decide (e.2.1<k)) (q:=fun e:En=>decide (e.2.1<k+1)) (fun e h=>by simp only [decide_eq_true_eq] at h ⊢;lia) (l:=F) ⟨(v,k,o),ho,by simp only [decide_eq_true_eq];lia,by simp⟩
  lia
theorem Lv.done (L:Lv G t c0 k [] F) (hG:∀v x,G v->x∈v->G (t v x).1/\(t v x).2∈(t v x).1/\t (t v x).1 (t v x).2=(v,x)) (he:e∈F) (hx:x∈e.1) :
  ∃e'∈F,e'.1=(t e.1 x).1/\e'.2.1<=e.2.1+1/\e.2.1<=e'.2.1+1:=by
 have lt:∀e∈F,e.2.1<k:=fun e he=>by
  have:=(L.bf.le e he).2;by_cases q:e.2.1=k
  . have:e.1∈([]:List (List P2)):=(L.fr e.1).mpr ⟨e.2.2,by rw [<-q];exact he⟩;cases this
  . omega
 obtain ⟨e',h1,h2,h3⟩:=L.cl e he (lt e he) x hx
 obtain ⟨g1,g2,g3⟩:=hG e.1 x (L.bf.gd e he) hx
 rw [<-h2] at g2 g3
 obtain ⟨e2,k1,k2,k3⟩:=L.cl e' h1 (lt e' h1) _ g2
 rw [g3] at k2
 have:=Yl L.bf.nd k1 he k2
 subst this
 exact ⟨e',h1,h2,h3,k3⟩
theorem Lv.len {k:Int} {fr:List (List P2)} {F:List En} (L:Lv G t c0 k fr F):k<=F.length:=by
 have:=L.sz;unfold Sz at this;have:=List.length_filter_le (fun e:En=>decide (e.2.1<k)) F
 lia
end
def sl {α:Type}:List α->Nat->List (List α)
 | _,0=>[[]]
 | [],_+1=>[]
 | a::l,m+1=>(sl l m).map (a::·)++sl l (m+1)
def ch:Nat->Nat->Nat
 | _,0=>1
 | 0,_+1=>0
 | n+1,m+1=>ch n m+ch n (m+1)
theorem Hh:∀(l:List α) (m:Nat),(sl l m).length=ch l.length m
 | [],0=>rfl
 | _::_,0=>rfl
 | [],_+1=>rfl
 | a::l,m+1=>by rw [sl,θ,List.length_map,Hh l m,Hh l (m+1)];rfl
theorem Hg:∀{s l:List α},s.Sublist l->s∈sl l s.length
 | _,_,.slnil=>by simp [sl]
 | [],_::_,.cons _ _=>by simp [sl]
 | b::s,a::l,.cons _ h=>by have ih:=Hg h;rw [List.length_cons] at ih ⊢;rw [sl];exact List.mem_append_right _ ih
 | _::s,a::l,.cons₂ _ h=>by rw [List.length_cons,sl];exact List.mem_append_left _ (List.mem_map.mpr ⟨s,Hg h,rfl⟩)
end Cu
noncomputable section
namespace K73
open PySem PySem.Spec PyProof.Rows L2
def knX:String->Bool:=fun c=>c=="NoLine"||c=="TooMany"
def Eu:String->Option Bool:=fun c=>if c="NoLine" then some true else if c="TooMany" then some true else none
def Ea:String->Option Bool:=fun c=>if c="NoLine" then some true else if c="TooMany" then some false else none
def Ej:String->Option Bool:=fun c=>if c="NoLine" then some false else if c="TooMany" then some false else none
def Ef:String->Option Bool:=fun c=>if c="NoLine" then some false else if c="TooMany" then some false else none
def Ee:String->Option Bool:=fun c=>if c="NoLine" then some false else if c="TooMany" then some false else none
def Ei:String->Option Bool:=fun c=>if c="NoLine" then some false else if c="TooMany" then some false else none
def Et:String->Option Bool:=fun c=>if c="NoLine" then some true else if c="TooMany" then some true else none
def Ed:String->Option Bool:=fun c=>if c="NoLine" then some false else if c="TooMany" then some true else none
def Vv:DS->SR:=
 (e7 [true] (m7 (eUn (k7 "int") (a7 0)) (eUn (fun d=>(l4 d).map fun b=>.bl (!b)) (eUn (k7 "bool") (a7 0)))))
def W1:List D->R D:=mOf false 1 0 Vv
def Uq:DS->SR:=
 (c7 (i4 false 2 [false,true] (eOp dIx (a7 1) (eC (.int 0))))
  (c7 (i4 false 3 [false,true] (eOp dIx (a7 1) (eC (.int 1))))
  (c7 (sIf (bOr (c9 asB (eOp G3 (a7 2) (eC (.int 0)))) (c9 asB (eOp dGe (a7 3) (a7 0))))
   (e7 [] (eC (.bl false)))
   sNx)
  (e7 [true,false,true,true] (eOr (eOp dEq (a7 3) (eOp E5 (a7 2) (eC (.int 1)))) (m7 (eOp dEq (a7 2) (eC (.int 0))) (eOp dEq (a7 3) (eOp C4 (a7 0) (eC (.int 1))))))))))
def Al:List D->R D:=mOf false 2 2 Uq
def Yi:DE->R Bool:=
 (L5 (c9 asB (eOp dEq (eOp dIx (a7 0) (eC (.int 0))) (a7 1))) (L5 (c9 asB (eOp dLe (eOp dIx (a7 0) (eC (.int 1))) (eOp dIx (a7 2) (eC (.int 1))))) (c9 asB (eOp dNe (a7 0) (a7 2)))))
def Yh:DE->R D:=
 (eOp dIx (a7 0) (eC (.int 1)))
def Yb:DS->SR:=
 (c7 (i4 true 3 [true,true,true] (p7 (iL (a7 2)) b1 [0,1] Yi Yh))
  (e7 [true,false,false,true] (eCB S9 (a8 (a7 3) (a8 (eOp E5 (a7 0) (eC (.int 1))) b8)))))
def Bc:List D->R D:=mOf false 3 1 Yb
def Ws:DS->SR:=
 (e7 [true,true] (eOp dIx (eOp x4 (eSl dSl (a7 0) (oSo (a7 1)) (oSo (eOp E5 (a7 1) (eC (.int 1))))) (o8 (a8 (eC (.int 0)) b8))) (eC (.int 0))))
def At:List D->R D:=mOf false 2 0 Ws
def Xi:DS->SR:=
 (e7 [true] (m7 (eUn (k7 "int") (a7 0)) (m7 (eOp X6 (a7 0) (eC (.bl true))) (eOp X6 (a7 0) (eC (.bl false))))))
def O5:List D->R D:=mOf false 1 0 Xi
def Fa:DS->SR:=
 (sIf (c9 asB (eOp O7 (a7 0) (eC (.int 0))))
  (G4 D8 2 [true,false,true,true,true] (eOp v6 (a7 3) (a7 0)) (eOp v6 (eOp E5 (eOp Bu (eOp dIx (a7 2) (eOp v6 (a7 3) (a7 0))) (eC (.int 48271))) (a7 4)) (eC (.int 2147483647))))
  sNx)
def Xn:DS->SR:=
 (c7 (i4 true 2 [true] (eLR (a8 (a7 0) b8)))
  (c7 (r8 false [false,true] (iEn (a8 (a7 1) b8)) (.t [3,4]) Fa)
  (N4 2)))
def Ay:List D->R D:=mOf true 2 3 Xn
def Er:DS->SR:=
 (c7 (i4 false 4 [false,true,false,true] (eOp v6 (a7 3) (eCB m5 (a8 (a7 1) b8))))
  (c7 (C5 "list" v4 2 [false,true,false,false,true] (a8 (v8 (a8 (eOp dIx (a7 1) (a7 4)) (a8 (eOp dIx (a7 1) (eOp v6 (eOp E5 (a7 4) (eC (.int 1))) (eCB m5 (a8 (a7 1) b8)))) b8))) b8))
  (C5 "list" W5 1 [false,true,false,false,true] (a8 (eOp E5 (a7 4) (eC (.int 1))) (a8 (eCB m5 (a8 (a7 1) b8)) b8)))))
def Ep:DS->SR:=
 (G4 D8 5 [false,false,false,false,false,false,true,true] (a7 7) (a7 6))
def Xh:DE->R D:=
 (eCB B9 (a8 (eCB p8 (a8 (o8 (a8 (eOp dIx (a7 2) (a7 0)) (a8 (eOp dIx (a7 2) (a7 1)) b8))) b8)) b8))
def Vu:DS->SR:=
 (c7 (i4 true 1 [] (o8 (a8 (eC (.int 0)) (a8 (eC (.int 1)) (a8 (eC (.int 2)) b8)))))
  (c7 (i4 true 2 [] (o8 b8))
  (c7 (r8 false [true] (iL (a7 0)) (.n 3) Er)
  (c7 (i4 true 5 [] Gm)
  (c7 (r8 false [false,true] (iEn (a8 (a7 1) b8)) (.t [6,7]) Ep)
  (e7 [false,true,true,false,false,true] (v8 (a8 (eCB m5 (a8 (a7 1) b8)) (a8 (eCB B9 (a8 (eCB p8 (a8 (p7 (iL (a7 2)) (bT 2) [5] K6 Xh) b8)) b8)) b8)))))))))
def W0:List D->R D:=mOf false 1 7 Vu
def Es:DS->SR:=
 (c7 (sIf (c9 asB (eOp dEq (a7 3) (a7 1)))
   (C5 "list" v4 2 [false,false,false,false,true] (a8 (a7 4) b8))
   sNx)
  (sIf (c9 asB (eOp dEq (a7 4) (a7 1)))
   (C5 "list" v4 2 [false,false,false,true] (a8 (a7 3) b8))
   sNx))
def Wr:DS->SR:=
 (c7 (i4 true 2 [true,true] (o8 (a8 (eOp v6 (eOp E5 (a7 1) (eC (.int 1))) (eOp dIx (a7 0) (eC (.int 0)))) (a8 (eOp v6 (eOp C4 (a7 1) (eC (.int 1))) (eOp dIx (a7 0) (eC (.int 0)))) b8))))
  (c7 (r8 false [true] (iL (eOp dIx (a7 0) (eC (.int 1)))) (.t [3,4]) Es)
  (N4 2)))
def W2:List D->R D:=mOf true 2 3 Wr
def z65:DS->SR:=
 (c7 (sIf (bOr (c9 l4 (eUn (D7 Ef) (a7 0))) (bOr (c9 l4 (eUn (D7 Ej) (a7 0))) (c9 l4 (eUn (D7 Ea) (a7 0)))))
   (e7 [] (eC (.bl true)))
   sNx)
  (e7 [true] (eOr (eUn (D7 Ei) (a7 0)) (eUn (D7 Ee) (a7 0)))))
def Fd:List D->R D:=mOf false 1 0 z65
def Wq:DS->SR:=
 (c7 (sIf (c9 asB (eOp dEq (eOp v6 (a7 0) (eC (.int 8))) (eC (.int 7))))
   (e7 [true] (eOp E5 (eC (.int 6)) (eOp v6 (eOp W9 (a7 0) (eC (.int 8))) (eC (.int 52)))))
   sNx)
  (c7 (sIf (c9 asB (eOp dEq (eOp v6 (a7 0) (eC (.int 8))) (eC (.int 6))))
   (e7 [] (eC (.int 5)))
   sNx)
  (e7 [true] (eOp v6 (eOp W9 (a7 0) (eC (.int 8))) (eC (.int 5))))))
def As:List D->R D:=mOf false 1 0 Wq
def Tt:DS->SR:=
 (e7 [true] (m7 (eUn (k7 "tuple") (a7 0)) (m7 (eOp dEq (eCB m5 (a8 (a7 0) b8)) (eC (.int 2))) (m7 (e8 W1 (a8 (eOp dIx (a7 0) (eC (.int 0))) b8)) (e8 W1 (a8 (eOp dIx (a7 0) (eC (.int 1))) b8))))))
def V2:List D->R D:=mOf false 1 0 Tt
def Ez:DE->R Bool:=
 (c9 asB (eOp G3 (eOp dIx (a7 2) (eUn S4 (eC (.int 1)))) (eOp dIx (a7 0) (eC (.int 1)))))
def Ey:DS->SR:=
 (C5 "list" v4 2 [true,true,true] (a8 (e8 Bc (a8 (eOp dIx (a7 2) (eUn S4 (eC (.int 1)))) (a8 (a7 0) (a8 (a7 1) b8)))) b8))
def Xg:DS->SR:=
 (c7 (i4 true 2 [true] (o8 (a8 (eOp dIx (a7 0) (eC (.int 0))) b8)))
  (c7 (P7 1000 Ez Ey)
  (e7 [false,false,true] (eCB B9 (a8 (a7 2) b8)))))
def Ax:List D->R D:=mOf false 2 1 Xg
def Xs:DS->SR:=
 (e7 [true] (m7 (eUn (k7 "tuple") (a7 0)) (m7 (eOp dEq (eCB m5 (a8 (a7 0) b8)) (eC (.int 2))) (m7 (e8 O5 (a8 (eOp dIx (a7 0) (eC (.int 0))) b8)) (e8 O5 (a8 (eOp dIx (a7 0) (eC (.int 1))) b8))))))
def Bb:List D->R D:=mOf false 1 0 Xs
def Xz:DE->R Bool:=
 (c9 asB (eOp (dIn false) (a7 0) (a7 1)))
def Xy:DE->R D:=
 (a7 0)
def Xx:DE->R Bool:=
 (c9 asB (eOp dNe (a7 0) (a7 1)))
def Xw:DE->R D:=
 (a7 0)
def Xm:DS->SR:=
 (c7 (i4 true 2 [true,true] (e8 W2 (a8 (a7 0) (a8 (eOp dIx (a7 1) (eC (.int 1))) b8))))
  (c7 (i4 true 3 [true,true,true] (eCB p8 (a8 (p7 (iL (e8 W2 (a8 (a7 0) (a8 (eOp dIx (a7 1) (eC (.int 0))) b8)))) b1 [2] Xz Xy) b8)))
  (c7 (i4 true 4 [true,true] (p7 (iL (eOp dIx (a7 0) (eC (.int 1)))) b1 [1] Xx Xw))
  (e7 [true,false,false,true,true] (v8 (a8 (eOp dIx (a7 0) (eC (.int 0))) (a8 (eCB B9 (a8 (eCB p8 (a8 (eOp x4 (a7 4) (o8 (a8 (eCB B9 (a8 (a7 3) b8)) b8))) b8)) b8)) b8)))))))
def Q8:List D->R D:=mOf false 2 3 Xm
def Vt:DS->SR:=
 (e7 [true,true] (m7 (e8 V2 (a8 (a7 1) b8)) (eOr (e8 Al (a8 (eOp dIx (a7 0) (eC (.int 0))) (a8 (a7 1) b8))) (eOp (dIn false) (a7 1) (eOp dIx (a7 0) (eC (.int 1)))))))
def Ap:List D->R D:=mOf false 2 0 Vt
def Xf:DS->SR:=
 (sIf (bOr (o7 (c9 l4 (e8 V2 (a8 (a7 1) b8)))) (c9 asB (eOp (dIn true) (a7 1) (eOp dIx (a7 0) (eC (.int 1))))))
  (P5 "NoLine" (a8 (eC (.str "no line of the cutting")) b8))
  sNx)
def Aw:List D->R D:=mOf false 2 0 Xf
def Up:DE->R D:=
 (e8 Ax (a8 (a7 0) (a8 (a7 1) b8)))
def Ro:DS->SR:=
 (c7 (i4 true 2 [true,true] (eOp x4 (o8 (a8 (v8 (a8 (eC (.int 0)) (a8 (eOp C4 (a7 0) (eC (.int 1))) b8))) b8)) (eCB Ck (a8 (a7 1) b8))))
  (e7 [false,true,true] (eCB p8 (a8 (p7 (iL (a7 2)) b1 [1] K6 Up) b8))))
def Z7:List D->R D:=mOf true 2 1 Ro
def Ff:DS->SR:=
 (sIf (bOr (o7 (c9 asB (eOp K3 (v8 (a8 (a7 4) (a8 (a7 5) b8))) (a7 3)))) (X2 (a7 4) (U7 G3 (eOp dIx (a7 3) (eC (.int 0))) (U7 G3 (a7 5) (Z6 G3 (eOp dIx (a7 3) (eC (.int 1))))))))
  (e7 [] (eC (.bl false)))
  sNx)
def Fe:DS->SR:=
 (c7 (sIf (bOr (o7 (c9 l4 (e8 Bb (a8 (a7 3) b8)))) (bOr (c9 asB (eOp G3 (eOp dIx (a7 3) (eC (.int 0))) (eC (.int 0)))) (bOr (c9 asB (eOp O7 (eOp dIx (a7 3) (eC (.int 1))) (eOp C4 (a7 0) (eC (.int 1))))) (o7 (X2 (eC (.int 1)) (U7 G3 (eOp C4 (eOp dIx (a7 3) (eC (.int 1))) (eOp dIx (a7 3) (eC (.int 0)))) (Z6 G3 (eOp C4 (a7 0) (eC (.int 1))))))))))
   (e7 [] (eC (.bl false)))
   sNx)
  (r8 false [false,true,true] (iL (eSl Bl (a7 1) oNo (oSo (a7 2)))) (.t [4,5]) Ff))
def Yd:DS->SR:=
 (c7 (r8 false [false,true] (Bk (a8 (a7 1) b8)) (.t [2,3]) Fe)
  (e7 [] (eC (.bl true))))
def Be:List D->R D:=mOf false 2 4 Yd
def Xe:DS->SR:=
 (sIf (o7 (c9 l4 (e8 Ap (a8 (a7 0) (a8 (a7 1) b8)))))
  (P5 "NoLine" (a8 (eC (.str "no side and no line of the cutting")) b8))
  sNx)
def Av:List D->R D:=mOf false 2 0 Xe
def Wp:DS->SR:=
 (e7 [true] (e8 Z7 (a8 (eOp dIx (a7 0) (eC (.int 0))) (a8 (eOp dIx (a7 0) (eC (.int 1))) b8))))
def Ar:List D->R D:=mOf true 1 0 Wp
def Yg:DS->SR:=
 (c7 (sIf (bOr (o7 (c9 l4 (eUn (k7 "tuple") (a7 0)))) (bOr (c9 asB (eOp dNe (eCB m5 (a8 (a7 0) b8)) (eC (.int 2)))) (bOr (o7 (c9 l4 (e8 O5 (a8 (eOp dIx (a7 0) (eC (.int 0))) b8)))) (c9 asB (eOp dNe (eOp dIx (a7 0) (eC (.int 0))) (a7 1))))))
   (e7 [] (eC (.bl false)))
   sNx)
  (e7 [true,true] (m7 (eUn (k7 "tuple") (eOp dIx (a7 0) (eC (.int 1)))) (m7 (eOp dEq (eCB m5 (a8 (eOp dIx (a7 0) (eC (.int 1))) b8)) (eOp C4 (a7 1) (eC (.int 3)))) (e8 Be (a8 (a7 1) (a8 (eOp dIx (a7 0) (eC (.int 1))) b8)))))))
def Bg:List D->R D:=mOf false 2 0 Yg
def Vs:DE->R Bool:=
 (L5 (c9 asB (eOp (dIn false) (eOp dIx (a7 1) (eC (.int 0))) (a7 0))) (c9 asB (eOp (dIn false) (eOp dIx (a7 1) (eC (.int 1))) (a7 0))))
def Vr:DE->R D:=
 (a7 0)
def Vq:DE->R D:=
 (eOp C4 (eCB K7 (a8 (a7 0) b8)) (eCB K7 (a8 (a7 1) b8)))
def Ts:DS->SR:=
 (c7 (J3 (e8 Av (a8 (a7 0) (a8 (a7 1) b8))))
  (c7 (i4 true 2 [true,true] (p7 (iL (e8 Ar (a8 (a7 0) b8))) b1 [1] Vs Vr))
  (e7 [false,true,true] (eCB p8 (a8 (p7 (iL (a7 2)) b1 [1] K6 Vq) b8)))))
def V1:List D->R D:=mOf true 2 1 Ts
def Ew:DS->SR:=
 (c7 (sIf (bOr (o7 (c9 l4 (eUn (k7 "tuple") (a7 4)))) (bOr (c9 asB (eOp dNe (eCB m5 (a8 (a7 4) b8)) (eC (.int 2)))) (bOr (o7 (c9 l4 (e8 Bg (a8 (eOp dIx (a7 4) (eC (.int 0))) (a8 (a7 1) b8))))) (o7 (c9 l4 (e8 O5 (a8 (eOp dIx (a7 4) (eC (.int 1))) b8)))))))
   (e7 [] X5)
   sNx)
  (c7 (sIf (L5 (c9 asB (eOp O7 (a7 3) (eC (.int 0)))) (o7 (c9 asB (eOp K3 (eOp dIx (eOp dIx (a7 0) (eOp C4 (a7 3) (eC (.int 1)))) (eC (.int 0))) (eOp dIx (a7 4) (eC (.int 0)))))))
   (e7 [] X5)
   sNx)
  (G4 dSetN 2 [false,false,false,false,true] (eOp dIx (a7 4) (eC (.int 0))) (eOp dIx (a7 4) (eC (.int 1))))))
def Xd:DS->SR:=
 (c7 (i4 true 2 [] X5)
  (c7 (sIf (o7 (c9 l4 (eUn (k7 "list") (a7 0))))
   (N4 2)
   sNx)
  (c7 (r8 false [true] (iEn (a8 (a7 0) b8)) (.t [3,4]) Ew)
  (N4 2))))
def Au:List D->R D:=mOf true 2 3 Xd
def Vp:DE->R Bool:=
 (c9 asB (eOp dNe (a7 0) (a7 1)))
def Vo:DE->R D:=
 (a7 0)
def Tr:DS->SR:=
 (c7 (J3 (e8 Aw (a8 (a7 0) (a8 (a7 1) b8))))
  (c7 (i4 false 2 [true,true] (eCB B9 (a8 (e8 V1 (a8 (a7 0) (a8 (a7 1) b8))) b8)))
  (c7 (i4 true 3 [true,true] (p7 (iL (eOp dIx (a7 0) (eC (.int 1)))) b1 [1] Vp Vo))
  (e7 [true,false,true,true] (v8 (a8 (v8 (a8 (eOp dIx (a7 0) (eC (.int 0))) (a8 (eCB B9 (a8 (eCB p8 (a8 (eOp x4 (a7 3) (o8 (a8 (a7 2) b8))) b8)) b8)) b8))) (a8 (a7 2) b8)))))))
def D6:List D->R D:=mOf false 2 2 Tr
def Fc:DS->SR:=
 (c7 (i4 false 5 [false,false,false,true,true] (e8 D6 (a8 (a7 3) (a8 (a7 4) b8))))
  (sIf (c9 asB (eOp (dInN true) (eOp dIx (a7 5) (eC (.int 0))) (a7 1)))
   (c7 (G4 dSetN 1 [false,true,false,true,false,true] (eOp dIx (a7 5) (eC (.int 0))) (v8 (a8 (eOp E5 (eOp dIx (eOp dIxN (a7 1) (a7 3)) (eC (.int 0))) (eC (.int 1))) (a8 (eOp dIx (a7 5) (eC (.int 1))) b8))))
  (C5 "list" v4 2 [false,false,false,false,false,true] (a8 (eOp dIx (a7 5) (eC (.int 0))) b8)))
   sNx))
def Fb:DS->SR:=
 (r8 false [false,false,false,true] (iL (eOp dIx (a7 3) (eC (.int 1)))) (.n 4) Fc)
def Ev:DS->SR:=
 (c7 (i4 true 2 [] (o8 b8))
  (c7 (r8 false [true] (iL (a7 0)) (.n 3) Fb)
  sNx))
def Ba:List D->R (D×D):=Bj 4 2 Ev
def Eo:DE->R Bool:=
 (c9 asB (eOp O7 (eCB m5 (a8 (a7 2) b8)) (eC (.int 0))))
def Em:DS->SR:=
 (W3 2 1 [false,false,true] Ba (a7 2))
def Vn:DS->SR:=
 (c7 (i4 true 1 [true] (eDisp1 (a7 0) (v8 (a8 (eC (.int 0)) (a8 (eC .non) b8)))))
  (c7 (i4 true 2 [true] (o8 (a8 (a7 0) b8)))
  (c7 (P7 100000 Eo Em)
  (N4 1))))
def Ao:List D->R D:=mOf true 1 2 Vn
def Xl:DE->R D:=
 (v8 (a8 (a7 0) (a8 (eOp dIx (a7 1) (eC (.int 0))) b8)))
def Mc:DS->SR:=
 (c7 (sIf (c9 asB (eOp O7 (eOp dIx (a7 0) (eC (.int 0))) (eC (.int 8))))
   (P5 "TooMany" (a8 (eC (.str "distances are told of at most eight corners")) b8))
   sNx)
  (e7 [true] (eCB p8 (a8 (p7 (R1 (e8 Ao (a8 (a7 0) b8))) (bT 2) [] K6 Xl) b8))))
def K1:List D->R D:=mOf true 1 0 Mc
def Mq:DS->SR:=
 (c7 (Bm (J3 (R4 knX K1 (a8 (a7 0) b8)))
   (hAs Eu 1 (e7 [false,true] (m7 (eUn (D7 Ed) (a7 1)) (m7 (eUn (D7 Et) (a7 1)) (eUn (fun d=>(l4 d).map fun b=>.bl (!b)) (e8 Fd (a8 (a7 1) b8)))))) Ys))
  (e7 [] (eC (.bl false))))
def Az:List D->R D:=mOf false 1 1 Mq
def Cz:DS->SR:=
 (c7 (i4 false 7 [false,false,false,true,false,false,true] (e8 Q8 (a8 (a7 3) (a8 (a7 6) b8))))
  (c7 (sIf (c9 asB (eOp (dInN true) (a7 7) (a7 2)))
   (e7 [] (eC (.bl false)))
   sNx)
  (C5 "list" v4 5 [false,false,true,false,true,false,false,true] (a8 (eOp C4 (eOp dIxN (a7 2) (a7 7)) (a7 4)) b8))))
def Rn:DE->R D:=
 (eOp (dIn false) (a7 0) (o8 (a8 (eUn S4 (eC (.int 1))) (a8 (eC (.int 0)) (a8 (eC (.int 1)) b8)))))
def Cy:DS->SR:=
 (c7 (i4 true 5 [] (o8 b8))
  (c7 (r8 false [false,false,false,true] (iL (eOp dIx (a7 3) (eC (.int 1)))) (.n 6) Cz)
  (c7 (sIf (bOr (c9 asB (eOp dNe (eOp dEq (a7 4) (eC (.int 0))) (eOp dEq (a7 3) (a7 1)))) (o7 (c9 l4 (eCB W7 (a8 (p7 (iL (a7 5)) b1 [] K6 Rn) b8)))))
   (e7 [] (eC (.bl false)))
   sNx)
  (sIf (L5 (c9 asB (eOp dNe (a7 4) (eC (.int 0)))) (c9 asB (eOp (dIn true) (eUn S4 (eC (.int 1))) (a7 5))))
   (e7 [] (eC (.bl false)))
   sNx))))
def Nf:DS->SR:=
 (c7 (i4 false 1 [true] (e8 W0 (a8 (e8 Ay (a8 (e8 As (a8 (e8 At (a8 (a7 0) (a8 (eC (.int 0)) b8))) b8)) (a8 (eSl dSl (a7 0) (oSo (eC (.int 1))) oNo) b8))) b8)))
  (c7 (sIf (c9 asB (eOp O7 (eOp dIx (a7 1) (eC (.int 0))) (eC (.int 8))))
   (e7 [false,true] (e8 Az (a8 (a7 1) b8)))
   sNx)
  (c7 (i4 true 2 [false,true] (e8 Au (a8 (e8 K1 (a8 (a7 1) b8)) (a8 (eOp dIx (a7 1) (eC (.int 0))) b8))))
  (c7 (sIf (c9 asB (eOp (dInN true) (a7 1) (a7 2)))
   (e7 [] (eC (.bl false)))
   sNx)
  (c7 (r8 false [false,false,true] (R1 (a7 2)) (.t [3,4]) Cy)
  (e7 [] (eC (.bl true))))))))
def S6:List D->R D:=mOf false 1 7 Nf
def top (i:Nat):Stmt:=PySem.Challenge.pw_friezeyard_k73_whole_distances.main.body.getD i (.Pass ⟨0,0,0,0⟩)
abbrev Ls:Stmt:=top 9
abbrev Li:Stmt:=top 10
abbrev Kn:Stmt:=top 12
abbrev Lr:Stmt:=top 13
abbrev Mk:Stmt:=top 14
abbrev Mj:Stmt:=top 15
abbrev Jl:Stmt:=top 17
abbrev Mi:Stmt:=top 18
abbrev Ms:Stmt:=top 19
abbrev Mb:Stmt:=top 20
abbrev Km:Stmt:=top 21
abbrev Kl:Stmt:=top 23
abbrev Ma:Stmt:=top 25
abbrev Lq:Stmt:=top 26
abbrev Mp:Stmt:=top 27
abbrev Lz:Stmt:=top 29
abbrev Mh:Stmt:=top 30
abbrev Mo:Stmt:=top 31
abbrev Mm:Stmt:=top 32
abbrev Lp:Stmt:=top 33
abbrev Mt:Stmt:=top 34
abbrev Mv:Stmt:=top 35
abbrev Ly:Stmt:=top 36
abbrev Ml:Stmt:=top 37
abbrev Mg:Stmt:=top 38
abbrev Mu:Stmt:=top 39
abbrev Mn:Stmt:=top 40
abbrev Lx:Stmt:=top 41
abbrev Gg:Stmt:=top 42
structure Txt (mg:Str->Option Value):Prop where
 ValueError:mg "ValueError"=none
 «all»:mg "all"=none
 bool:mg "bool"=none
 enumerate:mg "enumerate"=none
 int:mg "int"=none
 isinstance:mg "isinstance"=none
 len:mg "len"=none
 list:mg "list"=none
 «max»:mg "max"=none
 range:mg "range"=none
 sorted:mg "sorted"=none
 sum:mg "sum"=none
 tuple:mg "tuple"=none
structure Exs (K:Frag) (mg:Str->Option Value) (u0 u1 u2 u3 u4 u5 u6:Addr):Prop where
 a_FloorError:mg (Str.ofString "FloorError")=some (.ref u0)
 a_NoCorner:mg (Str.ofString "NoCorner")=some (.ref u1)
 a_NoFloor:mg (Str.ofString "NoFloor")=some (.ref u2)
 a_NoLine:mg (Str.ofString "NoLine")=some (.ref u3)
 a_NoPlace:mg (Str.ofString "NoPlace")=some (.ref u4)
 a_NotAlike:mg (Str.ofString "NotAlike")=some (.ref u5)
 a_TooMany:mg (Str.ofString "TooMany")=some (.ref u6)
 n_FloorError:nsIn K mainGlobals (Str.ofString "FloorError")=some (some (.ref u0))
 n_NoLine:nsIn K mainGlobals (Str.ofString "NoLine")=some (some (.ref u3))
 n_TooMany:nsIn K mainGlobals (Str.ofString "TooMany")=some (some (.ref u6))
 q_FloorError:PySem.W.excIn K u0 [.type "ValueError",.type "Exception",.type "BaseException",.type "object"] "ValueError.__new__"=true
 q_NoLine:PySem.W.excIn K u3 [.type "ValueError",.type "Exception",.type "BaseException",.type "object"] "ValueError.__new__"=true
 q_TooMany:PySem.W.excIn K u6 [.type "ValueError",.type "Exception",.type "BaseException",.type "object"] "ValueError.__new__"=true
 fo_NoLine:mroIn K u3 (.type "object")=some true
 fb_NoLine:mroIn K u3 (.type "BaseException")=some true
 fc_NoLine:PySem.W.findIn K (.ref u3) "__class__"=some (some (.builtin "object.__class__"))
 fg_NoLine:PySem.W.findIn K (.ref u3) "__getattribute__"=some (some (.builtin "BaseException.__getattribute__"))
 ft_NoLine:PySem.W.findIn K (.ref u3) "__getattr__"=some none
 m_NoLine_FloorError:mroIn K u3 (.ref u0)=some true
 k_NoLine_NoLine:kitOne K (.ref u3) (.ref u3)=some true
 k_NoLine_NoCorner:kitOne K (.ref u3) (.ref u1)=some false
 k_NoLine_NoFloor:kitOne K (.ref u3) (.ref u2)=some false
 k_NoLine_NoPlace:kitOne K (.ref u3) (.ref u4)=some false
 k_NoLine_NotAlike:kitOne K (.ref u3) (.ref u5)=some false
 k_NoLine_ValueError:kitOne K (.ref u3) (.type "ValueError")=some true
 k_NoLine_TooMany:kitOne K (.ref u3) (.ref u6)=some false
 fo_TooMany:mroIn K u6 (.type "object")=some true
 fb_TooMany:mroIn K u6 (.type "BaseException")=some true
 fc_TooMany:PySem.W.findIn K (.ref u6) "__class__"=some (some (.builtin "object.__class__"))
 fg_TooMany:PySem.W.findIn K (.ref u6) "__getattribute__"=some (some (.builtin "BaseException.__getattribute__"))
 ft_TooMany:PySem.W.findIn K (.ref u6) "__getattr__"=some none
 m_TooMany_FloorError:mroIn K u6 (.ref u0)=some true
 k_TooMany_NoLine:kitOne K (.ref u6) (.ref u3)=some false
 k_TooMany_NoCorner:kitOne K (.ref u6) (.ref u1)=some false
 k_TooMany_NoFloor:kitOne K (.ref u6) (.ref u2)=some false
 k_TooMany_NoPlace:kitOne K (.ref u6) (.ref u4)=some false
 k_TooMany_NotAlike:kitOne K (.ref u6) (.ref u5)=some false
 k_TooMany_ValueError:kitOne K (.ref u6) (.type "ValueError")=some true
 k_TooMany_TooMany:kitOne K (.ref u6) (.ref u6)=some true
section
variable {K:Frag} {mg:Str->Option Value} {u0 u1 u2 u3 u4 u5 u6:Addr}
theorem Exs.kn (Z:Exs K mg u0 u1 u2 u3 u4 u5 u6):∀c,knX c=true->∃C,mg (Str.ofString c)=some (.ref C):=by
 intro c h;simp only [knX,Bool.or_eq_true,beq_iff_eq] at h;rcases h with h | h
 . subst h;exact ⟨_,Z.a_NoLine⟩
 . subst h;exact ⟨_,Z.a_TooMany⟩
theorem Exs.t_FloorError (Z:Exs K mg u0 u1 u2 u3 u4 u5 u6):Tbl K "FloorError" u0 [.type "ValueError",.type "Exception",.type "BaseException",.type "object"] "ValueError.__new__" Eu:=⟨Z.n_FloorError,.inl Z.q_FloorError,by
 intro c b h;simp only [Eu] at h;by_cases e:c="NoLine"
 . rw [ξ e] at h;cases h;subst e;exact ⟨_,Z.n_NoLine,.inl Z.q_NoLine,Z.m_NoLine_FloorError⟩
 rw [ψ e] at h;by_cases e:c="TooMany"
 . rw [ξ e] at h;cases h;subst e;exact ⟨_,Z.n_TooMany,.inl Z.q_TooMany,Z.m_TooMany_FloorError⟩
 rw [ψ e] at h;cases h⟩
theorem Exs.b_NoLine (Z:Exs K mg u0 u1 u2 u3 u4 u5 u6):Bel K (.ref u3) Ea:=⟨by
 intro c b h;simp only [Ea] at h;by_cases e:c="NoLine"
 . rw [ξ e] at h;cases h;subst e;exact ⟨_,Z.n_NoLine,⟨Z.fo_NoLine,Z.fb_NoLine,Z.fc_NoLine,Z.fg_NoLine,Z.ft_NoLine⟩,Z.k_NoLine_NoLine⟩
 rw [ψ e] at h;by_cases e:c="TooMany"
 . rw [ξ e] at h;cases h;subst e;exact ⟨_,Z.n_TooMany,⟨Z.fo_TooMany,Z.fb_TooMany,Z.fc_TooMany,Z.fg_TooMany,Z.ft_TooMany⟩,Z.k_TooMany_NoLine⟩
 rw [ψ e] at h;cases h⟩
theorem Exs.b_NoCorner (Z:Exs K mg u0 u1 u2 u3 u4 u5 u6):Bel K (.ref u1) Ej:=⟨by
 intro c b h;simp only [Ej] at h;by_cases e:c="NoLine"
 . rw [ξ e] at h;cases h;subst e;exact ⟨_,Z.n_NoLine,⟨Z.fo_NoLine,Z.fb_NoLine,Z.fc_NoLine,Z.fg_NoLine,Z.ft_NoLine⟩,Z.k_NoLine_NoCorner⟩
 rw [ψ e] at h;by_cases e:c="TooMany"
 . rw [ξ e] at h;cases h;subst e;exact ⟨_,Z.n_TooMany,⟨Z.fo_TooMany,Z.fb_TooMany,Z.fc_TooMany,Z.fg_TooMany,Z.ft_TooMany⟩,Z.k_TooMany_NoCorner⟩
 rw [ψ e] at h;cases h⟩
theorem Exs.b_NoFloor (Z:Exs K mg u0 u1 u2 u3 u4 u5 u6):Bel K (.ref u2) Ef:=⟨by
 intro c b h;simp only [Ef] at h;by_cases e:c="NoLine"
 . rw [ξ e] at h;cases h;subst e;exact ⟨_,Z.n_NoLine,⟨Z.fo_NoLine,Z.fb_NoLine,Z.fc_NoLine,Z.fg_NoLine,Z.ft_NoLine⟩,Z.k_NoLine_NoFloor⟩
 rw [ψ e] at h;by_cases e:c="TooMany"
 . rw [ξ e] at h;cases h;subst e;exact ⟨_,Z.n_TooMany,⟨Z.fo_TooMany,Z.fb_TooMany,Z.fc_TooMany,Z.fg_TooMany,Z.ft_TooMany⟩,Z.k_TooMany_NoFloor⟩
 rw [ψ e] at h;cases h⟩
theorem Exs.b_NoPlace (Z:Exs K mg u0 u1 u2 u3 u4 u5 u6):Bel K (.ref u4) Ee:=⟨by
 intro c b h;simp only [Ee] at h;by_cases e:c="NoLine"
 . rw [ξ e] at h;cases h;subst e;exact ⟨_,Z.n_NoLine,⟨Z.fo_NoLine,Z.fb_NoLine,Z.fc_NoLine,Z.fg_NoLine,Z.ft_NoLine⟩,Z.k_NoLine_NoPlace⟩
 rw [ψ e] at h;by_cases e:c="TooMany"
 . rw [ξ e] at h;cases h;subst e;exact ⟨_,Z.n_TooMany,⟨Z.fo_TooMany,Z.fb_TooMany,Z.fc_TooMany,Z.fg_TooMany,Z.ft_TooMany⟩,Z.k_TooMany_NoPlace⟩
 rw [ψ e] at h;cases h⟩
theorem Exs.b_NotAlike (Z:Exs K mg u0 u1 u2 u3 u4 u5 u6):Bel K (.ref u5) Ei:=⟨by
 intro c b h;simp only [Ei] at h;by_cases e:c="NoLine"
 . rw [ξ e] at h;cases h;subst e;exact ⟨_,Z.n_NoLine,⟨Z.fo_NoLine,Z.fb_NoLine,Z.fc_NoLine,Z.fg_NoLine,Z.ft_NoLine⟩,Z.k_NoLine_NotAlike⟩
 rw [ψ e] at h;by_cases e:c="TooMany"
 . rw [ξ e] at h;cases h;subst e;exact ⟨_,Z.n_TooMany,⟨Z.fo_TooMany,Z.fb_TooMany,Z.fc_TooMany,Z.fg_TooMany,Z.ft_TooMany⟩,Z.k_TooMany_NotAlike⟩
 rw [ψ e] at h;cases h⟩
theorem Exs.b_ValueError (Z:Exs K mg u0 u1 u2 u3 u4 u5 u6):Bel K (.type "ValueError") Et:=⟨by
 intro c b h;simp only [Et] at h;by_cases e:c="NoLine"
 . rw [ξ e] at h;cases h;subst e;exact ⟨_,Z.n_NoLine,⟨Z.fo_NoLine,Z.fb_NoLine,Z.fc_NoLine,Z.fg_NoLine,Z.ft_NoLine⟩,Z.k_NoLine_ValueError⟩
 rw [ψ e] at h;by_cases e:c="TooMany"
 . rw [ξ e] at h;cases h;subst e;exact ⟨_,Z.n_TooMany,⟨Z.fo_TooMany,Z.fb_TooMany,Z.fc_TooMany,Z.fg_TooMany,Z.ft_TooMany⟩,Z.k_TooMany_ValueError⟩
 rw [ψ e] at h;cases h⟩
theorem Exs.b_TooMany (Z:Exs K mg u0 u1 u2 u3 u4 u5 u6):Bel K (.ref u6) Ed:=⟨by
 intro c b h;simp only [Ed] at h;by_cases e:c="NoLine"
 . rw [ξ e] at h;cases h;subst e;exact ⟨_,Z.n_NoLine,⟨Z.fo_NoLine,Z.fb_NoLine,Z.fc_NoLine,Z.fg_NoLine,Z.ft_NoLine⟩,Z.k_NoLine_TooMany⟩
 rw [ψ e] at h;by_cases e:c="TooMany"
 . rw [ξ e] at h;cases h;subst e;exact ⟨_,Z.n_TooMany,⟨Z.fo_TooMany,Z.fb_TooMany,Z.fc_TooMany,Z.fg_TooMany,Z.ft_TooMany⟩,Z.k_TooMany_TooMany⟩
 rw [ψ e] at h;cases h⟩
end
theorem zx:FnScope ["thing"] ["thing"] (d9 Ls):=fsc
theorem sc_is_side:FnScope ["n","p","a","b"] ["n","p"] (d9 Li):=fsc
theorem ym:FnScope ["thing"] ["thing"] (d9 Kn):=fsc
theorem zv:FnScope ["cut","p"] ["cut","p"] (d9 Lr):=fsc
theorem zbb:FnScope ["cut","p"] ["cut","p"] (d9 Mk):=fsc
theorem zbc:FnScope ["cut","p"] ["cut","p"] (d9 Mj):=fsc
theorem sc_rooms:FnScope ["n","lines","tops"] ["n","lines"] (d9 Jl):=fsc
theorem sc_room_under:FnScope ["top","lines","room"] ["top","lines"] (d9 Mi):=fsc
theorem sc_corner_behind:FnScope ["corner","top","lines","ends"] ["corner","top","lines"] (d9 Ms):=fsc
theorem zP:FnScope ["cut"] ["cut"] (d9 Mb):=fsc
theorem sc_thirds:FnScope ["cut","p","both"] ["cut","p"] (d9 Km):=fsc
theorem sc_turned:FnScope ["cut","line","new","kept"] ["cut","line"] (d9 Kl):=fsc
theorem zO:FnScope ["cut"] ["cut"] (d9 Ma):=fsc
theorem sc_steps_to:FnScope ["cut","found","front"] ["cut"] (d9 Lq):=fsc
theorem sc_front_behind:FnScope ["front","found","behind","cut","line","step"] ["front","found"] (d9 Mp):=fsc
theorem zN:FnScope ["_law_script","_law_k"] ["_law_script","_law_k"] (d9 Lz):=fsc
theorem zbd:FnScope ["_law_found"] ["_law_found"] (d9 Mh):=fsc
theorem z86:FnScope ["_law_found"] ["_law_found"] (d9 Mo):=fsc
theorem sc__law_places:FnScope ["_law_many_here","_law_cells","_law_found","_law_k","_law_one"] ["_law_many_here","_law_cells"] (d9 Mm):=fsc
theorem sc__law_cut:FnScope ["_law_spots","_law_order","_law_lines","_law_spot","_law_at","_law_stands","_law_k","_law_name"] ["_law_spots"] (d9 Lp):=fsc
theorem sc__law_are_lines:FnScope ["_law_n","_law_lines","_law_k","_law_line","_law_a","_law_b"] ["_law_n","_law_lines"] (d9 Mt):=fsc
theorem z5r:FnScope ["_law_found","_law_n"] ["_law_found","_law_n"] (d9 Mv):=fsc
theorem sc__law_ends:FnScope ["_law_cut_here","_law_corner","_law_found","_law_a","_law_b"] ["_law_cut_here","_law_corner"] (d9 Ly):=fsc
theorem sc__law_turned:FnScope ["_law_cut_here","_law_line","_law_far","_law_both","_law_left"] ["_law_cut_here","_law_line"] (d9 Ml):=fsc
theorem sc__law_table:FnScope ["_law_found","_law_n","_law_far","_law_k","_law_row"] ["_law_found","_law_n"] (d9 Mg):=fsc
theorem z5s:FnScope ["_law_error"] ["_law_error"] (d9 Mu):=fsc
theorem sc__law_refused:FnScope ["_law_cut_here","e"] ["_law_cut_here"] (d9 Mn):=fsc
theorem zM:FnScope ["_law_cell"] ["_law_cell"] (d9 Lx):=fsc
theorem sc_law:FnScope ["_law_script","_law_cut_here","_law_far","_law_one","_law_number","_law_steps","_law_line","_law_there"] ["_law_script"] (d9 Gg):=fsc
abbrev Vm (P:Program) (w:World) (K:Frag) (mg:Str->Option Value) (base:Heap):Prop:=i0 P w K mg base "is_whole" ["thing"] 1 (spD K mg false W1 1)
abbrev Uo (P:Program) (w:World) (K:Frag) (mg:Str->Option Value) (base:Heap):Prop:=i0 P w K mg base "is_side" ["n","p"] 1 (spD K mg false Al 2)
abbrev Xv (P:Program) (w:World) (K:Frag) (mg:Str->Option Value) (base:Heap):Prop:=i0 P w K mg base "corner_behind" ["corner","top","lines"] 1 (spD K mg false Bc 3)
abbrev Wo (P:Program) (w:World) (K:Frag) (mg:Str->Option Value) (base:Heap):Prop:=i0 P w K mg base "_law_pick" ["_law_script","_law_k"] 1 (spD K mg false At 2)
abbrev El (P:Program) (w:World) (K:Frag) (mg:Str->Option Value) (base:Heap):Prop:=i0 P w K mg base "_law_plain" ["_law_found"] 1 (spD K mg false O5 1)
abbrev Xk (P:Program) (w:World) (K:Frag) (mg:Str->Option Value) (base:Heap):Prop:=i0 P w K mg base "_law_places" ["_law_many_here","_law_cells"] 1 (spD K mg true Ay 2)
abbrev Vl (P:Program) (w:World) (K:Frag) (mg:Str->Option Value) (base:Heap):Prop:=i0 P w K mg base "_law_cut" ["_law_spots"] 1 (spD K mg false W0 1)
abbrev Wn (P:Program) (w:World) (K:Frag) (mg:Str->Option Value) (base:Heap):Prop:=i0 P w K mg base "_law_ends" ["_law_cut_here","_law_corner"] 1 (spD K mg true W2 2)
abbrev Wm (P:Program) (w:World) (K:Frag) (mg:Str->Option Value) (base:Heap):Prop:=i0 P w K mg base "_law_many" ["_law_cell"] 1 (spD K mg false As 1)
abbrev Kk (P:Program) (w:World) (K:Frag) (mg:Str->Option Value) (base:Heap):Prop:=i0 P w K mg base "is_two" ["thing"] 2 (spD K mg false V2 1)
abbrev Xb (P:Program) (w:World) (K:Frag) (mg:Str->Option Value) (base:Heap):Prop:=i0 P w K mg base "room_under" ["top","lines"] 2 (spD K mg false Ax 2)
abbrev Xr (P:Program) (w:World) (K:Frag) (mg:Str->Option Value) (base:Heap):Prop:=i0 P w K mg base "_law_is_pair" ["_law_found"] 2 (spD K mg false Bb 1)
abbrev Xj (P:Program) (w:World) (K:Frag) (mg:Str->Option Value) (base:Heap):Prop:=i0 P w K mg base "_law_turned" ["_law_cut_here","_law_line"] 2 (spD K mg false Q8 2)
abbrev Vk (P:Program) (w:World) (K:Frag) (mg:Str->Option Value) (base:Heap):Prop:=i0 P w K mg base "has_pair" ["cut","p"] 3 (spD K mg false Ap 2)
abbrev Xa (P:Program) (w:World) (K:Frag) (mg:Str->Option Value) (base:Heap):Prop:=i0 P w K mg base "check_line" ["cut","p"] 3 (spD K mg false Aw 2)
abbrev Rm (P:Program) (w:World) (K:Frag) (mg:Str->Option Value) (base:Heap):Prop:=i0 P w K mg base "rooms" ["n","lines"] 3 (spD K mg true Z7 2)
abbrev Yc (P:Program) (w:World) (K:Frag) (mg:Str->Option Value) (base:Heap):Prop:=i0 P w K mg base "_law_are_lines" ["_law_n","_law_lines"] 3 (spD K mg false Be 2)
abbrev Wz (P:Program) (w:World) (K:Frag) (mg:Str->Option Value) (base:Heap):Prop:=i0 P w K mg base "check_pair" ["cut","p"] 4 (spD K mg false Av 2)
abbrev Wl (P:Program) (w:World) (K:Frag) (mg:Str->Option Value) (base:Heap):Prop:=i0 P w K mg base "triangles" ["cut"] 4 (spD K mg true Ar 1)
abbrev Ye (P:Program) (w:World) (K:Frag) (mg:Str->Option Value) (base:Heap):Prop:=i0 P w K mg base "_law_is_cutting" ["_law_found","_law_n"] 4 (spD K mg false Bg 2)
abbrev Tq (P:Program) (w:World) (K:Frag) (mg:Str->Option Value) (base:Heap):Prop:=i0 P w K mg base "thirds" ["cut","p"] 5 (spD K mg true V1 2)
abbrev Wy (P:Program) (w:World) (K:Frag) (mg:Str->Option Value) (base:Heap):Prop:=i0 P w K mg base "_law_table" ["_law_found","_law_n"] 5 (spD K mg true Au 2)
abbrev Tp (P:Program) (w:World) (K:Frag) (mg:Str->Option Value) (base:Heap):Prop:=i0 P w K mg base "turned" ["cut","line"] 6 (spD K mg false D6 2)
abbrev Xq (P:Program) (w:World) (K:Frag) (mg:Str->Option Value) (base:Heap):Prop:=i0 P w K mg base "front_behind" ["front","found"] 7 (spW K Ba)
abbrev Vj (P:Program) (w:World) (K:Frag) (mg:Str->Option Value) (base:Heap):Prop:=i0 P w K mg base "steps_to" ["cut"] 8 (spD K mg true Ao 1)
abbrev Lw (P:Program) (w:World) (K:Frag) (mg:Str->Option Value) (base:Heap):Prop:=i0 P w K mg base "distances" ["cut"] 9 (spD K mg true K1 1)
abbrev Xp (P:Program) (w:World) (K:Frag) (mg:Str->Option Value) (base:Heap):Prop:=i0 P w K mg base "_law_refused" ["_law_cut_here"] 10 (spD K mg false Az 1)
section
variable {P:Program} {w:World} {K:Frag} {mg:Str->Option Value} {base:Heap} {f:Addr} {fd:FuncData} {u0 u1 u2 u3 u4 u5 u6:Addr}
theorem zu (F:Fun K "is_whole" "is_whole" Ls f fd) (T:Txt mg) (Z:Exs K mg u0 u1 u2 u3 u4 u5 u6)  : FnOk P w K mg base (CX1 P w) 1 f fd ["thing"] (spD K mg false W1 1):=
 fnD (k:=0) F zx rfl rfl fun cdv A outer s H E hr=>
  (c8 (e9 (t8 (G7 rfl T.isinstance boot_isinstance (qv 0) (E8 (v:=.ty "int") rfl T.int boot_int rfl)) (C7 (Qj (G7 rfl T.isinstance boot_isinstance (qv 0) (E8 (v:=.ty "bool") rfl T.bool boot_bool rfl)))))))
theorem yU (F:Fun K "is_side" "is_side" Li f fd) (T:Txt mg) (Z:Exs K mg u0 u1 u2 u3 u4 u5 u6)  : FnOk P w K mg base (CX1 P w) 1 f fd ["n","p"] (spD K mg false Al 2):=
 fnD (k:=0) F sc_is_side rfl rfl fun cdv A outer s H E hr=>
  (d6 (sA 2 sc_is_side.nd (qI hr (qv 1) b7))
   (d6 (sA 3 sc_is_side.nd (qI hr (qv 1) b7))
   (d6 (k8 (QW.pt (p9 (j9 K9 N6 (qv 2) b7 (g8 _)) (M9 (j9 y20 jo (qv 3) (qv 0) (g8 _)))))
    (c8 (e9 v5))
    k9)
   (c8 (e9 (Fl (B7 (G9 hr.units) G8 (qv 3) (g7 J2 J7 (qv 2) b7) (g8 _)) (C7 (t8 (B7 (G9 hr.units) G8 (qv 2) b7 (g8 _)) (C7 (B7 (G9 hr.units) G8 (qv 3) (g7 E4 E6 (qv 0) b7) (g8 _)))))))))))
theorem z6u (F:Fun K "corner_behind" "corner_behind" Ms f fd) (T:Txt mg) (Z:Exs K mg u0 u1 u2 u3 u4 u5 u6)  : FnOk P w K mg base (CX1 P w) 1 f fd ["corner","top","lines"] (spD K mg false Bc 3):=
 fnD (k:=0) F sc_corner_behind rfl rfl fun cdv A outer s H E hr=>
  (d6 (Bn sc_corner_behind.nd (k:=3) rfl rfl (F3 (caps:=["corner","top"]) (ix:=[0,1]) rfl rfl) (by decide +kernel) rfl (t0 (qv 2)) (.one fun _ _ _=>(QW.pt (X9 (tE hr (qI hr (qv 0) b7) (qv 1) (g8 _)) (X9 (j9 y1z jt (qI hr (qv 0) b7) (qI hr (qv 2) b7) (g8 _)) (Cq (tN hr (qv 0) (qv 2) (g8 _))))))) (fun _ _ _=>(qI hr (qv 0) b7)))
   (c8 (e9 (qe rfl rfl T.«max» boot_max (qv 3) (g7 J2 J7 (qv 0) b7)))))
theorem zL (F:Fun K "_law_pick" "_law_pick" Lz f fd) (T:Txt mg) (Z:Exs K mg u0 u1 u2 u3 u4 u5 u6)  : FnOk P w K mg base (CX1 P w) 1 f fd ["_law_script","_law_k"] (spD K mg false At 2):=
 fnD (k:=0) F zN rfl rfl fun cdv A outer s H E hr=>
  (c8 (e9 (qI hr (QE.wk (g7 Cv Cr (QE.wk (Fk Ti So (qv 0) (Bp (qv 1)) (Bp (g7 J2 J7 (qv 1) b7)))) (QE.wk (y0 (a9 b7 b9))))) b7)))
theorem zbf (F:Fun K "_law_plain" "_law_plain" Mh f fd) (T:Txt mg) (Z:Exs K mg u0 u1 u2 u3 u4 u5 u6)  : FnOk P w K mg base (CX1 P w) 1 f fd ["_law_found"] (spD K mg false O5 1):=
 fnD (k:=0) F zbd rfl rfl fun cdv A outer s H E hr=>
  (c8 (e9 (t8 (G7 rfl T.isinstance boot_isinstance (qv 0) (E8 (v:=.ty "int") rfl T.int boot_int rfl)) (t8 (B7 Se Sd (qv 0) v5 (g8 _)) (C7 (B7 Se Sd (qv 0) v5 (g8 _)))))))
theorem z8o (F:Fun K "_law_places" "_law_places" Mm f fd) (T:Txt mg) (Z:Exs K mg u0 u1 u2 u3 u4 u5 u6)  : FnOk P w K mg base (CX1 P w) 1 f fd ["_law_many_here","_law_cells"] (spD K mg true Ay 2):=
 fnD (k:=0) F sc__law_places rfl rfl fun cdv A outer s H E hr=>
  (d6 (sA 2 sc__law_places.nd (y2j rfl rfl T.list rfl T.range (a9 (qv 0) b9)))
   (d6 (G6 PassesOwn.leaving rfl (Fj rfl T.enumerate (a9 (qv 1) b9)) (g_t rfl (w8 (i:=3) sc__law_places.nd rfl (Or.inl rfl) (w8 (i:=4) sc__law_places.nd rfl (Or.inl rfl) P6)))
    (c8 (k8 (j9 R8 U5 (qv 0) b7 (g8 _))
    (c8 (Ny hr.units (pw 2) (g7 C9 D5 (qv 3) (qv 0)) (g7 C9 D5 (g7 J2 J7 (g7 jH qC (qI hr (qv 2) (g7 C9 D5 (qv 3) (qv 0))) b7) (qv 4)) b7)))
    k9)))
   (c8 (Z0 (i:=2)))))
theorem zt (F:Fun K "_law_cut" "_law_cut" Lp f fd) (T:Txt mg) (Z:Exs K mg u0 u1 u2 u3 u4 u5 u6)  : FnOk P w K mg base (CX1 P w) 1 f fd ["_law_spots"] (spD K mg false W0 1):=
 fnD (k:=0) F sc__law_cut rfl rfl fun cdv A outer s H E hr=>
  (d6 (sA 1 sc__law_cut.nd (y0 (a9 b7 (a9 b7 (a9 b7 b9)))))
   (d6 (sA 2 sc__law_cut.nd (y0 b9))
   (d6 (G6 PassesOwn.leaving rfl (t0 (qv 0)) (g_n (i:=3) sc__law_cut.nd rfl (Or.inl rfl))
    (d6 (sA 4 sc__law_cut.nd (g7 C9 D5 (qv 3) (qL T.len (qv 1))))
   (d6 (T4 PySem.F.plainAttrs_list PySem.F.slot_list_append PySem.F.type_list_append Q7 U4 P9 (pw 2) (a9 (E1 (a9 (qI hr (qv 1) (qv 4)) (a9 (qI hr (qv 1) (g7 C9 D5 (g7 J2 J7 (qv 4) b7) (qL T.len (qv 1)))) b9))) b9))
   (c8 (T4 PySem.F.plainAttrs_list PySem.F.slot_list_insert PySem.F.type_list_insert yw qq P9 (pw 1) (a9 (g7 J2 J7 (qv 4) b7) (a9 (qL T.len (qv 1)) b9)))))))
   (d6 (sA 5 sc__law_cut.nd qu)
   (d6 (G6 PassesOwn.leaving rfl (Fj rfl T.enumerate (a9 (qv 1) b9)) (g_t rfl (w8 (i:=6) sc__law_cut.nd rfl (Or.inl rfl) (w8 (i:=7) sc__law_cut.nd rfl (Or.inl rfl) P6)))
    (c8 (Ny hr.units (pw 5) (qv 7) (qv 6))))
   (c8 (e9 (E1 (a9 (qL T.len (qv 1)) (a9 (M8 Q4 Q3 rfl T.tuple boot_tuple (a9 (QE.wk (z7 (N9 rfl hr.units) O1 rfl T.sorted boot_sorted (a9 (QE.wk (Yt (F3 (caps:=["_law_stands"]) (ix:=[5]) rfl rfl) (by decide +kernel) rfl rfl (t0 (qv 2)) .nil (fun _ _ _=>(M8 Q4 Q3 rfl T.tuple boot_tuple (a9 (QE.wk (z7 (N9 rfl hr.units) O1 rfl T.sorted boot_sorted (a9 (QE.wk (y0 (a9 (qI hr (qv 2) (qv 0)) (a9 (qI hr (qv 2) (qv 1)) b9)))) b9))) b9))))) b9))) b9)) b9))))))))))
theorem zK (F:Fun K "_law_ends" "_law_ends" Ly f fd) (T:Txt mg) (Z:Exs K mg u0 u1 u2 u3 u4 u5 u6)  : FnOk P w K mg base (CX1 P w) 1 f fd ["_law_cut_here","_law_corner"] (spD K mg true W2 2):=
 fnD (k:=0) F sc__law_ends rfl rfl fun cdv A outer s H E hr=>
  (d6 (sA 2 sc__law_ends.nd (y0 (a9 (g7 C9 D5 (g7 J2 J7 (qv 1) b7) (qI hr (qv 0) b7)) (a9 (g7 C9 D5 (g7 E4 E6 (qv 1) b7) (qI hr (qv 0) b7)) b9))))
   (d6 (G6 PassesOwn.leaving rfl (t0 (qI hr (qv 0) b7)) (g_t rfl (w8 (i:=3) sc__law_ends.nd rfl (Or.inl rfl) (w8 (i:=4) sc__law_ends.nd rfl (Or.inl rfl) P6)))
    (d6 (k8 (tE hr (qv 3) (qv 1) (g8 _))
    (c8 (T4 PySem.F.plainAttrs_list PySem.F.slot_list_append PySem.F.type_list_append Q7 U4 P9 (pw 2) (a9 (qv 4) b9)))
    k9)
   (c8 (k8 (tE hr (qv 4) (qv 1) (g8 _))
    (c8 (T4 PySem.F.plainAttrs_list PySem.F.slot_list_append PySem.F.type_list_append Q7 U4 P9 (pw 2) (a9 (qv 3) b9)))
    k9))))
   (c8 (Z0 (i:=2)))))
theorem z5v (F:Fun K "_law_is_another" "_law_is_another" Mu f fd) (T:Txt mg) (Z:Exs K mg u0 u1 u2 u3 u4 u5 u6)  : FnQ P w K mg base f fd ["_law_error"] (spL K false Fd 1):=
 fnQ F z5s rfl rfl fun cdv A outer s H E ev=>
  (d6 (k8 (QW.pt (p9 (x9 (P0 (tb:=Ef) rfl T.isinstance boot_isinstance (qv 0) (U9 (v:=.ref u2) rfl Z.a_NoFloor rfl) (.inl ⟨_,rfl,rfl⟩) Z.b_NoFloor)) (p9 (x9 (P0 (tb:=Ej) rfl T.isinstance boot_isinstance (qv 0) (U9 (v:=.ref u1) rfl Z.a_NoCorner rfl) (.inl ⟨_,rfl,rfl⟩) Z.b_NoCorner)) (M9 (x9 (P0 (tb:=Ea) rfl T.isinstance boot_isinstance (qv 0) (U9 (v:=.ref u3) rfl Z.a_NoLine rfl) (.inl ⟨_,rfl,rfl⟩) Z.b_NoLine))))))
    (c8 (e9 v5))
    k9)
   (c8 (e9 (Fl (P0 (tb:=Ei) rfl T.isinstance boot_isinstance (qv 0) (U9 (v:=.ref u5) rfl Z.a_NotAlike rfl) (.inl ⟨_,rfl,rfl⟩) Z.b_NotAlike) (C7 (P0 (tb:=Ee) rfl T.isinstance boot_isinstance (qv 0) (U9 (v:=.ref u4) rfl Z.a_NoPlace rfl) (.inl ⟨_,rfl,rfl⟩) Z.b_NoPlace))))))
theorem zJ (F:Fun K "_law_many" "_law_many" Lx f fd) (T:Txt mg) (Z:Exs K mg u0 u1 u2 u3 u4 u5 u6)  : FnOk P w K mg base (CX1 P w) 1 f fd ["_law_cell"] (spD K mg false As 1):=
 fnD (k:=0) F zM rfl rfl fun cdv A outer s H E hr=>
  (d6 (k8 (tE hr (g7 C9 D5 (qv 0) b7) b7 (g8 _))
    (c8 (e9 (g7 J2 J7 b7 (g7 C9 D5 (g7 Qr Ql (qv 0) b7) b7))))
    k9)
   (d6 (k8 (tE hr (g7 C9 D5 (qv 0) b7) b7 (g8 _))
    (c8 (e9 b7))
    k9)
   (c8 (e9 (g7 C9 D5 (g7 Qr Ql (qv 0) b7) b7)))))
theorem yl (F:Fun K "is_two" "is_two" Kn f fd) (T:Txt mg) (Z:Exs K mg u0 u1 u2 u3 u4 u5 u6) (G_is_whole:Vm P w K mg base):FnOk P w K mg base (CX1 P w) 2 f fd ["thing"] (spD K mg false V2 1):=
 fnD (k:=1) F ym rfl rfl fun cdv A outer s H E hr=>
  (c8 (e9 (t8 (G7 rfl T.isinstance boot_isinstance (qv 0) (E8 (v:=.ty "tuple") rfl T.tuple boot_tuple rfl)) (t8 (B7 (G9 hr.units) G8 (qL T.len (qv 0)) b7 (g8 _)) (t8 (i5 i3 G_is_whole hr rfl (a9 (qI hr (qv 0) b7) b9)) (C7 (i5 i3 G_is_whole hr rfl (a9 (qI hr (qv 0) b7) b9))))))))
theorem zbg (F:Fun K "room_under" "room_under" Mi f fd) (T:Txt mg) (Z:Exs K mg u0 u1 u2 u3 u4 u5 u6) (G_corner_behind:Xv P w K mg base):FnOk P w K mg base (CX1 P w) 2 f fd ["top","lines"] (spD K mg false Ax 2):=
 fnD (k:=1) F sc_room_under rfl rfl fun cdv A outer s H E hr=>
  (d6 (sA 2 sc_room_under.nd (y0 (a9 (qI hr (qv 0) b7) b9)))
   (d6 (Sn (n:=1000) PassesOwn.leaving (j9 K9 N6 (qI hr (qv 2) (Bq Cm Cs b7)) (qI hr (qv 0) b7) (g8 _))
    (c8 (T4 PySem.F.plainAttrs_list PySem.F.slot_list_append PySem.F.type_list_append Q7 U4 P9 (pw 2) (a9 (i5 i3 G_corner_behind hr rfl (a9 (qI hr (qv 2) (Bq Cm Cs b7)) (a9 (qv 0) (a9 (qv 1) b9)))) b9))))
   (c8 (e9 (M8 Q4 Q3 rfl T.tuple boot_tuple (a9 (qv 2) b9))))))
theorem z8b (F:Fun K "_law_is_pair" "_law_is_pair" Mo f fd) (T:Txt mg) (Z:Exs K mg u0 u1 u2 u3 u4 u5 u6) (G__law_plain:El P w K mg base):FnOk P w K mg base (CX1 P w) 2 f fd ["_law_found"] (spD K mg false Bb 1):=
 fnD (k:=1) F z86 rfl rfl fun cdv A outer s H E hr=>
  (c8 (e9 (t8 (G7 rfl T.isinstance boot_isinstance (qv 0) (E8 (v:=.ty "tuple") rfl T.tuple boot_tuple rfl)) (t8 (B7 (G9 hr.units) G8 (qL T.len (qv 0)) b7 (g8 _)) (t8 (i5 i3 G__law_plain hr rfl (a9 (qI hr (qv 0) b7) b9)) (C7 (i5 i3 G__law_plain hr rfl (a9 (qI hr (qv 0) b7) b9))))))))
theorem z8p (F:Fun K "_law_turned" "_law_turned" Ml f fd) (T:Txt mg) (Z:Exs K mg u0 u1 u2 u3 u4 u5 u6) (G__law_ends:Wn P w K mg base):FnOk P w K mg base (CX1 P w) 2 f fd ["_law_cut_here","_law_line"] (spD K mg false Q8 2):=
 fnD (k:=1) F sc__law_turned rfl rfl fun cdv A outer s H E hr=>
  (d6 (sA 2 sc__law_turned.nd (i5 i3 G__law_ends hr rfl (a9 (qv 0) (a9 (qI hr (qv 1) b7) b9))))
   (d6 (sA 3 sc__law_turned.nd (z7 (N9 rfl hr.units) O1 rfl T.sorted boot_sorted (a9 (QE.wk (Bo (F3 (caps:=["_law_far"]) (ix:=[2]) rfl rfl) (by decide +kernel) rfl (t0 (QE.wk (i5 i3 G__law_ends hr rfl (a9 (qv 0) (a9 (qI hr (qv 1) b7) b9))))) (.one fun _ _ _=>(j9 (Y0 hr.units) P1 (qv 0) (qv 1) (by with_unfolding_all rfl))) (fun _ _ _=>(qv 0)))) b9)))
   (d6 (Bn sc__law_turned.nd (k:=4) rfl rfl (F3 (caps:=["_law_line"]) (ix:=[1]) rfl rfl) (by decide +kernel) rfl (t0 (qI hr (qv 0) b7)) (.one fun _ _ _=>(tN hr (qv 0) (qv 1) (g8 _))) (fun _ _ _=>(qv 0)))
   (c8 (e9 (E1 (a9 (qI hr (qv 0) b7) (a9 (M8 Q4 Q3 rfl T.tuple boot_tuple (a9 (QE.wk (z7 (N9 rfl hr.units) O1 rfl T.sorted boot_sorted (a9 (QE.wk (g7 Cv Cr (qv 4) (QE.wk (y0 (a9 (M8 Q4 Q3 rfl T.tuple boot_tuple (a9 (qv 3) b9)) b9))))) b9))) b9)) b9))))))))
theorem zr (F:Fun K "has_pair" "has_pair" Lr f fd) (T:Txt mg) (Z:Exs K mg u0 u1 u2 u3 u4 u5 u6) (G_is_side:Uo P w K mg base) (G_is_two:Kk P w K mg base):FnOk P w K mg base (CX1 P w) 3 f fd ["cut","p"] (spD K mg false Ap 2):=
 fnD (k:=2) F zv rfl rfl fun cdv A outer s H E hr=>
  (c8 (e9 (t8 (i5 i3 G_is_two hr rfl (a9 (qv 1) b9)) (C7 (Fl (i5 i3 G_is_side hr rfl (a9 (qI hr (qv 0) b7) (a9 (qv 1) b9))) (C7 (B7 (Y0 hr.units) P1 (qv 1) (qI hr (qv 0) b7) (by with_unfolding_all rfl))))))))
theorem zbh (F:Fun K "check_line" "check_line" Mk f fd) (T:Txt mg) (Z:Exs K mg u0 u1 u2 u3 u4 u5 u6) (G_is_two:Kk P w K mg base):FnOk P w K mg base (CX1 P w) 3 f fd ["cut","p"] (spD K mg false Aw 2):=
 fnD (k:=2) F zbb rfl rfl fun cdv A outer s H E hr=>
  (c8 (k8 (QW.pt (p9 (x8 (x9 (i5 i3 G_is_two hr rfl (a9 (qv 1) b9)))) (M9 (j9 (Ud hr.units) P1 (qv 1) (qI hr (qv 0) b7) (by with_unfolding_all rfl)))))
   (c8 (Jq (c:="NoLine") i3 PySem.F.excBase_ValueError rfl rfl Z.a_NoLine Z.q_NoLine (a9 Gn b9)))
   k9))
theorem xm (F:Fun K "rooms" "rooms" Jl f fd) (T:Txt mg) (Z:Exs K mg u0 u1 u2 u3 u4 u5 u6) (G_room_under:Xb P w K mg base):FnOk P w K mg base (CX1 P w) 3 f fd ["n","lines"] (spD K mg true Z7 2):=
 fnD (k:=2) F sc_rooms rfl rfl fun cdv A outer s H E hr=>
  (d6 (sA 2 sc_rooms.nd (g7 Cv Cr (QE.wk (y0 (a9 (E1 (a9 b7 (a9 (g7 E4 E6 (qv 0) b7) b9))) b9))) (QE.wk (M8 wo wm rfl T.list boot_list (a9 (qv 1) b9)))))
   (c8 (e9 (z7 (N9 rfl hr.units) O1 rfl T.sorted boot_sorted (a9 (QE.wk (Bo (F3 (caps:=["lines"]) (ix:=[1]) rfl rfl) (by decide +kernel) rfl (t0 (qv 2)) .nil (fun _ _ _=>(i5 Fq G_room_under hr rfl (a9 (qv 0) (a9 (qv 1) b9)))))) b9)))))
theorem z6a (F:Fun K "_law_are_lines" "_law_are_lines" Mt f fd) (T:Txt mg) (Z:Exs K mg u0 u1 u2 u3 u4 u5 u6) (G__law_is_pair:Xr P w K mg base):FnOk P w K mg base (CX1 P w) 3 f fd ["_law_n","_law_lines"] (spD K mg false Be 2):=
 fnD (k:=2) F sc__law_are_lines rfl rfl fun cdv A outer s H E hr=>
  (d6 (G6 PassesOwn.leaving rfl (y03 rfl T.enumerate (a9 (qv 1) b9)) (g_t rfl (w8 (i:=2) sc__law_are_lines.nd rfl (Or.inl rfl) (w8 (i:=3) sc__law_are_lines.nd rfl (Or.inl rfl) P6)))
    (d6 (k8 (QW.pt (p9 (x8 (x9 (i5 i3 G__law_is_pair hr rfl (a9 (qv 3) b9)))) (p9 (j9 K9 N6 (qI hr (qv 3) b7) b7 (g8 _)) (p9 (j9 R8 U5 (qI hr (qv 3) b7) (g7 E4 E6 (qv 0) b7) (g8 _)) (M9 (x8 (Oc b7 (Jt K9 N6 (g7 E4 E6 (qI hr (qv 3) b7) (qI hr (qv 3) b7)) (Sr K9 N6 (g7 E4 E6 (qv 0) b7))))))))))
    (c8 (e9 v5))
    k9)
   (c8 (G6 PassesOwn.leaving rfl (t0 (Fk qZ kQ (qv 1) Yu (Bp (qv 2)))) (g_t rfl (w8 (i:=4) sc__law_are_lines.nd rfl (Or.inl rfl) (w8 (i:=5) sc__law_are_lines.nd rfl (Or.inl rfl) P6)))
    (c8 (k8 (QW.pt (p9 (x8 (j9 (Nr hr.units) Pr (E1 (a9 (qv 4) (a9 (qv 5) b9))) (qv 3) (g8 _))) (M9 (Oc (qv 4) (Jt K9 N6 (qI hr (qv 3) b7) (Jt K9 N6 (qv 5) (Sr K9 N6 (qI hr (qv 3) b7))))))))
    (c8 (e9 v5))
    k9))))))
   (c8 (e9 v5)))
theorem zZ (F:Fun K "check_pair" "check_pair" Mj f fd) (T:Txt mg) (Z:Exs K mg u0 u1 u2 u3 u4 u5 u6) (G_has_pair:Vk P w K mg base):FnOk P w K mg base (CX1 P w) 4 f fd ["cut","p"] (spD K mg false Av 2):=
 fnD (k:=3) F zbc rfl rfl fun cdv A outer s H E hr=>
  (c8 (k8 (x8 (x9 (i5 i3 G_has_pair hr rfl (a9 (qv 0) (a9 (qv 1) b9)))))
   (c8 (Jq (c:="NoLine") i3 PySem.F.excBase_ValueError rfl rfl Z.a_NoLine Z.q_NoLine (a9 Gn b9)))
   k9))
theorem zI (F:Fun K "triangles" "triangles" Mb f fd) (T:Txt mg) (Z:Exs K mg u0 u1 u2 u3 u4 u5 u6) (G_rooms:Rm P w K mg base):FnOk P w K mg base (CX1 P w) 4 f fd ["cut"] (spD K mg true Ar 1):=
 fnD (k:=3) F zP rfl rfl fun cdv A outer s H E hr=>
  (c8 (e9 (i5 i3 G_rooms hr rfl (a9 (qI hr (qv 0) b7) (a9 (qI hr (qv 0) b7) b9)))))
theorem z5w (F:Fun K "_law_is_cutting" "_law_is_cutting" Mv f fd) (T:Txt mg) (Z:Exs K mg u0 u1 u2 u3 u4 u5 u6) (G__law_are_lines:Yc P w K mg base) (G__law_plain:El P w K mg base):FnOk P w K mg base (CX1 P w) 4 f fd ["_law_found","_law_n"] (spD K mg false Bg 2):=
 fnD (k:=3) F z5r rfl rfl fun cdv A outer s H E hr=>
  (d6 (k8 (QW.pt (p9 (x8 (x9 (G7 rfl T.isinstance boot_isinstance (qv 0) (E8 (v:=.ty "tuple") rfl T.tuple boot_tuple rfl)))) (p9 (tN hr (qL T.len (qv 0)) b7 (g8 _)) (p9 (x8 (x9 (i5 i3 G__law_plain hr rfl (a9 (qI hr (qv 0) b7) b9)))) (M9 (tN hr (qI hr (qv 0) b7) (qv 1) (g8 _)))))))
    (c8 (e9 v5))
    k9)
   (c8 (e9 (t8 (G7 rfl T.isinstance boot_isinstance (qI hr (qv 0) b7) (E8 (v:=.ty "tuple") rfl T.tuple boot_tuple rfl)) (t8 (B7 (G9 hr.units) G8 (qL T.len (qI hr (qv 0) b7)) (g7 E4 E6 (qv 1) b7) (g8 _)) (C7 (i5 i3 G__law_are_lines hr rfl (a9 (qv 1) (a9 (qI hr (qv 0) b7) b9)))))))))
theorem yk (F:Fun K "thirds" "thirds" Km f fd) (T:Txt mg) (Z:Exs K mg u0 u1 u2 u3 u4 u5 u6) (G_check_pair:Wz P w K mg base) (G_triangles:Wl P w K mg base):FnOk P w K mg base (CX1 P w) 5 f fd ["cut","p"] (spD K mg true V1 2):=
 fnD (k:=4) F sc_thirds rfl rfl fun cdv A outer s H E hr=>
  (d6 (Qf (i5 i3 G_check_pair hr rfl (a9 (qv 0) (a9 (qv 1) b9))))
   (d6 (Bn sc_thirds.nd (k:=2) rfl rfl (F3 (caps:=["p"]) (ix:=[1]) rfl rfl) (by decide +kernel) rfl (t0 (QE.wk (i5 i3 G_triangles hr rfl (a9 (qv 0) b9)))) (.one fun _ _ _=>(QW.pt (X9 (j9 (Y0 hr.units) P1 (qI hr (qv 1) b7) (qv 0) (by with_unfolding_all rfl)) (Cq (j9 (Y0 hr.units) P1 (qI hr (qv 1) b7) (qv 0) (by with_unfolding_all rfl)))))) (fun _ _ _=>(qv 0)))
   (c8 (e9 (z7 (N9 rfl hr.units) O1 rfl T.sorted boot_sorted (a9 (QE.wk (Bo (F3 (caps:=["p"]) (ix:=[1]) rfl rfl) (by decide +kernel) rfl (t0 (qv 2)) .nil (fun _ _ _=>(g7 E4 E6 (z7 (Oi rfl) Qi rfl T.sum boot_sum (a9 (qv 0) b9)) (z7 (Oi rfl) Qi rfl T.sum boot_sum (a9 (qv 1) b9)))))) b9))))))
theorem zY (F:Fun K "_law_table" "_law_table" Mg f fd) (T:Txt mg) (Z:Exs K mg u0 u1 u2 u3 u4 u5 u6) (G__law_is_cutting:Ye P w K mg base) (G__law_plain:El P w K mg base):FnOk P w K mg base (CX1 P w) 5 f fd ["_law_found","_law_n"] (spD K mg true Au 2):=
 fnD (k:=4) F sc__law_table rfl rfl fun cdv A outer s H E hr=>
  (d6 (sA 2 sc__law_table.nd Hm)
   (d6 (k8 (x8 (x9 (G7 rfl T.isinstance boot_isinstance (qv 0) (E8 (v:=.ty "list") rfl T.list boot_list rfl))))
    (c8 (Z0 (i:=2)))
    k9)
   (d6 (G6 PassesOwn.leaving rfl (Fj rfl T.enumerate (a9 (qv 0) b9)) (g_t rfl (w8 (i:=3) sc__law_table.nd rfl (Or.inl rfl) (w8 (i:=4) sc__law_table.nd rfl (Or.inl rfl) P6)))
    (d6 (k8 (QW.pt (p9 (x8 (x9 (G7 rfl T.isinstance boot_isinstance (qv 4) (E8 (v:=.ty "tuple") rfl T.tuple boot_tuple rfl)))) (p9 (tN hr (qL T.len (qv 4)) b7 (g8 _)) (p9 (x8 (x9 (i5 i3 G__law_is_cutting hr rfl (a9 (qI hr (qv 4) b7) (a9 (qv 1) b9))))) (M9 (x8 (x9 (i5 i3 G__law_plain hr rfl (a9 (qI hr (qv 4) b7) b9)))))))))
    (c8 (e9 Hm))
    k9)
   (d6 (k8 (QW.pt (X9 (j9 R8 U5 (qv 3) b7 (g8 _)) (Cq (x8 (j9 (Nr hr.units) Pr (qI hr (qI hr (qv 0) (g7 E4 E6 (qv 3) b7)) b7) (qI hr (qv 4) b7) (g8 _))))))
    (c8 (e9 Hm))
    k9)
   (c8 (kR hr.units (pw 2) (qI hr (qv 4) b7) (qI hr (qv 4) b7))))))
   (c8 (Z0 (i:=2))))))
theorem yj (F:Fun K "turned" "turned" Kl f fd) (T:Txt mg) (Z:Exs K mg u0 u1 u2 u3 u4 u5 u6) (G_check_line:Xa P w K mg base) (G_thirds:Tq P w K mg base):FnOk P w K mg base (CX1 P w) 6 f fd ["cut","line"] (spD K mg false D6 2):=
 fnD (k:=5) F sc_turned rfl rfl fun cdv A outer s H E hr=>
  (d6 (Qf (i5 i3 G_check_line hr rfl (a9 (qv 0) (a9 (qv 1) b9))))
   (d6 (sA 2 sc_turned.nd (M8 Q4 Q3 rfl T.tuple boot_tuple (a9 (QE.wk (i5 i3 G_thirds hr rfl (a9 (qv 0) (a9 (qv 1) b9)))) b9)))
   (d6 (Bn sc_turned.nd (k:=3) rfl rfl (F3 (caps:=["line"]) (ix:=[1]) rfl rfl) (by decide +kernel) rfl (t0 (qI hr (qv 0) b7)) (.one fun _ _ _=>(tN hr (qv 0) (qv 1) (g8 _))) (fun _ _ _=>(qv 0)))
   (c8 (e9 (E1 (a9 (E1 (a9 (qI hr (qv 0) b7) (a9 (M8 Q4 Q3 rfl T.tuple boot_tuple (a9 (QE.wk (z7 (N9 rfl hr.units) O1 rfl T.sorted boot_sorted (a9 (QE.wk (g7 Cv Cr (qv 3) (QE.wk (y0 (a9 (qv 2) b9))))) b9))) b9)) b9))) (a9 (qv 2) b9))))))))
theorem z8c (F:Fun K "front_behind" "front_behind" Mp f fd) (T:Txt mg) (Z:Exs K mg u0 u1 u2 u3 u4 u5 u6) (G_turned:Tp P w K mg base):FnOk P w K mg base (CX1 P w) 7 f fd ["front","found"] (spW K Ba):=
 fnW (k:=6) F sc_front_behind rfl rfl (by decide) fun cdv A outer s H E hr=>
  (Pk (Ni (i:=2) (by decide) sc_front_behind.nd rfl (Or.inl rfl) (y0 b9))
   (Pk (Nh PassesOwn.leaving rfl (t0 (qv 0)) (Ym (i:=3) (by decide) sc_front_behind.nd rfl (Or.inl rfl))
    (Hk (Nh PassesOwn.leaving rfl (t0 (qI hr (qv 3) b7)) (Ym (i:=4) (by decide) sc_front_behind.nd rfl (Or.inl rfl))
    (Rq (Ni (i:=5) (by decide) sc_front_behind.nd rfl (Or.inl rfl) (i5 Fq G_turned hr rfl (a9 (qv 3) (a9 (qv 4) b9))))
   (Hk (y2o (j9 (Ko hr.units) Hj (qI hr (qv 5) b7) (qv 1) (by with_unfolding_all rfl))
    (Rq (kB hr.units (pw 1) (qI hr (qv 5) b7) (E1 (a9 (g7 J2 J7 (qI hr (Fm (Ng hr.units) Pj (qv 1) (qv 3)) b7) b7) (a9 (qI hr (qv 5) b7) b9))))
   (Hk (y09 PySem.F.plainAttrs_list PySem.F.slot_list_append PySem.F.type_list_append Q7 U4 P9 (pw 2) (a9 (qI hr (qv 5) b7) b9))))
    kD))))))
   (y0b (i:=2))))
theorem zq (F:Fun K "steps_to" "steps_to" Lq f fd) (T:Txt mg) (Z:Exs K mg u0 u1 u2 u3 u4 u5 u6) (G_front_behind:Xq P w K mg base):FnOk P w K mg base (CX1 P w) 8 f fd ["cut"] (spD K mg true Ao 1):=
 fnD (k:=7) F sc_steps_to rfl rfl fun cdv A outer s H E hr=>
  (d6 (sA 1 sc_steps_to.nd (vM hr.units (qv 0) (E1 (a9 b7 (a9 jf b9)))))
   (d6 (sA 2 sc_steps_to.nd (y0 (a9 (qv 0) b9)))
   (d6 (Sn (n:=100000) PassesOwn.leaving (j9 R8 U5 (qL T.len (qv 2)) b7 (g8 _))
    (c8 (y0d (i:=2) (j:=1) sc_steps_to.nd rfl (Or.inl rfl) G_front_behind hr rfl (qv 2) (pw 1))))
   (c8 (Z0 (i:=1))))))
theorem zH (F:Fun K "distances" "distances" Ma f fd) (T:Txt mg) (Z:Exs K mg u0 u1 u2 u3 u4 u5 u6) (G_steps_to:Vj P w K mg base):FnOk P w K mg base (CX1 P w) 9 f fd ["cut"] (spD K mg true K1 1):=
 fnD (k:=8) F zO rfl rfl fun cdv A outer s H E hr=>
  (d6 (k8 (j9 R8 U5 (qI hr (qv 0) b7) b7 (g8 _))
    (c8 (Jq (c:="TooMany") i3 PySem.F.excBase_ValueError rfl rfl Z.a_TooMany Z.q_TooMany (a9 Gn b9)))
    k9)
   (c8 (e9 (z7 (N9 rfl hr.units) O1 rfl T.sorted boot_sorted (a9 (QE.wk (Yt (F3 (caps:=[]) (ix:=[]) rfl rfl) (by decide +kernel) rfl rfl (Rw (QE.wk (i5 i3 G_steps_to hr rfl (a9 (qv 0) b9)))) .nil (fun _ _ _=>(E1 (a9 (qv 0) (a9 (qI hr (qv 1) b7) b9)))))) b9)))))
theorem z8d (F:Fun K "_law_refused" "_law_refused" Mn f fd) (T:Txt mg) (Z:Exs K mg u0 u1 u2 u3 u4 u5 u6) (G__law_is_another:W4 P w K mg base "_law_is_another" ["_law_error"] (spL K false Fd 1)) (G_distances:Lw P w K mg base):FnOk P w K mg base (CX1 P w) 10 f fd ["_law_cut_here"] (spD K mg false Az 1):=
 fnD (k:=9) F sc__law_refused rfl rfl fun cdv A outer s H E hr=>
  (d6 (jb rfl rfl (qo (k:=knX) Z.kn G_distances hr rfl (a9 (qv 0) b9))
    (y2e (tb:=Eu) (i:=1) Z.t_FloorError (by decide) rfl sc__law_refused.nd rfl rfl (fun _=>(c8 (e9 (t8 (P0 (tb:=Ed) rfl T.isinstance boot_isinstance (qv 1) (U9 (v:=.ref u6) rfl Z.a_TooMany rfl) (.inl ⟨_,rfl,rfl⟩) Z.b_TooMany) (t8 (P0 (tb:=Et) rfl T.isinstance boot_isinstance (qv 1) (E8 (v:=.ty "ValueError") rfl T.ValueError PyProof.Rows.Boot.«ValueError» rfl) (.inr ⟨_,rfl,rfl⟩) Z.b_ValueError) (C7 (Qj (kJ G__law_is_another rfl hr.dpQ rfl (a9 (qv 1) b9))))))))) ja))
   (c8 (e9 v5)))
theorem kr (F:Fun K "law" "law" Gg f fd) (T:Txt mg) (Z:Exs K mg u0 u1 u2 u3 u4 u5 u6) (G__law_cut:Vl P w K mg base) (G__law_many:Wm P w K mg base) (G__law_pick:Wo P w K mg base) (G__law_places:Xk P w K mg base) (G__law_refused:Xp P w K mg base) (G__law_table:Wy P w K mg base) (G__law_turned:Xj P w K mg base) (G_distances:Lw P w K mg base):FnOk P w K mg base (CX1 P w) 11 f fd ["_law_script"] (spD K mg false S6 1):=
 fnD (k:=10) F sc_law rfl rfl fun cdv A outer s H E hr=>
  (d6 (sA 1 sc_law.nd (i5 i3 G__law_cut hr rfl (a9 (QE.wk (i5 i3 G__law_places hr rfl (a9 (i5 i3 G__law_many hr rfl (a9 (i5 i3 G__law_pick hr rfl (a9 (qv 0) (a9 b7 b9))) b9)) (a9 (QE.wk (Fk Ti So (qv 0) (Bp b7) Yu)) b9)))) b9)))
   (d6 (k8 (j9 R8 U5 (qI hr (qv 1) b7) b7 (g8 _))
    (c8 (e9 (i5 i3 G__law_refused hr rfl (a9 (qv 1) b9))))
    k9)
   (d6 (sA 2 sc_law.nd (i5 i3 G__law_table hr rfl (a9 (QE.wk (i5 i3 G_distances hr rfl (a9 (qv 1) b9))) (a9 (qI hr (qv 1) b7) b9))))
   (d6 (k8 (j9 (Ko hr.units) Hj (qv 1) (qv 2) (by with_unfolding_all rfl))
    (c8 (e9 v5))
    k9)
   (d6 (G6 PassesOwn.leaving rfl (Rw (qv 2)) (g_t rfl (w8 (i:=3) sc_law.nd rfl (Or.inl rfl) (w8 (i:=4) sc_law.nd rfl (Or.inl rfl) P6)))
    (d6 (sA 5 sc_law.nd (y0 b9))
   (d6 (G6 PassesOwn.leaving rfl (t0 (qI hr (qv 3) b7)) (g_n (i:=6) sc_law.nd rfl (Or.inl rfl))
    (d6 (sA 7 sc_law.nd (i5 i3 G__law_turned hr rfl (a9 (qv 3) (a9 (qv 6) b9))))
   (d6 (k8 (j9 (Ko hr.units) Hj (qv 7) (qv 2) (by with_unfolding_all rfl))
    (c8 (e9 v5))
    k9)
   (c8 (T4 PySem.F.plainAttrs_list PySem.F.slot_list_append PySem.F.type_list_append Q7 U4 P9 (pw 5) (a9 (g7 E4 E6 (Fm (Ng hr.units) Pj (qv 2) (qv 7)) (qv 4)) b9))))))
   (d6 (k8 (QW.pt (p9 (tN hr (B7 (G9 hr.units) G8 (qv 4) b7 (g8 _)) (B7 (G9 hr.units) G8 (qv 3) (qv 1) (g8 _)) (g8 _)) (M9 (x8 (x9 (z7 (jC rfl) qx rfl T.«all» boot_all (a9 (QE.wk (Bo (F3 (caps:=[]) (ix:=[]) rfl rfl) (by decide +kernel) rfl (t0 (qv 5)) .nil (fun _ _ _=>(B7 (Y0 hr.units) P1 (qv 0) (QE.wk (y0 (a9 (Bq Cm Cs b7) (a9 b7 (a9 b7 b9))))) (by with_unfolding_all rfl))))) b9)))))))
    (c8 (e9 v5))
    k9)
   (c8 (k8 (QW.pt (X9 (tN hr (qv 4) b7 (g8 _)) (Cq (j9 (Ud hr.units) P1 (Bq Cm Cs b7) (qv 5) (by with_unfolding_all rfl)))))
    (c8 (e9 v5))
    k9))))))
   (c8 (e9 v5)))))))
end
theorem all_mk {l:PySem.W.OpenLaw} {w:World} {K:Frag} {h:Heap} {mg:Str->Option Value} {fa:Addr} (X:K.In h) (G:h.Ns mainGlobals mg) (hfa:mg "law"=some (.ref fa))
  {f0 f1 f2 f3 f4 f5 f6 f7 f8 f9 f10 f11 f12 f13 f14 f15 f16 f17 f18 f19 f20 f21 f22 f23 f24 f25 f26 f27 f28:Addr}
  {u0 u1 u2 u3 u4 u5 u6:Addr}
  (A0:FnAt K "is_whole" Ls f0)
  (A1:FnAt K "is_side" Li f1)
  (A2:FnAt K "corner_behind" Ms f2)
  (A3:FnAt K "_law_pick" Lz f3)
  (A4:FnAt K "_law_plain" Mh f4)
  (A5:FnAt K "_law_places" Mm f5)
  (A6:FnAt K "_law_cut" Lp f6)
  (A7:FnAt K "_law_ends" Ly f7)
  (A8:FnAt K "_law_is_another" Mu f8)
  (A9:FnAt K "_law_many" Lx f9)
  (A10:FnAt K "is_two" Kn f10)
  (A11:FnAt K "room_under" Mi f11)
  (A12:FnAt K "_law_is_pair" Mo f12)
  (A13:FnAt K "_law_turned" Ml f13)
  (A14:FnAt K "has_pair" Lr f14)
  (A15:FnAt K "check_line" Mk f15)
  (A16:FnAt K "rooms" Jl f16)
  (A17:FnAt K "_law_are_lines" Mt f17)
  (A18:FnAt K "check_pair" Mj f18)
  (A19:FnAt K "triangles" Mb f19)
  (A20:FnAt K "_law_is_cutting" Mv f20)
  (A21:FnAt K "thirds" Km f21)
  (A22:FnAt K "_law_table" Mg f22)
  (A23:FnAt K "turned" Kl f23)
  (A24:FnAt K "front_behind" Mp f24)
  (A25:FnAt K "steps_to" Lq f25)
  (A26:FnAt K "distances" Ma f26)
  (A27:FnAt K "_law_refused" Mn f27)
  (A28:FnAt K "law" Gg f28)
  (T:Txt mg)
  (Z:Exs K mg u0 u1 u2 u3 u4 u5 u6) :
  ∃fd:FuncData,(∀(s:Shared) (v:Value),BindsTo s fd ⟨[v],[]⟩ [("_law_script",v)])/\∀base:Heap,K.In base->base.Ns mainGlobals mg->FnOk l.prog w K mg base (CX1 l.prog w) 11 fa fd ["_law_script"] (spL K false S6 1):=by
 refine kM X G hfa A28 (fun _ _ _ _ _ _ _ _=>.of_eq rfl) fun base kb nb fd F=>?_
 have G_is_whole:Vm l.prog w K mg base:=got X G A0 fun F=>zu F T Z 
 have G_is_side:Uo l.prog w K mg base:=got X G A1 fun F=>yU F T Z 
 have G_corner_behind:Xv l.prog w K mg base:=got X G A2 fun F=>z6u F T Z 
 have G__law_pick:Wo l.prog w K mg base:=got X G A3 fun F=>zL F T Z 
 have G__law_plain:El l.prog w K mg base:=got X G A4 fun F=>zbf F T Z 
 have G__law_places:Xk l.prog w K mg base:=got X G A5 fun F=>z8o F T Z 
 have G__law_cut:Vl l.prog w K mg base:=got X G A6 fun F=>zt F T Z 
 have G__law_ends:Wn l.prog w K mg base:=got X G A7 fun F=>zK F T Z 
 have G__law_is_another:W4 l.prog w K mg base "_law_is_another" ["_law_error"] (spL K false Fd 1):=y2k X G A8 fun F=>z5v F T Z 
 have G__law_many:Wm l.prog w K mg base:=got X G A9 fun F=>zJ F T Z 
 have G_is_two:Kk l.prog w K mg base:=got X G A10 fun F=>yl F T Z G_is_whole
 have G_room_under:Xb l.prog w K mg base:=got X G A11 fun F=>zbg F T Z G_corner_behind
 have G__law_is_pair:Xr l.prog w K mg base:=got X G A12 fun F=>z8b F T Z G__law_plain
 have G__law_turned:Xj l.prog w K mg base:=got X G A13 fun F=>z8p F T Z G__law_ends
 have G_has_pair:Vk l.prog w K mg base:=got X G A14 fun F=>zr F T Z G_is_side G_is_two
 have G_check_line:Xa l.prog w K mg base:=got X G A15 fun F=>zbh F T Z G_is_two
 have G_rooms:Rm l.prog w K mg base:=got X G A16 fun F=>xm F T Z G_room_under
 have G__law_are_lines:Yc l.prog w K mg base:=got X G A17 fun F=>z6a F T Z G__law_is_pair
 have G_check_pair:Wz l.prog w K mg base:=got X G A18 fun F=>zZ F T Z G_has_pair
 have G_triangles:Wl l.prog w K mg base:=got X G A19 fun F=>zI F T Z G_rooms
 have G__law_is_cutting:Ye l.prog w K mg base:=got X G A20 fun F=>z5w F T Z G__law_are_lines G__law_plain
 have G_thirds:Tq l.prog w K mg base:=got X G A21 fun F=>yk F T Z G_check_pair G_triangles
 have G__law_table:Wy l.prog w K mg base:=got X G A22 fun F=>zY F T Z G__law_is_cutting G__law_plain
 have G_turned:Tp l.prog w K mg base:=got X G A23 fun F=>yj F T Z G_check_line G_thirds
 have G_front_behind:Xq l.prog w K mg base:=got X G A24 fun F=>z8c F T Z G_turned
 have G_steps_to:Vj l.prog w K mg base:=got X G A25 fun F=>zq F T Z G_front_behind
 have G_distances:Lw l.prog w K mg base:=got X G A26 fun F=>zH F T Z G_steps_to
 have G__law_refused:Xp l.prog w K mg base:=got X G A27 fun F=>z8d F T Z G__law_is_another G_distances
 exact (kr F T Z G__law_cut G__law_many G__law_pick G__law_places G__law_refused G__law_table G__law_turned G_distances).imp fun _ _ _ _ z=>z.spD
abbrev kO (n:String) (t1:Nat) (q:String) (t2 t3:Nat) (a b c d e:Int) (r1:Nat) (g:Int) (r2 r3 r4 r5:Nat) (k l:Int) (t4:Nat):Obj:=⟨.type "code",none,.fields [vs n t1,vs q t2,vs "/claim/cut.py" t3,.int a 0,.int b 0,.int c 0,.int d 0,.int e 0,.ref r1,.bool true,.int g 0,.ref r2,.none,.ref r3,.ref r4,.ref r5,.int k 0,.int l 0,vs "/claim/cut.py" t4].toArray,#[]⟩
abbrev kCo (n:String) (t1:Nat) (q:String) (t2 t3:Nat) (a b c d e:Int) (r1:Nat) (g:Int) (r2 r5:Nat) (k l:Int) (t4:Nat):Obj:=⟨.type "code",none,.fields [vs n t1,vs q t2,vs "/claim/cut.py" t3,.int a 0,.int b 0,.int c 0,.int d 0,.int e 0,.ref r1,.bool true,.int g 0,.ref r2,.none,.none,.none,.ref r5,.int k 0,.int l 0,vs "/claim/cut.py" t4].toArray,#[]⟩
abbrev fO (i:Nat) (n m:String) (t r:Nat):Obj:=oF (top i) n n .none .none .none (vs m t) none (.ref r) .none
abbrev cO (n:String) (b a ns r t1 t2:Nat):Obj:=⟨.type "type",none,.cls { name:=Str.ofString n,bases:=[.ref b],mro:=[.ref a,.ref b,.type "ValueError",.type "Exception",.type "BaseException",.type "object"],ns:=ns,qualname:=Str.ofString n,hasDict:=true,slotNames:=[],subclasses:=[],abstract:=false,collection:=none,hasDel:=false },#[some (.ref r),none,some (vs n t1),some (vs n t2),some (.builtin "ValueError.__new__"),some (.bool true)]⟩
noncomputable def K:Params->Frag:=fun P=>
 (nat_lit 2,⟨.none,none,(.dict [].toArray 0),#[]⟩) ::
 (nat_lit 3,oD [en P "__name__" 165 (vs "law_friezeyard_k73_whole_distances" 428),en P "__doc__" 166 .none,en P "__package__" 167 .none,en P "__loader__" 168 (.builtin "__main__.__loader__#opaque"),en P "__spec__" 169 .none,en P "__annotations__" 170 (.ref 6),en P "__builtins__" 171 (.ref 4),en P "__file__" 173 (vs "/claim/cut.py" 172),en P "__cached__" 174 .none,en P "FloorError" 206 (.ref 24),en P "NoFloor" 222 (.ref 37),en P "NoLine" 238 (.ref 49),en P "NoCorner" 254 (.ref 61),en P "TooMany" 270 (.ref 73),en P "NotAlike" 286 (.ref 85),en P "NoPlace" 302 (.ref 97),en P "is_whole" 311 (.ref 106),en P "is_side" 321 (.ref 113),en P "is_two" 330 (.ref 120),en P "has_pair" 338 (.ref 127),en P "check_line" 346 (.ref 134),en P "check_pair" 354 (.ref 141),en P "rooms" 362 (.ref 146),en P "room_under" 371 (.ref 153),en P "corner_behind" 377 (.ref 158),en P "triangles" 384 (.ref 165),en P "thirds" 390 (.ref 170),en P "turned" 398 (.ref 175),en P "distances" 406 (.ref 180),en P "steps_to" 415 (.ref 187),en P "front_behind" 427 (.ref 194),en P "_law_pick" 437 (.ref 201),en P "_law_plain" 444 (.ref 208),en P "_law_is_pair" 451 (.ref 215),en P "_law_places" 462 (.ref 222),en P "_law_cut" 468 (.ref 227),en P "_law_are_lines" 480 (.ref 234),en P "_law_is_cutting" 488 (.ref 241),en P "_law_ends" 499 (.ref 248),en P "_law_turned" 505 (.ref 253),en P "_law_table" 516 (.ref 260),en P "_law_is_another" 523 (.ref 267),en P "_law_refused" 531 (.ref 274),en P "_law_many" 538 (.ref 281),en P "law" 544 (.ref 286)] 45) ::
 (nat_lit 15,oT [(.type "ValueError")]) ::
 (nat_lit 22,oT []) ::
 (nat_lit 23,oD [en P "__module__" 196 (vs "friezeyard.errors" 187),en P "__firstlineno__" 200 (.int 2 199),en P "__static_attributes__" 201 (.ref 22),en P "__weakref__" 203 (.ref 25),en P "__doc__" 204 .none] 3) ::
 (nat_lit 24,⟨(.type "type"),none,(.cls { name:=Str.ofString "FloorError",bases:=[(.type "ValueError")],mro:=[(.ref 24),(.type "ValueError"),(.type "Exception"),(.type "BaseException"),(.type "object")],ns:=23,qualname:=Str.ofString "FloorError",hasDict:=true,slotNames:=[],subclasses:=[(.ref 37),(.ref 49),(.ref 61),(.ref 73),(.ref 85),(.ref 97)],abstract:=false,collection:=none,hasDel:=false }),#[some (.ref 15),none,some (vs "FloorError" 189),some (vs "FloorError" 197),some (.builtin "ValueError.__new__"),some (.bool true)]⟩) ::
 (nat_lit 25,⟨(.type "getset_descriptor"),none,(.fields [(vs "__weakref__" 202),(.ref 24),(.builtin "ExceptionGroup.__weakref__"),.none].toArray),#[]⟩) ::
 (nat_lit 28,oT [(.ref 24)]) ::
 (nat_lit 35,oT []) ::
 (nat_lit 36,oD [en P "__module__" 214 (vs "friezeyard.errors" 187),en P "__firstlineno__" 218 (.int 4 217),en P "__static_attributes__" 219 (.ref 35),en P "__doc__" 220 .none] 2) ::
 (nat_lit 37,(cO "NoFloor" 24 37 36 28 207 215)) ::
 (nat_lit 40,oT [(.ref 24)]) ::
 (nat_lit 47,oT []) ::
 (nat_lit 48,oD [en P "__module__" 230 (vs "friezeyard.errors" 187),en P "__firstlineno__" 234 (.int 6 233),en P "__static_attributes__" 235 (.ref 47),en P "__doc__" 236 .none] 2) ::
 (nat_lit 49,(cO "NoLine" 24 49 48 40 223 231)) ::
 (nat_lit 52,oT [(.ref 24)]) ::
 (nat_lit 59,oT []) ::
 (nat_lit 60,oD [en P "__module__" 246 (vs "friezeyard.errors" 187),en P "__firstlineno__" 250 (.int 8 249),en P "__static_attributes__" 251 (.ref 59),en P "__doc__" 252 .none] 2) ::
 (nat_lit 61,(cO "NoCorner" 24 61 60 52 239 247)) ::
 (nat_lit 64,oT [(.ref 24)]) ::
 (nat_lit 71,oT []) ::
 (nat_lit 72,oD [en P "__module__" 262 (vs "friezeyard.errors" 187),en P "__firstlineno__" 266 (.int 10 265),en P "__static_attributes__" 267 (.ref 71),en P "__doc__" 268 .none] 2) ::
 (nat_lit 73,(cO "TooMany" 24 73 72 64 255 263)) ::
 (nat_lit 76,oT [(.ref 24)]) ::
 (nat_lit 83,oT []) ::
 (nat_lit 84,oD [en P "__module__" 278 (vs "friezeyard.errors" 187),en P "__firstlineno__" 282 (.int 12 281),en P "__static_attributes__" 283 (.ref 83),en P "__doc__" 284 .none] 2) ::
 (nat_lit 85,(cO "NotAlike" 24 85 84 76 271 279)) ::
 (nat_lit 88,oT [(.ref 24)]) ::
 (nat_lit 95,oT []) ::
 (nat_lit 96,oD [en P "__module__" 294 (vs "friezeyard.errors" 187),en P "__firstlineno__" 298 (.int 14 297),en P "__static_attributes__" 299 (.ref 95),en P "__doc__" 300 .none] 2) ::
 (nat_lit 97,(cO "NoPlace" 24 97 96 88 287 295)) ::
 (nat_lit 100,oT []) ::
 (nat_lit 102,oT [(vs "thing" 308)]) ::
 (nat_lit 103,oT []) ::
 (nat_lit 105,(kO "is_whole" 305 "is_whole" 306 307 17 1 0 0 3 100 181 101 102 103 104 309 17 310)) ::
 (nat_lit 106,(fO 9 "is_whole" "friezeyard.pairs" 303 105)) ::
 (nat_lit 107,oT []) ::
 (nat_lit 109,oT [(vs "n" 315),(vs "p" 316),(vs "a" 317),(vs "b" 318)]) ::
 (nat_lit 110,oT []) ::
 (nat_lit 112,(kO "is_side" 312 "is_side" 313 314 19 2 0 0 3 107 181 108 109 110 111 319 19 320)) ::
 (nat_lit 113,(fO 10 "is_side" "friezeyard.pairs" 303 112)) ::
 (nat_lit 114,oT []) ::
 (nat_lit 116,oT [(vs "thing" 327)]) ::
 (nat_lit 117,oT []) ::
 (nat_lit 119,(kO "is_two" 324 "is_two" 325 326 26 1 0 0 3 114 181 115 116 117 118 328 26 329)) ::
 (nat_lit 120,(fO 12 "is_two" "friezeyard.common" 322 119)) ::
 (nat_lit 121,oT []) ::
 (nat_lit 123,oT [(vs "cut" 334),(vs "p" 335)]) ::
 (nat_lit 124,oT []) ::
 (nat_lit 126,(kO "has_pair" 331 "has_pair" 332 333 28 2 0 0 3 121 181 122 123 124 125 336 28 337)) ::
 (nat_lit 127,(fO 13 "has_pair" "friezeyard.common" 322 126)) ::
 (nat_lit 128,oT []) ::
 (nat_lit 130,oT [(vs "cut" 342),(vs "p" 343)]) ::
 (nat_lit 131,oT []) ::
 (nat_lit 133,(kO "check_line" 339 "check_line" 340 341 30 2 0 0 3 128 181 129 130 131 132 344 30 345)) ::
 (nat_lit 134,(fO 14 "check_line" "friezeyard.common" 322 133)) ::
 (nat_lit 135,oT []) ::
 (nat_lit 137,oT [(vs "cut" 350),(vs "p" 351)]) ::
 (nat_lit 138,oT []) ::
 (nat_lit 140,(kO "check_pair" 347 "check_pair" 348 349 33 2 0 0 3 135 181 136 137 138 139 352 33 353)) ::
 (nat_lit 141,(fO 15 "check_pair" "friezeyard.common" 322 140)) ::
 (nat_lit 142,oT []) ::
 (nat_lit 145,(kCo "rooms" 357 "rooms" 358 359 37 2 0 0 3 142 181 143 144 360 37 361)) ::
 (nat_lit 146,(fO 17 "rooms" "friezeyard.rooms" 355 145)) ::
 (nat_lit 147,oT []) ::
 (nat_lit 149,oT [(vs "top" 366),(vs "lines" 367),(vs "room" 368)]) ::
 (nat_lit 150,oT []) ::
 (nat_lit 152,(kO "room_under" 363 "room_under" 364 365 40 2 0 0 3 147 181 148 149 150 151 369 40 370)) ::
 (nat_lit 153,(fO 18 "room_under" "friezeyard.rooms" 355 152)) ::
 (nat_lit 154,oT []) ::
 (nat_lit 157,(kCo "corner_behind" 372 "corner_behind" 373 374 45 3 0 0 3 154 181 155 156 375 45 376)) ::
 (nat_lit 158,(fO 19 "corner_behind" "friezeyard.rooms" 355 157)) ::
 (nat_lit 159,oT []) ::
 (nat_lit 161,oT [(vs "cut" 381)]) ::
 (nat_lit 162,oT []) ::
 (nat_lit 164,(kO "triangles" 378 "triangles" 379 380 48 1 0 0 3 159 181 160 161 162 163 382 48 383)) ::
 (nat_lit 165,(fO 20 "triangles" "friezeyard.rooms" 355 164)) ::
 (nat_lit 166,oT []) ::
 (nat_lit 169,(kCo "thirds" 385 "thirds" 386 387 50 2 0 0 3 166 181 167 168 388 50 389)) ::
 (nat_lit 170,(fO 21 "thirds" "friezeyard.rooms" 355 169)) ::
 (nat_lit 171,oT []) ::
 (nat_lit 174,(kCo "turned" 393 "turned" 394 395 55 2 0 0 3 171 181 172 173 396 55 397)) ::
 (nat_lit 175,(fO 23 "turned" "friezeyard.turns" 391 174)) ::
 (nat_lit 176,oT []) ::
 (nat_lit 179,(kCo "distances" 401 "distances" 402 403 61 1 0 0 3 176 181 177 178 404 61 405)) ::
 (nat_lit 180,(fO 25 "distances" "friezeyard.ways" 399 179)) ::
 (nat_lit 181,oT []) ::
 (nat_lit 183,oT [(vs "cut" 410),(vs "found" 411),(vs "front" 412)]) ::
 (nat_lit 184,oT []) ::
 (nat_lit 186,(kO "steps_to" 407 "steps_to" 408 409 65 1 0 0 3 181 181 182 183 184 185 413 65 414)) ::
 (nat_lit 187,(fO 26 "steps_to" "friezeyard.ways" 399 186)) ::
 (nat_lit 188,oT []) ::
 (nat_lit 190,oT [(vs "front" 419),(vs "found" 420),(vs "behind" 421),(vs "cut" 422),(vs "line" 423),(vs "step" 424)]) ::
 (nat_lit 191,oT []) ::
 (nat_lit 193,(kO "front_behind" 416 "front_behind" 417 418 71 2 0 0 3 188 181 189 190 191 192 425 71 426)) ::
 (nat_lit 194,(fO 27 "front_behind" "friezeyard.ways" 399 193)) ::
 (nat_lit 195,oT []) ::
 (nat_lit 197,oT [(vs "_law_script" 433),(vs "_law_k" 434)]) ::
 (nat_lit 198,oT []) ::
 (nat_lit 200,(kO "_law_pick" 430 "_law_pick" 431 432 81 2 0 0 3 195 181 196 197 198 199 435 81 436)) ::
 (nat_lit 201,(fO 29 "_law_pick" "law_friezeyard_k73_whole_distances" 428 200)) ::
 (nat_lit 202,oT []) ::
 (nat_lit 204,oT [(vs "_law_found" 441)]) ::
 (nat_lit 205,oT []) ::
 (nat_lit 207,(kO "_law_plain" 438 "_law_plain" 439 440 83 1 0 0 3 202 181 203 204 205 206 442 83 443)) ::
 (nat_lit 208,(fO 30 "_law_plain" "law_friezeyard_k73_whole_distances" 428 207)) ::
 (nat_lit 209,oT []) ::
 (nat_lit 211,oT [(vs "_law_found" 448)]) ::
 (nat_lit 212,oT []) ::
 (nat_lit 214,(kO "_law_is_pair" 445 "_law_is_pair" 446 447 85 1 0 0 3 209 181 210 211 212 213 449 85 450)) ::
 (nat_lit 215,(fO 31 "_law_is_pair" "law_friezeyard_k73_whole_distances" 428 214)) ::
 (nat_lit 216,oT []) ::
 (nat_lit 218,oT [(vs "_law_many_here" 455),(vs "_law_cells" 456),(vs "_law_found" 457),(vs "_law_k" 458),(vs "_law_one" 459)]) ::
 (nat_lit 219,oT []) ::
 (nat_lit 221,(kO "_law_places" 452 "_law_places" 453 454 87 2 0 0 3 216 181 217 218 219 220 460 87 461)) ::
 (nat_lit 222,(fO 32 "_law_places" "law_friezeyard_k73_whole_distances" 428 221)) ::
 (nat_lit 223,oT []) ::
 (nat_lit 226,(kCo "_law_cut" 463 "_law_cut" 464 465 93 1 0 0 3 223 181 224 225 466 93 467)) ::
 (nat_lit 227,(fO 33 "_law_cut" "law_friezeyard_k73_whole_distances" 428 226)) ::
 (nat_lit 228,oT []) ::
 (nat_lit 230,oT [(vs "_law_n" 472),(vs "_law_lines" 473),(vs "_law_k" 474),(vs "_law_line" 475),(vs "_law_a" 476),(vs "_law_b" 477)]) ::
 (nat_lit 231,oT []) ::
 (nat_lit 233,(kO "_law_are_lines" 469 "_law_are_lines" 470 471 104 2 0 0 3 228 181 229 230 231 232 478 104 479)) ::
 (nat_lit 234,(fO 34 "_law_are_lines" "law_friezeyard_k73_whole_distances" 428 233)) ::
 (nat_lit 235,oT []) ::
 (nat_lit 237,oT [(vs "_law_found" 484),(vs "_law_n" 485)]) ::
 (nat_lit 238,oT []) ::
 (nat_lit 240,(kO "_law_is_cutting" 481 "_law_is_cutting" 482 483 112 2 0 0 3 235 181 236 237 238 239 486 112 487)) ::
 (nat_lit 241,(fO 35 "_law_is_cutting" "law_friezeyard_k73_whole_distances" 428 240)) ::
 (nat_lit 242,oT []) ::
 (nat_lit 244,oT [(vs "_law_cut_here" 492),(vs "_law_corner" 493),(vs "_law_found" 494),(vs "_law_a" 495),(vs "_law_b" 496)]) ::
 (nat_lit 245,oT []) ::
 (nat_lit 247,(kO "_law_ends" 489 "_law_ends" 490 491 116 2 0 0 3 242 181 243 244 245 246 497 116 498)) ::
 (nat_lit 248,(fO 36 "_law_ends" "law_friezeyard_k73_whole_distances" 428 247)) ::
 (nat_lit 249,oT []) ::
 (nat_lit 252,(kCo "_law_turned" 500 "_law_turned" 501 502 124 2 0 0 3 249 181 250 251 503 124 504)) ::
 (nat_lit 253,(fO 37 "_law_turned" "law_friezeyard_k73_whole_distances" 428 252)) ::
 (nat_lit 254,oT []) ::
 (nat_lit 256,oT [(vs "_law_found" 509),(vs "_law_n" 510),(vs "_law_far" 511),(vs "_law_k" 512),(vs "_law_row" 513)]) ::
 (nat_lit 257,oT []) ::
 (nat_lit 259,(kO "_law_table" 506 "_law_table" 507 508 129 2 0 0 3 254 181 255 256 257 258 514 129 515)) ::
 (nat_lit 260,(fO 38 "_law_table" "law_friezeyard_k73_whole_distances" 428 259)) ::
 (nat_lit 261,oT []) ::
 (nat_lit 263,oT [(vs "_law_error" 520)]) ::
 (nat_lit 264,oT []) ::
 (nat_lit 266,(kO "_law_is_another" 517 "_law_is_another" 518 519 140 1 0 0 3 261 181 262 263 264 265 521 140 522)) ::
 (nat_lit 267,(fO 39 "_law_is_another" "law_friezeyard_k73_whole_distances" 428 266)) ::
 (nat_lit 268,oT []) ::
 (nat_lit 270,oT [(vs "_law_cut_here" 527),(vs "e" 528)]) ::
 (nat_lit 271,oT []) ::
 (nat_lit 273,(kO "_law_refused" 524 "_law_refused" 525 526 144 1 0 0 3 268 181 269 270 271 272 529 144 530)) ::
 (nat_lit 274,(fO 40 "_law_refused" "law_friezeyard_k73_whole_distances" 428 273)) ::
 (nat_lit 275,oT []) ::
 (nat_lit 277,oT [(vs "_law_cell" 535)]) ::
 (nat_lit 278,oT []) ::
 (nat_lit 280,(kO "_law_many" 532 "_law_many" 533 534 150 1 0 0 3 275 181 276 277 278 279 536 150 537)) ::
 (nat_lit 281,(fO 41 "_law_many" "law_friezeyard_k73_whole_distances" 428 280)) ::
 (nat_lit 282,oT []) ::
 (nat_lit 285,(kCo "law" 539 "law" 540 541 156 1 0 0 3 282 181 283 284 542 156 543)) ::
 (nat_lit 286,(fO 42 "law" "law_friezeyard_k73_whole_distances" 428 285))::[]
noncomputable def places:List Addr:=[2,3,15,22,23,24,25,28,35,36,37,40,47,48,49,52,59,60,61,64,71,72,73,76,83,84,85,88,95,96,97,100,102,103,105,106,107,109,110,112,113,114,116,117,119,120,121,123,124,126,127,128,130,131,133,134,135,137,138,140,141,142,145,146,147,149,150,152,153,154,157,158,159,161,162,164,165,166,169,170,171,174,175,176,179,180,181,183,184,186,187,188,190,191,193,194,195,197,198,200,201,202,204,205,207,208,209,211,212,214,215,216,218,219,221,222,223,226,227,228,230,231,233,234,235,237,238,240,241,242,244,245,247,248,249,252,253,254,256,257,259,260,261,263,264,266,267,268,270,271,273,274,275,277,278,280,281,282,285,286]
theorem xl:∀P,places=(K P).map (·.1):=fun _=>by kernel_rfl
def hook:PySem.W.Hook:=PySem.W.kHook K places xl
noncomputable def q:Program:=PySem.W.view PySem.Challenge.pw_friezeyard_k73_whole_distances [1,2,3,4,5,6,7,9,10,12,13,14,15,17,18,19,20,21,23,25,26,27,29,30,31,32,33,34,35,36,37,38,39,40,41,42]
def xtH (s:Shared):Bool:=PySem.W.xlAt q [] s&&PySem.W.recOk (PySem.W.RowW.records PySem.Challenge.rw_friezeyard_k73_whole_distances.row.toRowW) s
def out (w:World) (os:OsState):=outAt PySem.Challenge.pw_friezeyard_k73_whole_distances q [] xtH (fun s=>places.map s.heap.get?) 4884 w os
def good:=PySem.W.openGood q []
example:((fun (_:Params->Obj) (_:Str)=>true) PySem.W.boot_o_0 (Str.ofString "dull"))=true:=by k_qdec
lay_quick out good
theorem kq:∀w os,out w os=some (true,good,(K w.params).map fun p=>some p.2):=fun w os=>(congrFun (congrFun PySem.W.Fast.te4896636306512896925 w) os).trans (by rw [PySem.W.Fast.te8609698364800973741];kernel_rfl)
theorem left:PySem.W.LeftO PySem.Challenge.pw_friezeyard_k73_whole_distances q [] xtH (PySem.W.Hook.obs hook) (PySem.W.Hook.val hook) 4884:=vK (by kernel_rfl) (by kernel_rfl) (fun _=>by kernel_rfl) kq
end K73
namespace K73
open L2 Bd Cu
local macro_rules | `(tactic| walk_at "dz")=>do
 let a:=("qc,wV,zzc,zue,zud,N4,sNx,C5,G4,r8,J3,y8,zuf,zqa,zu4,zu5,zu6,zu7,zq8,zu9,zua,zub,zuc,zq9,Jh,zzd,zze,zzf,Gz,Gy,zug,Jg,Kr,zqb,zuh,zuw,zzs,zzt,zzu,zux,zqf,zqg,zm2,zm3,Vi,zut,zj4,zui,zuj,Um,zqc,S5,Ji,Option.bind_some,Bool.and_true,Bool.true_and,zzg,zzh,zzi,zzj,y2g,y2h,eC,eOp,eUn,b8,a8,e8,eCB,v8,o8,eSl,oSo,oNo,L5,bOr,o7,c9,m7,eOr,X2,Z6,U7,p7,iL,zqh,zqi,zqe,L2.R.bind_ok,L2.R.of_some,E5,C4,G3,dLe,O7,dGe,zzk,S4,zzl,znt,zuk,zul,zum,Jf,Je,wU,zun,zzn,zzr,zzx,zv4,zqj,zo,zm5,zuv,zv7,zv8,zv9,zva,zzy,zzz,Z5,zzm,zuo,zup,zqd,zuq,zur,Sc,zus,Jd,List.map_cons,List.map_nil,List.length_cons,List.length_nil,List.cons_append,List.nil_append,List.replicate_succ,List.replicate_zero,List.getElem?_cons_zero,List.getElem?_cons_succ,List.set_cons_zero,List.set_cons_succ,Option.map_some,Option.getD_some,if_true,if_false,Bool.false_eq_true,Bool.not_true,Bool.not_false,Bool.and_false,Bool.false_and,Bool.or_true,Bool.true_or,Bool.or_false,Bool.false_or,Nat.reduceAdd,Nat.reduceLeDiff,Nat.reduceEqDiff,reduceCtorEq,decide_true,decide_false,Int.reduceEq".splitOn ",").toArray.map fun s=>Lean.mkIdent s.toName
 `(tactic| try simp (implicitDefEqProofs:=false) only [$[$a:term],*])
theorem Dt {α:Type} (ls:List α) (f:α->D) (n:Nat) (hn:n<=20) (h1:∀x,(f x).oi=true) (h2:∀x,(f x).dep<=n) (h3:∀x y,(d8 (f x) (f y)).isSome=true) (h4:((ls.map f).all isI||(ls.map f).all F5||(ls.map f).all K5)=true):p8 [.lst (ls.map f)]=some (.lst (o9 (ls.map f))):=by
 have ok:Z9 (ls.map f)=true:=by unfold Z9;rw [J5 _ _ h1,decide_eq_true (Nat.le_trans (U8 ls f n h2) hn),U2 ls f (fun d=>(ls.map f).all fun e=>(d8 d e).isSome) (fun x=>U2 _ _ _ fun y=>h3 x y),h4];rfl
 simp only [p8,ok,if_true]
theorem Lh (ls:List P2) (_:ls.length<64):p8 [.lst (ls.map T2)]=some (.lst ((so2 ls).map T2)):=by rw [Dt ls T2 1 (by decide) O9 U1 Pw (by rw [U2 ls T2 F5 fun _=>rfl,Bool.or_true,Bool.true_or]),Ab]
theorem yi (ls:List P3) (_:ls.length<64):p8 [.lst (ls.map T3)]=some (.lst ((so3 ls).map T3)):=by rw [Dt ls T3 1 (by decide) Nu qa kY (by rw [U2 ls T3 F5 fun _=>rfl,Bool.or_true,Bool.true_or]),Jp]
theorem Kj (ls:List Int) (_:ls.length<64):p8 [L ls]=some (L (soI ls)):=by unfold L;rw [Dt ls D.int 0 (by decide) Fg (fun _=>by simp [D.dep]) (fun _ _=>rfl) (by rw [U2 ls D.int isI fun _=>rfl];rfl),Di]
theorem ko (d:Int) (ns:List Int):S9 [L ns,.int d]=some (.int (mxD d ns)):=by simp only [L,S9,Wc,Option.map_some]
theorem xk (c:Int) (p:P2) (ls:List P2) (hl:ls.length<=1000):Bc [.int c,T2 p,.tup (ls.map T2)]=.ok (.int (mxD (c+1) (ends c p ls))):=by
 unfold Bc Yb;walk_at "dz";rw [ξ (by rw [List.length_map];lia),Am (en:=T2) (bs:=fun l=>[T2 l]) (p:=pk c p) (g:=fun l=>D.int l.2) ls (fun x _=>rfl) (fun l _=>by
  unfold Yi;simp only [T2];walk_at "dz";rfl) (fun l _ _=>by
  unfold Yh;simp only [T2];walk_at "dz")]
 simp only [R.bind_ok];rw [show D.lst ((ls.filter (pk c p)).map fun l=>D.int l.2)=L (ends c p ls) by unfold L ends;rw [List.map_map];rfl];walk_at "dz";rw [ko];walk_at "dz"
theorem Dr (t:DE->R Bool) (g:DS->SR) (n:Nat) (ρ:DS):E7 t g (n+1) ρ=(t (see ρ)).toS fun b=>if b=true then (g ρ).itr (E7 t g n) else .nx ρ:=by rw [E7];congr 1
theorem Pd (xs:List Int) (v:Int):dIx (L (xs++[v])) (.int (-1))=some (.int v):=by
 have:(xs++[v]).map D.int=xs.map D.int++[D.int v]:=by simp
 simp only [L,dIx,dOr,z8,this,yb]
theorem Jk (ls:List P2) (p:P2) (xs:List Int) (v:Int):Ez [some (T2 p),some (.tup (ls.map T2)),some (L (xs++[v]))]=.ok (decide (v<p.2)):=by unfold Ez;simp only [T2];walk_at "dz";rw [Pd];walk_at "dz"
theorem Rl (ls:List P2) (hl:ls.length<=1000) (p:P2) (xs:List Int) (v:Int) (hx:xs.length<1000):Ey [.im (T2 p),.im (.tup (ls.map T2)),.ow (L (xs++[v]))]=.nx [.im (T2 p),.im (.tup (ls.map T2)),.ow (L (xs++[v]++[mxD (v+1) (ends v p ls)]))]:=by unfold Ey;walk_at "dz";rw [Pd];walk_at "dz";rw [xk _ _ _ hl];walk_at "dz";rw [Ci (by simp;lia)];walk_at "dz"
theorem vH {n:Int} {ls ls':List P2} {T:List P3} (I:CInv n ls T) (p:ls'.Perm ls) (hl:ls'.length<=1000) (a c b:Int) (h:(a,c,b)∈T) :
  Ax [T2 (a,b),.tup (ls'.map T2)]=.ok (T3 (a,c,b)):=by
 obtain ⟨g1,g2,g3,g4,_⟩:=I.tri a c b h
 unfold Ax Xg
 walk_at "dz"
 have w:P7 1000 Ez Ey [.im (T2 (a,b)),.im (.tup (ls'.map T2)),.ow (L [a])]=.nx [.im (T2 (a,b)),.im (.tup (ls'.map T2)),.ow (L [a,c,b])]:=by have t1:=Jk ls' (a,b) [] a;have t2:=Jk ls' (a,b) [a] c;have t3:=Jk ls' (a,b) [a,c] b;have b1:=Rl ls' hl (a,b) [] a (by simp);have b2:=Rl ls' hl (a,b) [a] c (by simp);rw [I.beh1 p h] at b1;rw [I.beh2 p h] at b2;simp only [List.nil_append,List.cons_append] at t1 t2 t3 b1 b2;unfold P7;rw [show (1000:Nat)=997+1+1+1 from rfl,Dr];simp only [Gy,Jg,Kr,Gz];rw [t1,y8,decide_eq_true (show a<b by omega),ξ rfl,b1,Jd,Dr];simp only [Gy,Jg,Kr,Gz];rw [t2,y8,decide_eq_true (show c<b by omega),ξ rfl,b2,Jd,Dr];simp only [Gy,Jg,Kr,Gz];rw [t3,y8,decide_eq_false (show ¬b<b by omega),ψ η]
 rw [show D.lst [D.int a]=L [a] from rfl,w]
 walk_at "dz"
 rfl
theorem vG {n:Int} {ls ls':List P2} {T:List P3} (I:CInv n ls T) (p:ls'.Perm ls) (hl:ls.length<=60) :
  Z7 [.int n,.tup (ls'.map T2)]=.ok (.lst ((so3 T).map T3)):=by
 have hl':ls'.length<=60:=by rw [p.length_eq];exact hl
 unfold Z7 Ro
 walk_at "dz"
 rw [show x4 (D.lst [D.tup [D.int 0,D.int (n - 1)]]) (D.lst (ls'.map T2))=some (.lst (((0,n - 1)::ls').map T2)) by simp only [x4];rw [ξ (by simp;lia)];rfl]
 obtain ⟨tops,ht⟩:∃tops:List P2,tops=(0,n - 1)::ls':=⟨_,rfl⟩
 have hlt:tops.length<=61:=by rw [ht,List.length_cons];lia
 rw [<-ht]
 have kp:keeps true (D.lst (tops.map T2))=true:=by rw [Vi];exact V6 _ _ fun x _=>Z5 x
 simp only [R.of_some,y8,kp]
 walk_at "dz"
 rw [ξ (by rw [List.length_map];lia),An (en:=T2) (bs:=fun q=>[T2 q]) (g:=fun q=>T3 (thr T q)) tops (fun x _=>rfl) (fun q hq=>by obtain ⟨m1,m2⟩:=I.top_in p (by rw [<-ht];exact hq);unfold Up;walk_at "dz";generalize thr T q=u at m1 m2;obtain ⟨a,c,b⟩:=u;rw [<-m2];exact vH I p (by lia) a c b m1)]
 walk_at "dz"
 have e1:tops.map (fun q=>T3 (thr T q))=(tops.map (thr T)).map T3:=by rw [List.map_map];rfl
 have pm:(tops.map (thr T)).Perm T:=by rw [ht];exact I.tops p
 rw [e1,yi _ (by rw [List.length_map];lia),Ty pm]
 walk_at "dz"
theorem zp {n:Int} {ls ls':List P2} {T:List P3} (I:CInv n ls T) (p:ls'.Perm ls) (hl:ls.length<=60) :
  Ar [.tup [.int n,.tup (ls'.map T2)]]=.ok (.lst ((so3 T).map T3)):=by
 unfold Ar Wp
 walk_at "dz"
 rw [vG I p hl]
 walk_at "dz"
theorem Rj (i:Int):W1 [.int i]=.ok (.bl true):=by unfold W1 Vv;walk_at "dz"
theorem Cw (i:Int):O5 [.int i]=.ok (.bl true):=by unfold O5 Xi;walk_at "dz";simp only [X6];walk_at "dz"
theorem xj (p:P2):Bb [T2 p]=.ok (.bl true):=by unfold Bb Xs;walk_at "dz";rw [Cw];walk_at "dz";rw [Cw];walk_at "dz"
def pkv (ns:List Int) (k:Int):Int:=(n9 ns (some k) (some (k+1))++[0]).getD 0 0
theorem Ri (ns:List Int) (a b:Option Int):(n9 ns a b).length<=ns.length:=by unfold n9;simp only [List.length_drop,List.length_take];omega
theorem km (ns:List Int) (hl:ns.length<=63) (k:Int):At [.scr ns,.int k]=.ok (.int (pkv ns k)):=by have h:=Ri ns (some k) (some (k+1));unfold At Ws pkv;walk_at "dz";generalize n9 ns (some k) (some (k+1))=xs at h;rw [show x4 (L xs) (D.lst [D.int 0])=some (L (xs++[0])) by simp only [L,x4,List.length_map,List.length_cons,List.length_nil,ξ (show xs.length+(0+1)<=100000 by lia),List.map_append,List.map_cons,List.map_nil]];walk_at "dz";rw [Fh (by lia) (by simp)];rfl
theorem y0i (S0:Sl) (o:List Int) (ps:List P2) (T:List P3) (B:Bld o ps T) (ho:o.length<=900) (spot:Int) (s4:Sl) (r:List Sl) :
  ∃c:Nat,c<o.length/\Er (S0::.ow (L o)::.ow (.lst ((ps.map (nmP o)).map T2))::.im (.int spot)::s4::r) =
   .nx (S0::.ow (L (C1 o (c+1) (o.length:Int)))::.ow (.lst (((ps.map (sh2 (c:Int))++[nwP o.length c]).map (nmP (C1 o (c+1) (o.length:Int)))).map T2))::.im (.int spot)::.im (.int (c:Int))::r):=by
 have h3:3<=o.length:=by have:=B.inv.n3;lia
 have m0:0<=spot % (o.length:Int):=Int.emod_nonneg _ (by lia)
 have m1:spot % (o.length:Int)<o.length:=Int.emod_lt_of_pos _ (by lia)
 obtain ⟨c,hc⟩:∃c:Nat,c=(spot % (o.length:Int)).toNat:=⟨_,rfl⟩
 have hc':spot % (o.length:Int)=(c:Int):=by lia
 have e:=(B.grow c (by lia)).2
 have hps:=B.len
 refine ⟨c,by lia,?_⟩
 rw [<-e]
 have hm:((c:Int)+1) % (o.length:Int)=(((c+1) % o.length:Nat):Int):=by rw [show (c:Int)+1=((c+1:Nat):Int) by lia];rfl
 have hm2:(c+1) % o.length<o.length:=Nat.mod_lt _ (by lia)
 have hx:(ps.map (nmP o)).length<1000:=by rw [List.length_map];lia
 generalize ps.map (nmP o)=xs at hx
 unfold Er
 walk_at "dz"
 rw [C6 (by lia),hc']
 walk_at "dz"
 rw [Yr (by lia),C6 (by lia),hm]
 walk_at "dz"
 rw [Yr hm2]
 walk_at "dz"
 rw [kW (by lia)]
 walk_at "dz"
 rw [Zu (by lia) (by lia) (by lia)]
 walk_at "dz"
 rw [show ((c:Int)+1).toNat=c+1 by lia]
 rfl
theorem vF (a b:Int):p8 [D.lst [.int a,.int b]]=some (.lst [.int (nr (a,b)).1,.int (nr (a,b)).2]):=by
 have:=Kj [a,b] (by simp);rw [show (D.lst [.int a,.int b])=L [a,b] from rfl,this];congr 1;unfold nr;by_cases h:a<b
 . rw [ξ h,S7 h];rfl
 . rw [ψ h];by_cases h2:b<a
   . rw [Ah (List.Perm.swap b a []),S7 h2];rfl
   . have:a=b:=by lia
     subst this;rw [show soI [a,a]=[a,a] by simp [soI,sortB,insB,ltT]];rfl
theorem Pc (o:List Int) (x:Int):((Sum.inl x:Key)∈o.map fun x=>(Sum.inl x:Key))↔x∈o:=by
 rw [List.mem_map];constructor
 . rintro ⟨y,hy,e⟩;cases e;exact hy
 . intro h;exact ⟨x,h,rfl⟩
theorem vE (A B C E F:Sl) (o:List Int) (k:Nat) (ho:o.length<1000) (nd:o.Nodup) (hk:k<o.length) (s6 s7:Sl) :
  Ep [A,B,C,E,F,.ow (.dk ((o.take k).map fun x=>(Sum.inl x:Key)) ((List.range k).map fun (k:Nat)=>D.int (k:Int))),.im (.int (k:Int)),.im (.int (o.getD k 0))] =
   .nx [A,B,C,E,F,.ow (.dk ((o.take (k+1)).map fun x=>(Sum.inl x:Key)) ((List.range (k+1)).map fun (k:Nat)=>D.int (k:Int))),.im (.int (k:Int)),.im (.int (o.getD k 0))]:=by
 have hn:o.getD k 0∉o.take k:=fun h=>by
  have e:o.getD k 0=o[k]:=by rw [List.getD_eq_getElem?_getD,List.getElem?_eq_getElem hk];rfl
  rw [e] at h;obtain ⟨j,hj,hjk⟩:=List.mem_take_iff_getElem.mp h;have:j=k:=(List.getElem_inj nd).mp hjk
  lia
 have et:o.take (k+1)=o.take k++[o.getD k 0]:=by rw [List.take_succ,List.getD_eq_getElem?_getD,List.getElem?_eq_getElem hk];rfl
 unfold Ep
 walk_at "dz"
 simp only [D8,F7,Option.map_some]
 rw [ξ (by rw [List.length_map,List.length_take];lia)]
 walk_at "dz"
 unfold C8 l6
 rw [ψ (by rw [Pc];exact hn),ψ (by rw [Pc];exact hn),et,List.map_append,List.range_succ,List.map_append]
 rfl
theorem Nd {o:List Int} (nd:o.Nodup) (i:Nat) (hi:i<o.length):dIx (.dk (o.map fun x=>(Sum.inl x:Key)) ((List.range o.length).map fun (k:Nat)=>D.int (k:Int))) (.int (o.getD i 0))=some (.int (i:Int)):=by simp only [dIx,dOr,Br,N0,F7,Option.map_some,vI nd i hi,Option.bind_some,id,z8]
theorem y0j (sp:List Int) (hs:sp.length<=57):∃(n:Nat) (ls:List P2) (T:List P3),Cut (n:Int) ls T/\3<=n/\n<=60/\ls.length+3=n/\W0 [L sp]=.ok (.tup [.int (n:Int),.tup ((so2 ls).map T2)]):=by
 unfold W0 Vu;walk_at "dz";obtain ⟨ρ',e,o,ps,T,s3,s4,B,hl,hr⟩:=Q2 (tg:=.n 3) (g:=Er) (en:=D.int)
  (fun r ρ=>∃(o:List Int) (ps:List P2) (T:List P3) (s3 s4:Sl),Bld o ps T/\o.length+r.length=sp.length+3/\ρ=[.im (L sp),.ow (L o),.ow (.lst ((ps.map (nmP o)).map T2)),s3,s4,.em,.em,.em])
  sp [.im (L sp),.ow (L [0,1,2]),.ow (.lst []),.em,.em,.em,.em,.em] ⟨[0,1,2],[],[(0,1,2)],.em,.em,y2t,by simp;lia,rfl⟩ (by rintro x r ρ ⟨o,ps,T,s3,s4,B,hl,rfl⟩;simp only [List.length_cons] at hl;obtain ⟨c,hc,e⟩:=y0i (.im (L sp)) o ps T B (by lia) x s4 [.em,.em,.em];refine ⟨_,_,rfl,Or.inl e,⟨_,_,_,_,_,(B.grow c hc).1,by rw [Tu];lia,rfl⟩⟩)
 simp only [L,List.map_cons,List.map_nil] at e;simp only [L];rw [e,hr];simp only [List.length_nil,Nat.add_zero] at hl;have h3:3<=o.length:=by have:=B.inv.n3;lia
 have hps:=B.len;have hx:(ps.map (nmP o)).length<=57:=by rw [List.length_map];lia
 have nd:=B.nd;obtain ⟨xs,hxs⟩:∃xs,xs=ps.map (nmP o):=⟨_,rfl⟩;rw [<-hxs] at hx ⊢;walk_at "dz";simp only [Gm];walk_at "dz";rw [show keeps true (D.dk [] [])=true from rfl];walk_at "dz";simp only [iEn];walk_at "dz";simp only [L];walk_at "dz";have en:List.map (fun p=>D.tup [p.1,p.2]) ((zD 0 (o.map D.int).length).zip (o.map D.int))=(List.range o.length).map fun (i:Nat)=>D.tup [.int (i:Int),.int (o.getD i 0)]:=by
  rw [show o.map D.int=(List.range o.length).map fun i=>D.int (o.getD i 0) by
   conv=>lhs;rw [Px o 0]
   rw [List.map_map];rfl]
  exact Ua _ _
 rw [en];obtain ⟨ρ2,e2,s6,s7,hr2⟩:=Dw (tg:=.t [6,7]) (g:=Ep) o.length (fun (i:Nat)=>D.tup [.int (i:Int),.int (o.getD i 0)])
  (fun k ρ=>∃s6 s7:Sl,ρ=[.im (.lst (sp.map D.int)),.im (.lst (o.map D.int)),.ow (.lst (xs.map T2)),s3,s4,.ow (.dk ((o.take k).map fun x=>(Sum.inl x:Key)) ((List.range k).map fun (k:Nat)=>D.int (k:Int))),s6,s7])
  [.im (.lst (sp.map D.int)),.im (.lst (o.map D.int)),.ow (.lst (xs.map T2)),s3,s4,.ow (.dk [] []),.em,.em] ⟨.em,.em,rfl⟩ (by rintro k hk ρ ⟨s6,s7,rfl⟩;exact ⟨_,_,rfl,Or.inl (vE _ _ _ _ _ o k (by lia) nd hk s6 s7),⟨_,_,rfl⟩⟩)
 rw [e2,hr2,List.take_length];walk_at "dz";rw [ξ (by rw [List.length_map];lia),hxs,List.map_map,An (en:=T2∘nmP o) (bs:=fun q=>[D.int (nmP o q).1,D.int (nmP o q).2]) (g:=fun q=>T2 (nr q)) ps (fun x _=>rfl) (fun q hq=>by have hi:=B.inn q hq;unfold Xh;walk_at "dz";unfold nmP;rw [Nd nd _ (by lia),Nd nd _ (by lia),Int.toNat_of_nonneg hi.1.1,Int.toNat_of_nonneg hi.2.1];walk_at "dz";rw [vF];walk_at "dz";rfl)];simp only [R.bind_ok];rw [show ps.map (fun q=>T2 (nr q))=(ps.map nr).map T2 by rw [List.map_map];rfl];have hy:(ps.map nr).length<64:=by rw [List.length_map];lia
 have I:=B.inv;have C:=B.cnt;have hy2:(ps.map nr).length+3=o.length:=by rw [List.length_map];exact hps
 generalize ps.map nr=ys at hy hy2 I C;walk_at "dz";rw [Lh _ hy];walk_at "dz";refine ⟨o.length,ys,T,⟨I,C⟩,h3,by lia,hy2,?_⟩;rw [List.length_map]
def X4 (n a b:Int):Bool:=!(decide (a<0)||decide (n<=b))&&(decide (b=a+1)||(decide (a=0)&&decide (b=n - 1)))
theorem kj (n:Int) (p:P2):Al [.int n,T2 p]=.ok (.bl (X4 n p.1 p.2)):=by unfold Al Uq X4;walk_at "dz";generalize (decide (p.1<0)||decide (n<=p.2))=c;cases c<;>rfl
theorem Nc (p:P2):V2 [T2 p]=.ok (.bl true):=by unfold V2 Tt;walk_at "dz";rw [Rj];walk_at "dz";rw [Rj];walk_at "dz"
theorem y0k (n:Int) (ls:List P2) (p:P2):Ap [.tup [.int n,.tup (ls.map T2)],T2 p]=.ok (.bl (X4 n p.1 p.2||decide (p∈ls))):=by unfold Ap Vt;walk_at "dz";rw [Nc];walk_at "dz";rw [kj];walk_at "dz";rw [Pv];walk_at "dz"
theorem xi (n:Int) (ls:List P2) (p:P2) (h:(X4 n p.1 p.2||decide (p∈ls))=true):Av [.tup [.int n,.tup (ls.map T2)],T2 p]=.ok .non:=by unfold Av Xe;walk_at "dz";rw [y0k,h];walk_at "dz"
theorem vD (T:List P3):(so3 T).length=T.length:=(Q1 T).length_eq
theorem yh {n:Int} {ls ls':List P2} {T:List P3} (I:CInv n ls T) (pm:ls'.Perm ls) (hl:ls.length<=60) (p:P2) (h:(X4 n p.1 p.2||decide (p∈ls'))=true) :
  V1 [.tup [.int n,.tup (ls'.map T2)],T2 p]=.ok (L (z5 T p)):=by
 have hT:(so3 T).length<=61:=by rw [vD,I.len];lia
 unfold V1 Ts
 walk_at "dz"
 rw [xi n ls' p h]
 walk_at "dz"
 rw [zp I pm hl]
 walk_at "dz"
 rw [ξ (by rw [List.length_map];lia),Am (en:=T3) (bs:=fun t=>[T3 t]) (p:=bth p.1 p.2) (g:=fun t=>T3 t) (so3 T) (fun x _=>rfl) (fun t _=>by
  unfold Vs;walk_at "dz";rw [Nt];walk_at "dz";rw [Nt];walk_at "dz";rfl) (fun t _ _=>by
  unfold Vr;walk_at "dz")]
 simp only [R.bind_ok]
 obtain ⟨F,hF⟩:∃F,F=(so3 T).filter (bth p.1 p.2):=⟨_,rfl⟩
 have hFl:F.length<=61:=by rw [hF];exact Nat.le_trans (List.length_filter_le _ _) hT
 rw [<-hF]
 walk_at "dz"
 rw [ξ (by rw [List.length_map];lia),An (en:=T3) (bs:=fun t=>[T3 t]) (g:=fun t=>D.int (t.1+(t.2.1+(t.2.2+0)) - (p.1+(p.2+0)))) F (fun x _=>rfl) (fun t _=>by unfold Vq;walk_at "dz")]
 simp only [R.bind_ok]
 rw [show D.lst (F.map fun t=>D.int (t.1+(t.2.1+(t.2.2+0)) - (p.1+(p.2+0))))=L (F.map fun t=>t.1+(t.2.1+(t.2.2+0)) - (p.1+(p.2+0))) by unfold L;rw [List.map_map];rfl]
 walk_at "dz"
 rw [Kj _ (by rw [List.length_map];lia)]
 walk_at "dz"
 rw [hF];rfl
theorem vC (p:P2) (ls:List P2):dIn true (T2 p) (.tup (ls.map T2))=some (.bl (!decide (p∈ls))):=by have h:=Pv p ls;have h1:=U8 ls T2 1 U1;unfold dIn dOr K8 at h ⊢;simp only [O8,Y9 ls T2 O8,true_and,ξ (show h7 (ls.map T2)<=20 by lia),Bool.false_eq_true,if_false,if_true,Option.some.injEq,D.bl.injEq] at h ⊢;rw [h]
theorem Nb (p q:P2):dNe (T2 p) (T2 q)=some (.bl (!decide (p=q))):=by unfold dNe;rw [ξ ⟨O8 p,O8 q,by have:=U1 p;lia⟩,Ho]
theorem vB (n:Int) (ls:List P2) (p:P2) (h:p∈ls):Aw [.tup [.int n,.tup (ls.map T2)],T2 p]=.ok .non:=by unfold Aw Xf;walk_at "dz";rw [Nc];walk_at "dz";rw [vC,decide_eq_true h];walk_at "dz"
theorem Rh (ls' ls0:List P2) (l:P2) (p:ls'.Perm (l::ls0)) (h:l∉ls0):(ls'.filter fun o=>!decide (o=l)).Perm ls0:=by refine (p.filter _).trans ?_;rw [List.filter_cons_of_neg (by simp)];rw [List.filter_eq_self.mpr fun o ho=>by simp;exact fun e=>h (by rw [<-e];exact ho)]
section
variable {n:Int} {ls ls' ls0:List P2} {T:List P3} {l w:P2}
theorem ki (K:Cut n ls T) (pm:ls'.Perm ls) (hl:ls.length<=60) (h:l∈ls):V1 [.tup [.int n,.tup (ls'.map T2)],T2 l]=.ok (L (z5 T l)):=
 yh K.inv pm hl l (by rw [decide_eq_true (pm.mem_iff.mpr h),Bool.or_true])
theorem To (K:Cut n ls T) (pm:ls'.Perm ls) (hl:ls.length<=60) (h:l∈ls) (p0:ls.Perm (l::ls0)) (hw:z5 T l=[w.1,w.2]) :
  D6 [.tup [.int n,.tup (ls'.map T2)],T2 l]=.ok (.tup [.tup [.int n,.tup ((so2 (ls0++[w])).map T2)],T2 w]):=by
 have nd0:l∉ls0:=by have:=p0.nodup_iff.mp K.inv.nd;rw [List.nodup_cons] at this;exact this.1
 have hl':ls'.length<=60:=by rw [pm.length_eq];exact hl
 unfold D6 Tr
 walk_at "dz"
 rw [vB n ls' l (pm.mem_iff.mpr h)]
 walk_at "dz"
 rw [ki K pm hl h,hw]
 walk_at "dz"
 rw [show B9 [L [w.1,w.2]]=some (T2 w) from rfl]
 simp only [R.of_some,y8]
 rw [show keeps false (T2 w)=true from Z5 w]
 walk_at "dz"
 rw [ξ (by rw [List.length_map];lia),Am (en:=T2) (bs:=fun o=>[T2 o]) (p:=fun o=>!decide (o=l)) (g:=fun o=>T2 o) ls' (fun x _=>rfl) (fun o _=>by
  unfold Vp;walk_at "dz";rw [Nb];walk_at "dz") (fun o _ _=>by
  unfold Vo;walk_at "dz")]
 simp only [R.bind_ok]
 have kn:=Rh ls' ls0 l (pm.trans p0) nd0
 obtain ⟨kp,hkp⟩:∃kp,kp=ls'.filter fun o=>!decide (o=l):=⟨_,rfl⟩
 rw [<-hkp] at kn ⊢
 have hkl:kp.length<=60:=by rw [hkp];exact Nat.le_trans (List.length_filter_le _ _) hl'
 walk_at "dz"
 rw [show D.lst [T2 w]=D.lst ([w].map T2) from rfl,Pu _ _ (by simp;lia)]
 obtain ⟨xs,hxs⟩:∃xs,xs=kp++[w]:=⟨_,rfl⟩
 have hx:xs.length<=61:=by rw [hxs];simp;lia
 rw [<-hxs]
 walk_at "dz"
 rw [Lh _ (by lia),Q0 (show xs.Perm (ls0++[w]) by rw [hxs];exact kn.append_right _)]
 walk_at "dz"
end
theorem kh (I:CInv n ls T) (A:Sl) (x:Int) (x0:0<=x) (x1:x<n) (xs:List Int) (dn:List P2) (a b:Int) (r:List P2) (hd:dn++(a,b)::r=ls)
  (nd:xs.Nodup) (hm:∀k,k∈xs↔k=(x+1) % n\/k=(x - 1) % n\/(x,k)∈dn\/(k,x)∈dn) (hl:xs.length<=900) :
  ∃ys:List Int,Es [A,.im (.int x),.ow (L xs),.im (.int a),.im (.int b)]=.nx [A,.im (.int x),.ow (L ys),.im (.int a),.im (.int b)] /\
   ys.Nodup/\(∀k,k∈ys↔k=(x+1) % n\/k=(x - 1) % n\/(x,k)∈dn++[(a,b)]\/(k,x)∈dn++[(a,b)])/\ys.length<=xs.length+1:=by
 have n3:=I.n3
 have hab:(a,b)∈ls:=by rw [<-hd];simp
 have l:=I.lin a b hab
 have lnd:=I.nd
 rw [<-hd] at lnd
 have ndn:(a,b)∉dn:=fun h=>by have:=List.nodup_append.mp lnd;exact this.2.2 _ h _ (by simp) rfl
 have inl:∀p∈dn,p∈ls:=fun p hp=>by rw [<-hd];simp [hp]
 have up:(x+1) % n=if x=n - 1 then 0 else x+1:=by
  split
  . rename_i e;rw [e,show n - 1+1=n by lia,Int.emod_self]
  . rw [Int.emod_eq_of_lt (by lia) (by lia)]
 have dw:(x - 1) % n=if x=0 then n - 1 else x - 1:=by
  split
  . rename_i e;rw [e,<-Int.add_emod_right,Int.emod_eq_of_lt (by lia) (by lia)];lia
  . rw [Int.emod_eq_of_lt (by lia) (by lia)]
 unfold Es
 by_cases ha:a=x
 . have hb:¬b=x:=by lia
   refine ⟨xs++[b],?_,?_,?_,by simp⟩
   . walk_at "dz";rw [decide_eq_true ha];walk_at "dz";rw [Ci (by lia)];walk_at "dz";rw [decide_eq_false hb];walk_at "dz"
   . rw [List.nodup_append];refine ⟨nd,by simp,fun k hk k' hk' e=>?_⟩;rw [List.mem_singleton] at hk';subst hk';subst e;rcases (hm k).mp hk with z | z | z | z
     . rw [up] at z;split at z<;>lia
     . rw [dw] at z;split at z<;>lia
     . exact ndn (by rw [ha];exact z)
     . have:=I.lin _ _ (inl _ z);lia
   . intro k;simp only [List.mem_append,List.mem_singleton,hm k,Prod.mk.injEq];constructor
     . rintro ((z | z | z | z) | z)
       . exact .inl z
       . exact .inr (.inl z)
       . exact .inr (.inr (.inl (.inl z)))
       . exact .inr (.inr (.inr (.inl z)))
       . exact .inr (.inr (.inl (.inr ⟨ha.symm,z⟩)))
     . rintro (z | z | (z | z) | (z | z))
       . exact .inl (.inl z)
       . exact .inl (.inr (.inl z))
       . exact .inl (.inr (.inr (.inl z)))
       . exact .inr z.2
       . exact .inl (.inr (.inr (.inr z)))
       . exact absurd z.2.symm hb
 . by_cases hb:b=x
   . refine ⟨xs++[a],?_,?_,?_,by simp⟩
     . walk_at "dz";rw [decide_eq_false ha];walk_at "dz";rw [decide_eq_true hb];walk_at "dz";rw [Ci (by lia)];walk_at "dz"
     . rw [List.nodup_append];refine ⟨nd,by simp,fun k hk k' hk' e=>?_⟩;rw [List.mem_singleton] at hk';subst hk';subst e;rcases (hm k).mp hk with z | z | z | z
       . rw [up] at z;split at z<;>lia
       . rw [dw] at z;split at z<;>lia
       . have:=I.lin _ _ (inl _ z);lia
       . exact ndn (by rw [hb];exact z)
     . intro k;simp only [List.mem_append,List.mem_singleton,hm k,Prod.mk.injEq];constructor
       . rintro ((z | z | z | z) | z)
         . exact .inl z
         . exact .inr (.inl z)
         . exact .inr (.inr (.inl (.inl z)))
         . exact .inr (.inr (.inr (.inl z)))
         . exact .inr (.inr (.inr (.inr ⟨z,hb.symm⟩)))
       . rintro (z | z | (z | z) | (z | z))
         . exact .inl (.inl z)
         . exact .inl (.inr (.inl z))
         . exact .inl (.inr (.inr (.inl z)))
         . exact absurd z.1.symm ha
         . exact .inl (.inr (.inr (.inr z)))
         . exact .inr z.1
   . refine ⟨xs,?_,nd,?_,by lia⟩
     . walk_at "dz";rw [decide_eq_false ha];walk_at "dz";rw [decide_eq_false hb];walk_at "dz"
     . intro k;simp only [List.mem_append,List.mem_singleton,hm k,Prod.mk.injEq];constructor
       . rintro (z | z | z | z)
         . exact .inl z
         . exact .inr (.inl z)
         . exact .inr (.inr (.inl (.inl z)))
         . exact .inr (.inr (.inr (.inl z)))
       . rintro (z | z | (z | z) | (z | z))
         . exact .inl z
         . exact .inr (.inl z)
         . exact .inr (.inr (.inl z))
         . exact absurd z.1.symm ha
         . exact .inr (.inr (.inr z))
         . exact absurd z.2.symm hb
theorem Pb (I:CInv n ls T) (hl:ls.length<=60) (x:Int) (x0:0<=x) (x1:x<n) :
  ∃xs:List Int,xs.Nodup/\(∀k,k∈xs↔adj n ls x k)/\xs.length<=100/\W2 [.tup [.int n,.tup (ls.map T2)],.int x]=.ok (L xs):=by
 have n3:=I.n3
 unfold W2 Wr
 walk_at "dz"
 rw [C6 (by lia),C6 (by lia)]
 walk_at "dz"
 obtain ⟨ρ',e,xs,dn,s3,s4,hd,nd,hm,hx,hr⟩:=Q2 (tg:=.t [3,4]) (g:=Es) (en:=T2)
  (fun r ρ=>∃(xs:List Int) (dn:List P2) (s3 s4:Sl),dn++r=ls/\xs.Nodup/\(∀k,k∈xs↔k=(x+1) % n\/k=(x - 1) % n\/(x,k)∈dn\/(k,x)∈dn)/\xs.length<=2+dn.length/\ρ=[.im (.tup [.int n,.tup (ls.map T2)]),.im (.int x),.ow (L xs),s3,s4])
  ls [.im (.tup [.int n,.tup (ls.map T2)]),.im (.int x),.ow (L [(x+1) % n,(x - 1) % n]),.em,.em] ⟨_,[],.em,.em,rfl,by
   rw [List.nodup_cons];refine ⟨?_,by simp⟩;rw [List.mem_singleton];intro h;have up:(x+1) % n=if x=n - 1 then 0 else x+1:=by
    split
    . rename_i e;rw [e,show n - 1+1=n by lia,Int.emod_self]
    . rw [Int.emod_eq_of_lt (by lia) (by lia)]
   have dw:(x - 1) % n=if x=0 then n - 1 else x - 1:=by
    split
    . rename_i e;rw [e,<-Int.add_emod_right,Int.emod_eq_of_lt (by lia) (by lia)];lia
    . rw [Int.emod_eq_of_lt (by lia) (by lia)]
   rw [up,dw] at h;split at h<;>split at h<;>lia,by intro k;simp,by simp,rfl⟩ (by
   rintro ⟨a,b⟩ r ρ ⟨xs,dn,s3,s4,hd,nd,hm,hx,rfl⟩;have hdl:dn.length<=60:=by have:=congrArg List.length hd;rw [θ] at this;lia
   obtain ⟨ys,e,nd',hm',hy⟩:=kh I _ x x0 x1 xs dn a b r hd nd hm (by lia);exact ⟨_,_,rfl,Or.inl e,⟨ys,dn++[(a,b)],_,_,by rw [List.append_assoc];exact hd,nd',hm',by rw [θ,List.length_singleton];lia,rfl⟩⟩)
 simp only [L,List.map_cons,List.map_nil] at e
 rw [e,hr]
 rw [List.append_nil] at hd
 subst hd
 walk_at "dz"
 exact ⟨xs,nd,hm,by lia,rfl⟩
theorem Mx (k:Int) (xs:List Int):dIn false (.int k) (L xs)=some (.bl (decide (k∈xs))):=by
 have e:(xs.map D.int).any (fun e=>eqD e (.int k))=decide (k∈xs):=by
  rw [List.any_map,Bool.eq_iff_iff,List.any_eq_true,decide_eq_true_eq];constructor
  . rintro ⟨x,hx,h⟩;simp only [Function.comp,eqD,beq_iff_eq] at h;rw [<-h];exact hx
  . intro h;exact ⟨k,h,by simp [eqD]⟩
 have h1:h7 (xs.map D.int)<=0:=U8 xs D.int 0 fun x=>by simp [D.dep]
 have h2:pls (xs.map D.int)=true:=Y9 xs D.int fun x=>rfl
 unfold dIn dOr K8;simp only [L,D.pl,h2,true_and,ξ (show h7 (xs.map D.int)<=20 by lia),e,Bool.false_eq_true,if_false]
theorem yg {n:Int} {ls ls' ls0:List P2} {T:List P3} {l w:P2} (K:Cut n ls T) (pm:ls'.Perm ls) (hl:ls.length<=60) (h:l∈ls) (p0:ls.Perm (l::ls0)) (hw:z5 T l=[w.1,w.2]) :
  Q8 [.tup [.int n,.tup (ls'.map T2)],T2 l]=.ok (.tup [.int n,.tup ((so2 (ls0++[w])).map T2)]):=by
 have I:=K.inv
 have I':=I.perm pm
 have hl':ls'.length<=60:=by rw [pm.length_eq];exact hl
 have lin:=I.lin l.1 l.2 h
 have nd0:l∉ls0:=by have:=p0.nodup_iff.mp I.nd;rw [List.nodup_cons] at this;exact this.1
 obtain ⟨xb,ndb,mb,lb,eb⟩:=Pb I' hl' l.2 (by omega) (by omega)
 obtain ⟨xa,nda,ma,la,ea⟩:=Pb I' hl' l.1 (by omega) (by omega)
 have adjn:∀x k,0<=x->x<n->adj n ls' x k->0<=k/\k<n/\k≠x:=fun x k x0 x1 ha=>by
  have n3:=I.n3;rcases ha with z | z | z | z
  . subst z;refine ⟨Int.emod_nonneg _ (by omega),Int.emod_lt_of_pos _ (by omega),?_⟩;by_cases e:x=n - 1
    . rw [e,show n - 1+1=n by omega,Int.emod_self];omega
    . rw [Int.emod_eq_of_lt (by omega) (by omega)];omega
  . subst z;refine ⟨Int.emod_nonneg _ (by omega),Int.emod_lt_of_pos _ (by omega),?_⟩;by_cases e:x=0
    . rw [e,<-Int.add_emod_right,Int.emod_eq_of_lt (by omega) (by omega)];omega
    . rw [Int.emod_eq_of_lt (by omega) (by omega)];omega
  . have:=I'.lin _ _ z;omega
  . have:=I'.lin _ _ z;omega
 have pb:(xa.filter fun k=>decide (k∈xb)).Perm [w.1,w.2]:=by
  rw [<-hw];have ndd:(z5 T l).Nodup:=by
   rw [hw];have wn:w.1<w.2:=by obtain ⟨w',ls1,T',_,K',hd,_,_⟩:=K.turn h;rw [hw] at hd;simp only [List.cons.injEq,and_true] at hd;have:=K'.inv.lin w'.1 w'.2 (by simp);omega
   simp;omega
  rw [List.perm_ext_iff_of_nodup (nda.filter _) ndd];intro k;rw [List.mem_filter,decide_eq_true_eq,ma,mb];constructor
  . rintro ⟨h1,h2⟩;have a1:=adjn _ _ (by omega) (by omega) h1;have a2:=adjn _ _ (by omega) (by omega) h2;exact (I'.com (pm.mem_iff.mpr h) a1.1 a1.2.1 a1.2.2 a2.2.2).mp ⟨h1,h2⟩
  . intro hk;obtain ⟨t,ht,hb,e⟩:=mem_dues.mp hk;have g:=I.tri t.1 t.2.1 t.2.2 ht;obtain ⟨x,y,z⟩:=t;rw [bth_iff] at hb;simp only at e g;exact (I'.com (pm.mem_iff.mpr h) (by omega) (by omega) (by omega) (by omega)).mpr hk
 unfold Q8 Xm
 walk_at "dz"
 rw [eb]
 walk_at "dz"
 rw [ea]
 walk_at "dz"
 rw [ξ (by rw [List.length_map];omega),Am (en:=D.int) (bs:=fun k=>[D.int k]) (p:=fun k=>decide (k∈xb)) (g:=fun k=>D.int k) xa (fun _ _=>rfl) (fun k _=>by
  unfold Xz;walk_at "dz";rw [Mx];walk_at "dz") (fun k _ _=>by
  unfold Xy;walk_at "dz")]
 simp only [R.bind_ok]
 have lf:(xa.filter fun k=>decide (k∈xb)).length=2:=by rw [pb.length_eq];rfl
 have es:=Ah pb
 generalize (xa.filter fun k=>decide (k∈xb))=F at lf es
 rw [show D.lst (F.map fun k=>D.int k)=L F from rfl]
 walk_at "dz"
 rw [Kj _ (by omega),es,show soI [w.1,w.2]=[w.1,w.2] by rw [<-hw];unfold z5;exact Ah (Dv _)]
 walk_at "dz"
 rw [ξ (by rw [List.length_map];omega),Am (en:=T2) (bs:=fun o=>[T2 o]) (p:=fun o=>!decide (o=l)) (g:=fun o=>T2 o) ls' (fun x _=>rfl) (fun o _=>by
  unfold Xx;walk_at "dz";rw [Nb];walk_at "dz") (fun o _ _=>by
  unfold Xw;walk_at "dz")]
 simp only [R.bind_ok]
 have kn:=Rh ls' ls0 l (pm.trans p0) nd0
 obtain ⟨kp,hkp⟩:∃kp,kp=ls'.filter fun o=>!decide (o=l):=⟨_,rfl⟩
 rw [<-hkp] at kn ⊢
 have hkl:kp.length<=60:=by rw [hkp];exact Nat.le_trans (List.length_filter_le _ _) hl'
 walk_at "dz"
 rw [show B9 [L [w.1,w.2]]=some (T2 w) from rfl]
 walk_at "dz"
 rw [show D.lst [T2 w]=D.lst ([w].map T2) from rfl,Pu _ _ (by simp;omega)]
 obtain ⟨xs,hxs⟩:∃xs,xs=kp++[w]:=⟨_,rfl⟩
 have hx:xs.length<=61:=by rw [hxs];simp;omega
 rw [<-hxs]
 walk_at "dz"
 rw [Lh _ (by omega),Q0 (show xs.Perm (ls0++[w]) by rw [hxs];exact kn.append_right _)]
 walk_at "dz"
theorem Tn (K:Cut n ls T) (p:ls'.Perm ls):Cut n ls' T:=
 ⟨K.inv.perm p,fun x y h=>by have:=K.cnt x y h;rw [this];unfold ee;simp only [p.mem_iff]⟩
def cD (n:Int) (v:List P2):D:=.tup [.int n,.tup (v.map T2)]
def Gd (n:Int) (v:List P2):Prop:=(∃T,Cut n v T)/\so2 v=v/\(v.length:Int)+3=n/\n<=8
theorem yT {a b:List P2} (h:a.map T2=b.map T2):a=b:=O2 (fun _ _=>Y8) h
theorem Co (h:cD n a=cD n b):a=b:=by simp only [cD,D.tup.injEq,List.cons.injEq,and_true,true_and] at h;exact yT h
theorem Rg (l:List P2):so2 (so2 l)=so2 l:=Q0 (F1 l)
theorem Rf (g:Gd n v) (hx:x∈v):∃r:List P2×P2,D6 [cD n v,T2 x]=.ok (.tup [cD n r.1,T2 r.2])/\Q8 [cD n v,T2 x]=.ok (cD n r.1)/\Gd n r.1/\r.2∈r.1/\D6 [cD n r.1,T2 r.2]=.ok (.tup [cD n v,T2 x]):=by
 obtain ⟨⟨T,K⟩,hs,hl,h8⟩:=g;obtain ⟨w,ls0,T',pl,K',d1,d2,_⟩:=K.turn hx;have l0:v.length=ls0.length+1:=by have:=pl.length_eq;rwa [List.length_cons] at this
 refine ⟨(so2 (ls0++[w]),w),To K (.refl _) (by lia) hx pl d1,yg K (.refl _) (by lia) hx pl d1,⟨⟨_,Tn K' (F1 _)⟩,Rg _,?_,h8⟩,(F1 _).mem_iff.mpr (by simp),?_⟩
 . rw [(F1 _).length_eq,θ,List.length_singleton];lia
 . have e:=To (l:=w) (w:=x) K' (F1 (ls0++[w])) (by simp;lia) (by simp) (ls0:=ls0) (List.perm_append_singleton w ls0) d2;rw [Q0 (show (ls0++[x]).Perm v from (List.perm_append_singleton x ls0).trans pl.symm),hs] at e;exact e
open Classical in
def tu (n:Int) (v:List P2) (x:P2):List P2×P2:=if h:∃r:List P2×P2,D6 [cD n v,T2 x]=.ok (.tup [cD n r.1,T2 r.2]) then choose h else ([],(0,0))
theorem Gf (h:D6 [cD n v,T2 x]=.ok (.tup [cD n r.1,T2 r.2])):tu n v x=r:=by
 have ex:∃r:List P2×P2,D6 [cD n v,T2 x]=.ok (.tup [cD n r.1,T2 r.2]):=⟨r,h⟩;have e:=Classical.choose_spec ex;have:tu n v x=Classical.choose ex:=by unfold tu;rw [dif_pos ex]
 rw [this];have e:=h.symm.trans e;simp only [R.ok.injEq,D.tup.injEq,List.cons.injEq,and_true] at e;exact Prod.ext (Co e.1).symm (Y8 e.2).symm
theorem Re (g:Gd n v) (hx:x∈v):D6 [cD n v,T2 x]=.ok (.tup [cD n (tu n v x).1,T2 (tu n v x).2])/\Q8 [cD n v,T2 x]=.ok (cD n (tu n v x).1):=by obtain ⟨r,h1,h2,h3,h4,h5⟩:=Rf g hx;rw [Gf h1];exact ⟨h1,h2⟩
theorem Yk (v:List P2) (x:P2) (g:Gd n v) (hx:x∈v):Gd n (tu n v x).1/\(tu n v x).2∈(tu n v x).1/\tu n (tu n v x).1 (tu n v x).2=(v,x):=by obtain ⟨r,h1,h2,h3,h4,h5⟩:=Rf g hx;rw [Gf h1];exact ⟨h3,h4,Gf h5⟩
def KY (p:P2):NK:=.t [.i p.1,.i p.2]
theorem kg {p q:P2} (h:KY p=KY q):p=q:=by simp only [KY,NK.t.injEq,List.cons.injEq,NK.i.injEq,and_true] at h;exact Prod.ext h.1 h.2
theorem Pa:∀v:List P2,F4 (v.map T2)=some (v.map KY)
 | []=>by simp only [List.map_nil,F4]
 | p::v=>by simp only [List.map_cons,F4,Pa v,T2,nkD,Option.map_some,KY]
def kC (n:Int) (v:List P2):NK:=.t [.i n,.t (v.map KY)]
theorem Cg (n:Int) (v:List P2):nkD (.tup [.int n,.tup (v.map T2)])=some (kC n v):=by simp only [nkD,F4,Pa,Option.map_some,kC]
theorem Oz {n:Int} {a b:List P2} (h:kC n a=kC n b):a=b:=by simp only [kC,NK.t.injEq,List.cons.injEq,and_true,true_and] at h;exact O2 (fun _ _=>kg) h
theorem Rc:∀v:List P2,y6 (v.map KY)<=1
 | []=>by simp [y6]
 | p::v=>by
  have:=Rc v;simp only [List.map_cons,y6,KY,NK.dep] at this ⊢
  lia
theorem Cn (n:Int) (v:List P2):(kC n v).dep<=8:=by have:=Rc v;simp only [kC,NK.dep,y6];lia
theorem Na:∀v:List P2,J4 (v.map KY)=v.map T2
 | []=>by simp only [List.map_nil,J4]
 | p::v=>by simp only [List.map_cons,J4,Na v,KY,B0,T2]
theorem y2u (n:Int) (v:List P2):B0 (kC n v)=cD n v:=by simp only [kC,B0,J4,Na,cD]
section
variable {β:Type}
def dnC (n:Int) (κ:β->List P2) (φ:β->D) (F:List β):D:=.dn (F.map fun e=>kC n (κ e)) (F.map φ)
variable {n:Int} {κ:β->List P2} {φ:β->D} {F:List β}
theorem mem_kC:kC n v∈(F.map fun e=>kC n (κ e))↔v∈F.map κ:=by
 rw [List.mem_map,List.mem_map];constructor
 . rintro ⟨e,he,q⟩;exact ⟨e,he,Oz q⟩
 . rintro ⟨e,he,q⟩;exact ⟨e,he,by rw [q]⟩
open Classical in
theorem Hf (v:List P2):dInN true (cD n v) (dnC n κ φ F)=some (.bl (!decide (v∈F.map κ))):=by unfold dnC cD;simp only [dInN,Cg,ξ (Cn n v),if_true];congr 3;exact decide_eq_decide.mpr mem_kC
theorem Rb:∀{F:List β},(F.map κ).Nodup->e∈F->valN (F.map fun e=>kC n (κ e)) (F.map φ) (kC n (κ e))=some (φ e)
 | [],_,h=>by cases h
 | a::F,nd,h=>by
  unfold valN;rw [List.map_cons,List.map_cons,List.zip_cons_cons];rw [List.map_cons,List.nodup_cons] at nd;by_cases q:κ a=κ e
  . have:e=a:=by
     rcases List.mem_cons.mp h with z | z
     . exact z
     . exact absurd (List.mem_map.mpr ⟨e,z,q.symm⟩) nd.1
    subst this
    rw [List.find?_cons_of_pos (by simp)];rfl
  . rw [List.find?_cons_of_neg (by simpa using fun z=>q (Oz z))];exact Rb nd.2 ((List.mem_cons.mp h).resolve_left fun z=>q (by rw [z]))
theorem Oy (nd:(F.map κ).Nodup) (h:e∈F):dIxN (dnC n κ φ F) (cD n (κ e))=some (φ e):=by unfold dnC cD;simp only [dIxN,Cg,ξ (Cn n _),Rb nd h]
theorem Ra (h:κ e∉F.map κ) (hl:F.length<100000):dSetN (dnC n κ φ F) (cD n (κ e)) (φ e)=some (dnC n κ φ (F++[e])):=by unfold dnC cD;simp only [dSetN,Cg,List.length_map];rw [ξ ⟨hl,Cn n _⟩];unfold C8 l6;rw [ψ fun z=>h (mem_kC.mp z),ψ fun z=>h (mem_kC.mp z),List.map_append,List.map_append];rfl
end
def oD:Option P2->D
 | none=>.non
 | some w=>T2 w
abbrev fdD (n:Int) (F:List En):D:=dnC n (fun e:En=>e.1) (fun e=>.tup [.int e.2.1,oD e.2.2]) F
def D21:List P2:=(List.range 8).flatMap fun (a:Nat)=>(((List.range 8).filter fun b=>decide (a+2<=b)).map fun (b:Nat)=>((a:Int),(b:Int)))
theorem vA (h0:0<=a) (h1:a+2<=b) (h2:b<=7):(a,b)∈D21:=by unfold D21;rw [List.mem_flatMap];refine ⟨a.toNat,List.mem_range.mpr (by lia),?_⟩;rw [List.mem_map];exact ⟨b.toNat,List.mem_filter.mpr ⟨List.mem_range.mpr (by lia),decide_eq_true (by lia)⟩,Prod.ext (by simp only;lia) (by simp only;lia)⟩
theorem D21_nd:D21.Nodup:=by decide +kernel
theorem Ki (g:Gd n v):(D21.filter fun p=>decide (p∈v)).Perm v:=by obtain ⟨⟨T,K⟩,hs,hl,h8⟩:=g;rw [List.perm_ext_iff_of_nodup (D21_nd.filter _) K.inv.nd];intro p;rw [List.mem_filter,decide_eq_true_eq];refine ⟨fun h=>h.2,fun h=>⟨?_,h⟩⟩;have:=K.inv.lin p.1 p.2 h;exact vA this.1 this.2.1 (by omega)
theorem X3 (nd:(ky F).Nodup) (hg:∀e∈F,Gd n e.1):F.length<=20349:=by
 by_cases hF:F=[]
 . subst hF;simp
 obtain ⟨e0,h0⟩:=List.exists_mem_of_ne_nil _ hF;obtain ⟨_,_,hl0,h8⟩:=hg e0 h0;have gk:∀v∈ky F,Gd n v:=fun v hv=>by obtain ⟨e,he,q⟩:=mem_ky.mp hv;rw [<-q];exact hg e he
 have nd2:((ky F).map fun v=>D21.filter fun p=>decide (p∈v)).Nodup:=by
  unfold List.Nodup at nd ⊢;rw [List.pairwise_map];refine nd.imp_of_mem fun {a b} ha hb hne e=>hne ?_
  have p:a.Perm b:=(Ki (gk a ha)).symm.trans (by rw [e];exact Ki (gk b hb));rw [<-(gk a ha).2.1,<-(gk b hb).2.1,Q0 p]
 have:=Pe (U:=sl D21 e0.1.length) nd2 fun s hs=>by obtain ⟨v,hv,rfl⟩:=List.mem_map.mp hs;have m:=Hg (List.filter_sublist (p:=fun p=>decide (p∈v)) (l:=D21));rw [(Ki (gk v hv)).length_eq] at m;have:=(gk v hv).2.2.1;rw [show v.length=e0.1.length by lia] at m;exact m
 rw [List.length_map,Hh,show D21.length=21 by decide +kernel] at this;have e1:(ky F).length=F.length:=List.length_map _;have:ch 21 e0.1.length<=20349:=by
  have h5:e0.1.length<=5:=by lia
  generalize e0.1.length=m at h5;rcases (by lia:m=0\/m=1\/m=2\/m=3\/m=4\/m=5) with rfl | rfl | rfl | rfl | rfl | rfl<;>decide +kernel
 lia
theorem Ge (s:Sl):Sl.frz false s=s:=by cases s<;>rfl
theorem N5 (n:Int) (v:List P2):(cD n v).noL=true:=by simp only [cD,D.noL,i7,zo,Bool.and_self]
theorem Bh (n:Int) (v:List P2):dIx (cD n v) (.int 0)=some (.int n):=Jf _ _
theorem Yj (n:Int) (v:List P2):dIx (cD n v) (.int 1)=some (.tup (v.map T2)):=Je _ _ _
theorem kf (o:Option P2):(oD o).noL=true:=by cases o with
 | none=>rfl
 | some w=>exact Z5 w
theorem ke (h:B.length<100000):v4 (.lst (B.map (cD n))) [cD n v]=some (.lst ((B++[v]).map (cD n))):=by simp only [v4,List.length_map];rw [ξ (by omega),List.map_append];rfl
theorem vz (n:Int) (F:List En):keeps true (fdD n F)=true:=by simp only [keeps,fdD,dnC,D.shal,if_true];exact V6 _ _ fun e _=>by simp only [D.noL,i7,kf,Bool.and_self]
theorem fb0 (M:Md (Gd n) (tu n) c0 k fr B F dn) (A:Sl) (hv:v∈fr) (hx:x∈v) (s5:Sl) :
  ∃(B':List (List P2)) (F':List En) (s:Sl),Md (Gd n) (tu n) c0 k fr B' F' (fun v' x'=>dn v' x'\/(v'=v/\x'=x)) /\
   Fc [A,.ow (fdD n F),.ow (.lst (B.map (cD n))),.im (cD n v),.im (T2 x),s5]=.nx [A,.ow (fdD n F'),.ow (.lst (B'.map (cD n))),.im (cD n v),.im (T2 x),s]:=by
 obtain ⟨o,ho⟩:=(M.fr v).mp hv
 have g:=M.bf.gd _ ho
 obtain ⟨e1,_⟩:=Re g hx
 obtain ⟨s1,s2⟩:=M.step (fun v x g h=>Yk v x g h) hv hx
 have fl:=X3 M.bf.nd M.bf.gd
 have bl:=M.bl
 generalize hr:tu n v x=r at *
 unfold Fc
 walk_at "dz"
 rw [e1]
 have kst:keeps false (D.tup [cD n r.1,T2 r.2])=true:=by simp only [keeps,Bool.false_eq_true,if_false,D.noL,i7,N5,Z5,Bool.and_self]
 simp only [y8,kst]
 walk_at "dz"
 rw [Hf]
 walk_at "dz"
 by_cases q:r.1∈ky F
 . rw [show (decide (r.1∈List.map (fun e:En=>e.1) F))=true from decide_eq_true q];walk_at "dz";exact ⟨B,F,_,s1 q,rfl⟩
 . rw [show (decide (r.1∈List.map (fun e:En=>e.1) F))=false from decide_eq_false q];walk_at "dz";have ix:dIxN (fdD n F) (cD n v)=some (.tup [.int k,oD o]):=Oy (κ:=fun e:En=>e.1) (φ:=fun e:En=>.tup [.int e.2.1,oD e.2.2]) M.bf.nd ho;rw [ix];walk_at "dz";simp only [show keeps false (cD n r.1)=true from N5 n r.1];walk_at "dz";have nw:dSetN (fdD n F) (cD n r.1) (.tup [.int (k+1),T2 r.2])=some (fdD n (F++[(r.1,k+1,some r.2)])):=Ra (κ:=fun e:En=>e.1) (φ:=fun e:En=>.tup [.int e.2.1,oD e.2.2]) (e:=(r.1,k+1,some r.2)) q (by lia);rw [nw];walk_at "dz";simp only [show (cD n r.1).noL=true from N5 n r.1];walk_at "dz";rw [ke (by lia)];walk_at "dz";exact ⟨_,_,_,s2 q,rfl⟩
theorem fb1 (M:Md (Gd n) (tu n) c0 k fr B F dn) (A:Sl) (hv:v∈fr) (s4 s5:Sl) :
  ∃(B':List (List P2)) (F':List En) (s4' s5':Sl),Md (Gd n) (tu n) c0 k fr B' F' (fun v' x'=>dn v' x'\/(v'=v/\x'∈v)) /\
   Fb [A,.ow (fdD n F),.ow (.lst (B.map (cD n))),.im (cD n v),s4,s5]=.nx [A,.ow (fdD n F'),.ow (.lst (B'.map (cD n))),.im (cD n v),s4',s5']:=by
 unfold Fb
 walk_at "dz"
 rw [Yj]
 walk_at "dz"
 simp only [Ge]
 obtain ⟨ρ',e,d,B',F',s4',s5',hd,M',hρ⟩:=Q2 (tg:=.n 4) (g:=Fc) (en:=T2)
  (fun r ρ=>∃(d:List P2) (B':List (List P2)) (F':List En) (s4' s5':Sl),d++r=v/\Md (Gd n) (tu n) c0 k fr B' F' (fun v' x'=>dn v' x'\/(v'=v/\x'∈d))/\ρ=[A,.ow (fdD n F'),.ow (.lst (B'.map (cD n))),.im (cD n v),s4',s5'])
  v [A,.ow (fdD n F),.ow (.lst (B.map (cD n))),.im (cD n v),s4,s5] ⟨[],B,F,_,_,rfl,M.imp fun v' x' h=>h.elim id fun z=>(by cases z.2),rfl⟩ (by
   rintro x r ρ ⟨d,B',F',s4',s5',hd,M',rfl⟩;obtain ⟨B2,F2,s,M2,e⟩:=fb0 M' A hv (x:=x) (by rw [<-hd];simp) s5';refine ⟨_,_,rfl,Or.inl e,d++[x],B2,F2,.im (T2 x),_,by rw [<-hd];simp,M2.imp fun v' x' h=>?_,rfl⟩;rcases h with h | ⟨h1,h2⟩
   . exact .inl (.inl h)
   . rcases List.mem_append.mp h2 with h2 | h2
     . exact .inl (.inr ⟨h1,h2⟩)
     . exact .inr ⟨h1,List.mem_singleton.mp h2⟩)
 rw [List.append_nil] at hd
 rw [hd] at M'
 rw [e,hρ]
 exact ⟨B',F',s4',s5',M',rfl⟩
theorem y2v (L:Lv (Gd n) (tu n) c0 k fr F) (hne:fr≠[]) :
  ∃(B:List (List P2)) (F':List En),Lv (Gd n) (tu n) c0 (k+1) B F'/\Ba [.lst (fr.map (cD n)),fdD n F]=.ok (fdD n F',.lst (B.map (cD n))):=by
 have go:∃(B:List (List P2)) (F':List En) (s3 s4 s5:Sl),Lv (Gd n) (tu n) c0 (k+1) B F'/\Ev [.im (.lst (fr.map (cD n))),.ow (fdD n F),.em,.em,.em,.em]=.nx [.im (.lst (fr.map (cD n))),.ow (fdD n F'),.ow (.lst (B.map (cD n))),s3,s4,s5]:=by
  unfold Ev;walk_at "dz";obtain ⟨ρ',e,d,B',F',s3,s4,s5,hd,M',hρ⟩:=Q2 (tg:=.n 3) (g:=Fb) (en:=cD n)
   (fun r ρ=>∃(d:List (List P2)) (B':List (List P2)) (F':List En) (s3 s4 s5:Sl),d++r=fr/\Md (Gd n) (tu n) c0 k fr B' F' (fun v' x'=>v'∈d/\x'∈v')/\ρ=[.im (.lst (fr.map (cD n))),.ow (fdD n F'),.ow (.lst (B'.map (cD n))),s3,s4,s5])
   fr [.im (.lst (fr.map (cD n))),.ow (fdD n F),.ow (.lst []),.em,.em,.em] ⟨[],[],F,_,_,_,rfl,L.md.imp fun v' x' h=>(by cases h.1),rfl⟩ (by
    rintro v r ρ ⟨d,B',F',s3,s4,s5,hd,M',rfl⟩;obtain ⟨B2,F2,t4,t5,M2,e⟩:=fb1 M' (.im (.lst (fr.map (cD n)))) (v:=v) (by rw [<-hd];simp) s4 s5;refine ⟨_,_,rfl,Or.inl e,d++[v],B2,F2,.im (cD n v),_,_,by rw [<-hd];simp,M2.imp fun v' x' h=>?_,rfl⟩;rcases List.mem_append.mp h.1 with h1 | h1
    . exact .inl ⟨h1,h.2⟩
    . have h1:=List.mem_singleton.mp h1;exact .inr ⟨h1,by rw [<-h1];exact h.2⟩)
  rw [List.append_nil] at hd;subst hd;rw [e,hρ];exact ⟨B',F',s3,s4,s5,M'.fin hne fun v hv x hx=>⟨hv,hx⟩,rfl⟩
 obtain ⟨B,F',s3,s4,s5,L',e⟩:=go
 refine ⟨B,F',L',?_⟩
 unfold Ba Bj
 show (match Ev [.im (.lst (fr.map (cD n))),.ow (fdD n F),.em,.em,.em,.em] with
  | .nx ρ=>match (ρ[1]?:Option Sl),(ρ[2]?:Option Sl) with
   | some (.ow d'),some (.ow r)=>R.ok (d',r)
   | _,_=>.st
  | _=>.st)=_
 rw [e]
 rfl
theorem xh (A:Sl):∀(m:Nat) (k:Int) (fr:List (List P2)) (F:List En),Lv (Gd n) (tu n) c0 k fr F->(30000 - k).toNat<=m->∀fuel,m<fuel ->
  ∃(k':Int) (F':List En),Lv (Gd n) (tu n) c0 k' [] F'/\E7 Eo Em fuel [A,.ow (fdD n F),.ow (.lst (fr.map (cD n)))]=.nx [A,.ow (fdD n F'),.ow (.lst [])]:=by
 intro m
 induction m with
 | zero=>
  intro k fr F L hk fuel hf
  have:=L.len
  have:=X3 L.bf.nd L.bf.gd
  lia
 | succ m ih=>
  intro k fr F L hk fuel hf
  have l1:=L.len
  have l2:=X3 L.bf.nd L.bf.gd
  obtain ⟨f,rfl⟩:∃f,fuel=f+1:=⟨fuel - 1,by lia⟩
  rw [Dr]
  have t:Eo (see [A,.ow (fdD n F),.ow (.lst (fr.map (cD n)))])=.ok (decide ((fr.length:Int) > 0)):=by unfold Eo;walk_at "dz";rw [List.length_map]
  rw [t,y8]
  by_cases q:fr=[]
  . subst q;refine ⟨k,F,L,?_⟩;rw [ψ (by simp)];rfl
  . have:0<fr.length:=List.length_pos_iff.mpr q;rw [ξ (decide_eq_true (by lia))];obtain ⟨B,F',L',e⟩:=y2v L q;have st:Em [A,.ow (fdD n F),.ow (.lst (fr.map (cD n)))]=.nx [A,.ow (fdD n F'),.ow (.lst (B.map (cD n)))]:=by unfold Em W3;walk_at "dz";simp only [Ge];rw [e];walk_at "dz"
    rw [st,Jd];exact ih (k+1) B F' L' (by lia) f (by lia)
theorem vy (g:Gd n c0):∃(k:Int) (F:List En),Lv (Gd n) (tu n) c0 k [] F/\Ao [cD n c0]=.ok (fdD n F):=by
 obtain ⟨k',F',L,e⟩:=xh (.im (cD n c0)) 30000 0 [c0] [(c0,0,none)] (Lv.start g) (by lia) 100000 (by lia);refine ⟨k',F',L,?_⟩;unfold Ao Vn;have d1:eDisp1 (a7 0) (v8 (a8 (eC (.int 0)) (a8 (eC .non) b8))) [some (cD n c0),none,none]=.ok (fdD n [(c0,0,none)]):=by unfold eDisp1;walk_at "dz";rw [cD];simp only [Cg,ξ (Cn _ _),R.of_some];rfl
 walk_at "dz";rw [d1];simp only [y8,vz];walk_at "dz";rw [N5];walk_at "dz";unfold P7;rw [show D.lst [cD n c0]=D.lst ([c0].map (cD n)) from rfl,e];walk_at "dz"
theorem Tm {β:Type} {n:Int} {κ:β->List P2} {φ:β->D} (F:List β):((F.map fun e=>kC n (κ e)).zip (F.map φ)).map (fun p=>D.tup [B0 p.1,p.2])=F.map fun e=>.tup [cD n (κ e),φ e]:=by
 induction F with
 | nil=>rfl
 | cons a F ih=>simp only [List.map_cons,List.zip_cons_cons,ih,y2u]
def TE (n:Int) (e:En):D:=.tup [cD n e.1,.int e.2.1]
theorem L7 (n:Int) (v:List P2):(cD n v).oi=true:=by simp only [cD,D.oi,ois,J5 v T2 O9,Bool.and_self]
theorem Hd (n:Int) (v:List P2):(cD n v).dep<=3:=by have:=U8 v T2 1 U1;simp only [cD,D.dep,h7];lia
theorem Mz (n:Int) (v:List P2):(cD n v).pl=true:=by simp only [cD,D.pl,pls,Y9 v T2 O8,Bool.and_self]
theorem My (n:Int) (e:En):(TE n e).oi=true:=by simp only [TE,D.oi,ois,L7,Bool.and_self]
theorem kd (n:Int) (e:En):(TE n e).dep<=4:=by have:=Hd n e.1;simp only [TE,D.dep,h7];lia
theorem Qz:∀a b:List P2,(j4 (a.map T2) (b.map T2)).isSome=true
 | [],[]=>by simp [j4]
 | [],_::_=>by simp [j4]
 | _::_,[]=>by simp [j4]
 | a::as,b::bs=>by
  simp only [List.map_cons,j4];split
  . exact Qz as bs
  . exact Pw a b
theorem kc (n:Int) (a b:List P2):(d8 (cD n a) (cD n b)).isSome=true:=by
 simp only [cD,d8,j4];split
 . split
   . rfl
   . exact Qz a b
 . rfl
theorem jZ (n:Int) (a b:En):(d8 (TE n a) (TE n b)).isSome=true:=by
 simp only [TE,d8,j4];split
 . split<;>rfl
 . exact kc n a.1 b.1
def sF (n:Int) (F:List En):List En:=sortB (fun a b=>ltT (TE n a) (TE n b)) F
theorem Jj (n:Int) (F:List En):(sF n F).Perm F:=Aq _ _
theorem jY (g:Gd n c0):∃(k:Int) (F:List En),Lv (Gd n) (tu n) c0 k [] F/\K1 [cD n c0]=.ok (.lst ((sF n F).map (TE n))):=by obtain ⟨k,F,L,e⟩:=vy g;have fl:=X3 L.bf.nd L.bf.gd;refine ⟨k,F,L,?_⟩;unfold K1 Mc;walk_at "dz";rw [Bh];walk_at "dz";rw [decide_eq_false (show ¬(8:Int)<n by have:=g.2.2.2;lia)];walk_at "dz";simp only [R1];walk_at "dz";rw [e];walk_at "dz";simp only [fdD,dnC,List.length_map,if_true];walk_at "dz";rw [Tm,List.length_map,ξ (by lia),An (en:=fun e:En=>D.tup [cD n e.1,.tup [.int e.2.1,oD e.2.2]]) (bs:=fun e:En=>[cD n e.1,.tup [.int e.2.1,oD e.2.2]]) (g:=TE n) F (fun x _=>rfl) (fun q _=>by unfold Xl;walk_at "dz";rfl)];walk_at "dz";rw [Dt F (TE n) 4 (by decide) (My n) (kd n) (jZ n) (by rw [U2 F (TE n) K5 fun _=>rfl,Bool.or_true])];walk_at "dz";rw [V9 (f:=TE n)];rfl
theorem Ha {α:Type} (f:α->D) (d:α) (xs:List α):((zD 0 (xs.map f).length).zip (xs.map f)).map (fun p=>D.tup [p.1,p.2])=(List.range xs.length).map fun (i:Nat)=>D.tup [.int (i:Int),f (xs.getD i d)]:=by
 have e:xs.map f=(List.range xs.length).map fun i=>f (xs.getD i d):=by
  conv=>lhs;rw [Px xs d]
  rw [List.map_map];rfl
 rw [e,Ua]
theorem Qy (p q:P2):C2 (T2 p) (T2 q)=some (ltT (T2 p) (T2 q)):=by
 simp only [T2,C2,r9,ltT,i6];split
 . split<;>rfl
 . rfl
theorem Tl:∀a b:List P2,r9 (a.map T2) (b.map T2)=some (i6 (a.map T2) (b.map T2))
 | [],[]=>by simp only [List.map_nil,r9,i6]
 | [],_::_=>by simp only [List.map_nil,List.map_cons,r9,i6]
 | _::_,[]=>by simp only [List.map_nil,List.map_cons,r9,i6]
 | p::a,q::b=>by simp only [List.map_cons,r9,i6,Tl a b,Qy];split<;>rfl
theorem vx (n:Int) (a b:List P2):C2 (cD n a) (cD n b)=some (ltT (cD n a) (cD n b)):=by
 simp only [cD,C2,r9,ltT,i6,Tl];split
 . split<;>rfl
 . rfl
theorem Gc (p:P2):(T2 p).ob=true:=by simp only [T2,D.ob,obs,Bool.and_self]
theorem Ox:∀v:List P2,obs (v.map T2)=true
 | []=>by simp only [List.map_nil,obs]
 | p::v=>by simp only [List.map_cons,obs,Gc,Ox v,Bool.and_self]
theorem y0m (p q:P2):K3 (T2 p) (T2 q)=some (.bl (ltT (T2 p) (T2 q))):=by unfold K3;rw [ξ ⟨Gc p,Gc q,by have:=U1 p;omega⟩,Qy];rfl
theorem y0n (n:Int) (a b:List P2):K3 (cD n a) (cD n b)=some (.bl (ltT (cD n a) (cD n b))):=by
 have o:∀v,(cD n v).ob=true:=fun v=>by simp only [cD,D.ob,obs,Ox,Bool.and_self]
 unfold K3;rw [ξ ⟨o a,o b,by have:=Hd n a;lia⟩,vx];rfl
theorem jX (hs:so2 v=v) (nd:v.Nodup):v.Pairwise fun p q=>ltT (T2 p) (T2 q)=true:=by
 have s:=Q5 (l:=v.map T2) (J5 v T2 O9);rw [Ab,hs] at s;unfold Srt at s;rw [List.pairwise_map] at s;refine (s.and nd).imp fun {p q} ⟨h1,h2⟩=>?_
 cases e:ltT (T2 p) (T2 q) with
 | true=>rfl
 | false=>exact absurd (Y8 (U3 (O9 p) (O9 q) e h1)) h2
theorem xg (A0 A1 A2:Sl) (p q:P2) (h1:ltT (T2 p) (T2 q)=true) (h2:¬(p.1<q.1/\q.1<p.2/\p.2<q.2)) :
  Ff [A0,A1,A2,.im (T2 q),.im (.int p.1),.im (.int p.2)]=.nx [A0,A1,A2,.im (T2 q),.im (.int p.1),.im (.int p.2)]:=by
 unfold Ff
 walk_at "dz"
 rw [show D.tup [D.int p.1,D.int p.2]=T2 p from rfl,y0m,h1]
 walk_at "dz"
 have:(decide (p.1<q.1)&&(decide (q.1<p.2)&&decide (p.2<q.2)))=false:=by
  cases e:(decide (p.1<q.1)&&(decide (q.1<p.2)&&decide (p.2<q.2))) with
  | false=>rfl
  | true=>simp only [Bool.and_eq_true,decide_eq_true_eq] at e;exact absurd e h2
 rw [this]
 walk_at "dz"
theorem wZ (g:Gd n v) (i:Nat) (hi:i<v.length) (s4 s5:Sl) :
  ∃s4' s5':Sl,Fe [.im (.int n),.im (.tup (v.map T2)),.im (.int (i:Int)),.im (T2 (v.getD i (0,0))),s4,s5]=.nx [.im (.int n),.im (.tup (v.map T2)),.im (.int (i:Int)),.im (T2 (v.getD i (0,0))),s4',s5']:=by
 obtain ⟨⟨T,K⟩,hs,hl,h8⟩:=g
 have hg:v[i]?=some v[i]:=List.getElem?_eq_getElem hi
 have hgd:v.getD i (0,0)=v[i]:=by rw [List.getD_eq_getElem?_getD,hg];rfl
 have hm:v.getD i (0,0)∈v:=by rw [hgd];exact List.getElem_mem hi
 have lt:=jX hs K.inv.nd
 have pre:∀p∈v.take i,ltT (T2 p) (T2 (v.getD i (0,0)))=true/\¬(p.1<(v.getD i (0,0)).1/\(v.getD i (0,0)).1<p.2/\p.2<(v.getD i (0,0)).2):=fun p hp=>by obtain ⟨j,hj,q⟩:=List.mem_iff_getElem.mp hp;rw [List.length_take] at hj;rw [List.getElem_take] at q;refine ⟨?_,K.inv.nc p.1 p.2 _ _ (by rw [<-q];exact List.getElem_mem _) hm⟩;rw [hgd,<-q];exact List.pairwise_iff_getElem.mp lt j i (by omega) hi (by omega)
 generalize v.getD i (0,0)=l at *
 have lin:=K.inv.lin l.1 l.2 hm
 unfold Fe
 walk_at "dz"
 rw [xj]
 walk_at "dz"
 rw [decide_eq_false (show ¬l.1<0 by omega),decide_eq_false (show ¬n - 1<l.2 by omega),decide_eq_true (show 1<l.2 - l.1 by omega),decide_eq_true (show l.2 - l.1<n - 1 by omega)]
 walk_at "dz"
 simp only [Bl]
 walk_at "dz"
 rw [show n9 (v.map T2) none (some (i:Int))=(v.take i).map T2 by unfold n9;simp only [HT.sIx,ψ (show ¬((i:Int)<0) by omega),Int.toNat_natCast,List.drop_zero,Nat.sub_zero,List.length_map,List.map_take];rw [Nat.min_eq_left (by omega)]]
 rw [ξ (fun h=>by have h2:=h.2;simp only [HT.sIx,ψ (show ¬((i:Int)<0) by omega),Int.toNat_natCast,List.length_map] at h2;omega)]
 walk_at "dz"
 obtain ⟨ρ',e,_,s4',s5',hρ⟩:=Q2 (tg:=.t [4,5]) (g:=Ff) (en:=T2)
  (fun r ρ=>(∀p∈r,ltT (T2 p) (T2 l)=true/\¬(p.1<l.1/\l.1<p.2/\p.2<l.2))/\∃s4' s5':Sl,ρ=[.im (.int n),.im (.tup (v.map T2)),.im (.int (i:Int)),.im (T2 l),s4',s5'])
  (v.take i) [.im (.int n),.im (.tup (v.map T2)),.im (.int (i:Int)),.im (T2 l),s4,s5] ⟨pre,_,_,rfl⟩ (by rintro p r ρ ⟨hp,s4',s5',rfl⟩;exact ⟨_,_,rfl,Or.inl (xg _ _ _ p l (hp p (by simp)).1 (hp p (by simp)).2),fun x hx=>hp x (by simp [hx]),_,_,rfl⟩)
 rw [e,hρ]
 exact ⟨s4',s5',rfl⟩
theorem vw (g:Gd n v):Be [.int n,.tup (v.map T2)]=.ok (.bl true):=by
 unfold Be Yd;walk_at "dz";simp only [Bk];walk_at "dz";rw [Ha T2 (0,0)];obtain ⟨ρ',e,s2,s3,s4,s5,hρ⟩:=Dw (tg:=.t [2,3]) (g:=Fe) v.length (fun (i:Nat)=>D.tup [.int (i:Int),T2 (v.getD i (0,0))])
  (fun k ρ=>∃s2 s3 s4 s5:Sl,ρ=[.im (.int n),.im (.tup (v.map T2)),s2,s3,s4,s5])
  [.im (.int n),.im (.tup (v.map T2)),.em,.em,.em,.em] ⟨_,_,_,_,rfl⟩ (by rintro i hi ρ ⟨s2,s3,s4,s5,rfl⟩;obtain ⟨s4',s5',e⟩:=wZ g i hi s4 s5;exact ⟨_,_,rfl,Or.inl e,_,_,_,_,rfl⟩)
 rw [e,hρ];walk_at "dz"
theorem vv (g:Gd n v):Bg [cD n v,.int n]=.ok (.bl true):=by have hl:=g.2.2.1;unfold Bg Yg;simp only [cD];walk_at "dz";rw [Cw];walk_at "dz";rw [vw g,List.length_map,decide_eq_true (show (v.length:Int)=n - 3 by lia),show decide (((2:Nat):Int)=2)=true from rfl];walk_at "dz"
abbrev faD (n:Int) (S:List En):D:=dnC n (fun e:En=>e.1) (fun e=>.int e.2.1) S
theorem y0o (nd:(ky F).Nodup):(sF n F).Pairwise fun a b=>ltT (cD n a.1) (cD n b.1)=true:=by
 have s:=Q5 (l:=F.map (TE n)) (J5 F (TE n) (My n));rw [V9 (f:=TE n)] at s;unfold Srt at s;rw [List.pairwise_map] at s;have nd':((sF n F).map fun e:En=>e.1).Nodup:=((Jj n F).map fun e:En=>e.1).nodup_iff.mpr nd;unfold List.Nodup at nd';rw [List.pairwise_map] at nd';refine (List.Pairwise.and s nd').imp fun {a b} ⟨h1,h2⟩=>?_
 cases e:ltT (cD n a.1) (cD n b.1) with
 | true=>rfl
 | false=>
  cases e2:ltT (cD n b.1) (cD n a.1) with
  | false=>exact absurd (Co (U3 (L7 n a.1) (L7 n b.1) e e2)) h2
  | true=>
   have ne:eqD (cD n b.1) (cD n a.1)=false:=by
    cases z:eqD (cD n b.1) (cD n a.1) with
    | false=>rfl
    | true=>exact absurd (Co (M7 (L7 n b.1) z (L7 n a.1))).symm h2
   have:ltT (TE n b) (TE n a)=true:=by show i6 [cD n b.1,.int b.2.1] [cD n a.1,.int a.2.1]=true;rw [i6,ψ (by rw [ne];exact η)];exact e2
   rw [this] at h1;cases h1
theorem Q9 (n:Int) (e:En):dIx (TE n e) (.int 0)=some (cD n e.1):=Jf _ _
theorem Mw (n:Int) (e:En):dIx (TE n e) (.int 1)=some (.int e.2.1):=Je _ _ _
theorem vt (n:Int) (S:List En):keeps true (faD n S)=true:=by simp only [keeps,faD,dnC,D.shal,if_true];exact V6 _ _ fun e _=>Um _
abbrev e0:En:=([],0,none)
theorem y0q {n:Int} {S:List En} (g:∀e∈S,Gd n e.1) (nd:(S.map fun e:En=>e.1).Nodup) (lt:S.Pairwise fun a b=>ltT (cD n a.1) (cD n b.1)=true) (hS:S.length<=20349) (i:Nat) (hi:i<S.length) :
  Ew [.im (.lst (S.map (TE n))),.im (.int n),.ow (faD n (S.take i)),.im (.int (i:Int)),.im (TE n (S.getD i e0))]=.nx [.im (.lst (S.map (TE n))),.im (.int n),.ow (faD n (S.take (i+1))),.im (.int (i:Int)),.im (TE n (S.getD i e0))]:=by
 have hg:S[i]?=some S[i]:=List.getElem?_eq_getElem hi
 have hgd:S.getD i e0=S[i]:=by rw [List.getD_eq_getElem?_getD,hg];rfl
 have hm:S.getD i e0∈S:=by rw [hgd];exact List.getElem_mem hi
 have tk:S.take (i+1)=S.take i++[S.getD i e0]:=by rw [List.take_add_one,hg,hgd];rfl
 have nk:(S.getD i e0).1∉(S.take i).map fun e:En=>e.1:=fun hh=>by
  obtain ⟨e,he,q⟩:=List.mem_map.mp hh;obtain ⟨j,hj,z⟩:=List.mem_iff_getElem.mp he;rw [List.length_take] at hj;rw [List.getElem_take] at z;have zz:(S.map fun e:En=>e.1)[j]'(by rw [List.length_map];omega)=(S.map fun e:En=>e.1)[i]'(by rw [List.length_map];omega):=by simp only [List.getElem_map];rw [z,<-hgd];exact q
  have:=(List.getElem_inj nd).mp zz;omega
 have pv:0<i->ltT (cD n (S.getD (i - 1) e0).1) (cD n (S.getD i e0).1)=true:=fun h0=>by
  have h1:S.getD (i - 1) e0=S[i - 1]'(by omega):=by rw [List.getD_eq_getElem?_getD,List.getElem?_eq_getElem (by omega)];rfl
  rw [hgd,h1];exact List.pairwise_iff_getElem.mp lt (i - 1) i (by omega) hi (by omega)
 have ic:=vv (g _ hm)
 have nw:dSetN (faD n (S.take i)) (cD n (S.getD i e0).1) (.int (S.getD i e0).2.1)=some (faD n (S.take (i+1))):=by rw [tk];exact Ra (κ:=fun e:En=>e.1) (φ:=fun e:En=>.int e.2.1) (e:=S.getD i e0) nk (by rw [List.length_take];omega)
 have ix:0<i->dIx (.lst (S.map (TE n))) (.int ((i:Int) - 1))=some (TE n (S.getD (i - 1) e0)):=fun h0=>by rw [show (i:Int) - 1=((i - 1:Nat):Int) by omega];refine Py ?_;rw [List.getElem?_map,List.getD_eq_getElem?_getD,List.getElem?_eq_getElem (show i - 1<S.length by omega)];rfl
 generalize S.getD i e0=e at *
 unfold Ew
 walk_at "dz"
 rw [show k7 "tuple" (TE n e)=some (.bl true) from Sc _,show m5 [TE n e]=some (.int 2) from rfl,Q9,Mw]
 walk_at "dz"
 rw [ic,Cw]
 walk_at "dz"
 by_cases h0:0<i
 . rw [decide_eq_true (show (i:Int) > 0 by omega),ix h0];walk_at "dz";simp only [Q9];walk_at "dz";rw [y0n,pv h0];walk_at "dz";simp only [Q9,Mw];walk_at "dz";rw [Q9];simp only [R.of_some,y8,show keeps false (cD n e.1)=true from N5 n e.1];walk_at "dz";rw [nw];walk_at "dz"
 . rw [decide_eq_false (show ¬(i:Int) > 0 by omega)];walk_at "dz";simp only [Q9,Mw];walk_at "dz";rw [Q9];simp only [R.of_some,y8,show keeps false (cD n e.1)=true from N5 n e.1];walk_at "dz";rw [nw];walk_at "dz"
theorem y0r (g:∀e∈S,Gd n e.1) (nd:(S.map fun e:En=>e.1).Nodup) (lt:S.Pairwise fun a b=>ltT (cD n a.1) (cD n b.1)=true) (hS:S.length<=20349) :
  Au [.lst (S.map (TE n)),.int n]=.ok (faD n S):=by
 unfold Au Xd
 walk_at "dz"
 simp only [X5]
 walk_at "dz"
 rw [show keeps true (D.dn [] [])=true from rfl]
 walk_at "dz"
 simp only [iEn]
 walk_at "dz"
 rw [Ha (TE n) e0]
 obtain ⟨ρ',e,s3,s4,hρ⟩:=Dw (tg:=.t [3,4]) (g:=Ew) S.length (fun (i:Nat)=>D.tup [.int (i:Int),TE n (S.getD i e0)])
  (fun k ρ=>∃s3 s4:Sl,ρ=[.im (.lst (S.map (TE n))),.im (.int n),.ow (faD n (S.take k)),s3,s4])
  [.im (.lst (S.map (TE n))),.im (.int n),.ow (.dn [] []),.em,.em] ⟨_,_,rfl⟩ (by rintro i hi ρ ⟨s3,s4,rfl⟩;exact ⟨_,_,rfl,Or.inl (y0q g nd lt hS i hi),_,_,rfl⟩)
 rw [e,hρ,List.take_length]
 walk_at "dz"
theorem y0s (n:Int) (a b:List P2):dEq (cD n a) (cD n b)=some (.bl (decide (a=b))):=by
 unfold dEq;rw [ξ ⟨Mz n a,Mz n b,by have:=Hd n a;lia⟩];congr 2;by_cases h:a=b
 . rw [h,Ad (L7 n b),decide_eq_true rfl]
 . rw [decide_eq_false h];cases z:eqD (cD n a) (cD n b) with
   | false=>rfl
   | true=>exact absurd (Co (M7 (L7 n a) z (L7 n b))) h
theorem y0t (k:Int) (xs:List Int):dIn true (.int k) (L xs)=some (.bl (!decide (k∈xs))):=by
 have h:=Mx k xs;have h1:h7 (xs.map D.int)<=0:=U8 xs D.int 0 fun x=>by simp [D.dep]
 have h2:pls (xs.map D.int)=true:=Y9 xs D.int fun x=>rfl
 unfold dIn dOr K8 at h ⊢;simp only [L,D.pl,h2,true_and,ξ (show h7 (xs.map D.int)<=20 by lia),Bool.false_eq_true,if_false,if_true,Option.some.injEq,D.bl.injEq] at h ⊢;rw [h]
section
variable {n:Int} {S:List En}
theorem jW (g:∀e∈S,Gd n e.1) (nd:(S.map fun e:En=>e.1).Nodup) (A0 A1:Sl) (hv:Gd n v) (hx:x∈v) (he:e'∈S) (hk:e'.1=(tu n v x).1) (d:Int) (ds:List Int) (hd:ds.length<1000) (s7:Sl) :
  ∃s:Sl,Cz [A0,A1,.im (faD n S),.im (cD n v),.im (.int d),.ow (L ds),.im (T2 x),s7]=.nx [A0,A1,.im (faD n S),.im (cD n v),.im (.int d),.ow (L (ds++[e'.2.1 - d])),.im (T2 x),s]:=by
 have e2:=(Re hv hx).2
 rw [<-hk] at e2
 have ix:dIxN (faD n S) (cD n e'.1)=some (.int e'.2.1):=Oy (κ:=fun e:En=>e.1) (φ:=fun e:En=>.int e.2.1) nd he
 have mm:e'.1∈S.map fun e:En=>e.1:=List.mem_map.mpr ⟨e',he,rfl⟩
 unfold Cz
 walk_at "dz"
 rw [e2]
 simp only [y8,show keeps false (cD n e'.1)=true from N5 n e'.1]
 walk_at "dz"
 rw [Hf,decide_eq_true mm]
 walk_at "dz"
 rw [ix]
 walk_at "dz"
 rw [Ci (by lia)]
 walk_at "dz"
 exact ⟨_,rfl⟩
theorem jV (L0:Lv (Gd n) (tu n) c0 k [] F) (hS:S=sF n F) (A0:Sl) (he:e∈S) (s5 s6 s7:Sl) :
  ∃s5' s6' s7':Sl,Cy [A0,.im (cD n c0),.im (faD n S),.im (cD n e.1),.im (.int e.2.1),s5,s6,s7]=.nx [A0,.im (cD n c0),.im (faD n S),.im (cD n e.1),.im (.int e.2.1),s5',s6',s7']:=by
 have pm:S.Perm F:=by rw [hS];exact Jj n F
 have nd:(S.map fun e:En=>e.1).Nodup:=(pm.map fun e:En=>e.1).nodup_iff.mpr L0.bf.nd
 have gS:∀e∈S,Gd n e.1:=fun e h=>L0.bf.gd e (pm.mem_iff.mp h)
 have hF:=pm.mem_iff.mp he
 have hg:=gS e he
 have hlen:e.1.length<=5:=by have:=hg.2.2;lia
 have zz:=L0.bf.z e hF
 unfold Cy
 walk_at "dz"
 rw [Yj]
 walk_at "dz"
 simp only [Ge]
 obtain ⟨ρ',eq,dn,ds,s6',s7',h1,h2,h3,h4,hρ⟩:=Q2 (tg:=.n 6) (g:=Cz) (en:=T2)
  (fun r ρ=>∃(dn:List P2) (ds:List Int) (s6' s7':Sl),dn++r=e.1/\ds.length=dn.length/\(∀y∈ds,y=-1\/y=0\/y=1)/\(∀x∈dn,∀e'∈F,e'.1=(tu n e.1 x).1->e'.2.1 - e.2.1∈ds)/\ρ=[A0,.im (cD n c0),.im (faD n S),.im (cD n e.1),.im (.int e.2.1),.ow (L ds),s6',s7'])
  e.1 [A0,.im (cD n c0),.im (faD n S),.im (cD n e.1),.im (.int e.2.1),.ow (L []),s6,s7] ⟨[],[],_,_,rfl,rfl,fun y hy=>(by cases hy),fun x hx=>(by cases hx),rfl⟩ (by
   rintro x r ρ ⟨dn,ds,s6',s7',h1,h2,h3,h4,rfl⟩;have hx:x∈e.1:=by rw [<-h1];simp
   have hdl:dn.length<=5:=by have:=congrArg List.length h1;simp at this;lia
   obtain ⟨e',q1,q2,q3,q4⟩:=L0.done (fun v x g h=>Yk v x g h) hF hx;obtain ⟨s,eq⟩:=jW gS nd A0 (.im (cD n c0)) hg hx (pm.mem_iff.mpr q1) q2 e.2.1 ds (by lia) s7';refine ⟨_,_,rfl,Or.inl eq,dn++[x],ds++[e'.2.1 - e.2.1],.im (T2 x),s,by rw [<-h1];simp,by simp [h2],fun y hy=>?_,fun x' hx' e2 he2 hk2=>?_,rfl⟩
   . rcases List.mem_append.mp hy with z | z
     . exact h3 y z
     . rw [List.mem_singleton.mp z];lia
   . rcases List.mem_append.mp hx' with z | z
     . exact List.mem_append_left _ (h4 x' z e2 he2 hk2)
     . rw [List.mem_singleton.mp z] at hk2;have:=Yl L0.bf.nd he2 q1 (hk2.trans q2.symm);rw [this];simp)
 rw [List.append_nil] at h1
 rw [show (D.lst []:D)=L [] from rfl,eq,hρ]
 walk_at "dz"
 rw [y0s,show decide (e.2.1=0)=decide (e.1=c0) from decide_eq_decide.mpr zz]
 walk_at "dz"
 rw [xD (d:=.bl (decide (e.1=c0))) rfl (by simp [D.dep])]
 walk_at "dz"
 rw [ξ (by rw [List.length_map,h2,h1];lia),An (en:=D.int) (bs:=fun y=>[D.int y]) (g:=fun y=>D.bl (decide (y∈[-1,0,1]))) ds (fun y _=>rfl) (fun y _=>by unfold Rn;walk_at "dz";rw [show D.lst [D.int (-1),D.int 0,D.int 1]=L [-1,0,1] from rfl,Mx];walk_at "dz")]
 walk_at "dz"
 rw [all_map _ (fun y:Int=>decide (y∈[-1,0,1])),show ds.all (fun y:Int=>decide (y∈[-1,0,1]))=true by rw [List.all_eq_true];intro y hy;exact decide_eq_true (by have:=h3 y hy;simp;lia)]
 walk_at "dz"
 by_cases h0:e.2.1=0
 . rw [decide_eq_true h0];walk_at "dz";exact ⟨_,_,_,rfl⟩
 . rw [decide_eq_false h0];walk_at "dz";obtain ⟨w,w1,w2,e',q1,q2,q3⟩:=L0.bf.bk e hF h0;have mm:(-1:Int)∈ds:=by have:=h4 w (by rw [h1];exact w2) e' q1 q2;rwa [q3,show e.2.1 - 1 - e.2.1=-1 by lia] at this
   rw [y0t,decide_eq_true mm];walk_at "dz";exact ⟨_,_,_,rfl⟩
end
theorem jU (c:Int):∃m:Nat,m<=57/\As [.int c]=.ok (.int (m:Int)):=by
 unfold As Wq;walk_at "dz";rw [C6 (by lia)];walk_at "dz";rw [Nv (by lia)];walk_at "dz";rw [C6 (by lia)];walk_at "dz";have a0:0<=c / 8 % 52:=Int.emod_nonneg _ (by decide);have a1:c / 8 % 52<52:=Int.emod_lt_of_pos _ (by decide);have b0:0<=c / 8 % 5:=Int.emod_nonneg _ (by decide);have b1:c / 8 % 5<5:=Int.emod_lt_of_pos _ (by decide);by_cases h1:c % 8=7
 . rw [decide_eq_true h1];exact ⟨(6+c / 8 % 52).toNat,by lia,by walk_at "dz";rw [show (((6+c / 8 % 52).toNat:Nat):Int)=6+c / 8 % 52 by lia]⟩
 . rw [decide_eq_false h1];walk_at "dz";rw [C6 (by lia)];walk_at "dz";by_cases h2:c % 8=6
   . rw [decide_eq_true h2];exact ⟨5,by lia,by walk_at "dz";rfl⟩
   . rw [decide_eq_false h2];exact ⟨(c / 8 % 5).toNat,by lia,by walk_at "dz";rw [Nv (by lia)];walk_at "dz";rw [C6 (by lia)];walk_at "dz";rw [show (((c / 8 % 5).toNat:Nat):Int)=c / 8 % 5 by lia]⟩
theorem wY (m:Nat) (A:Sl) (xs:List Int) (hx:xs.length=m) (i:Nat) (hi:i<1000) (one:Int) :
  ∃ys:List Int,ys.length=m/\Fa [.im (.int (m:Int)),A,.ow (L xs),.im (.int (i:Int)),.im (.int one)]=.nx [.im (.int (m:Int)),A,.ow (L ys),.im (.int (i:Int)),.im (.int one)]:=by
 unfold Fa
 walk_at "dz"
 by_cases h0:m=0
 . rw [decide_eq_false (show ¬(m:Int) > 0 by lia)];walk_at "dz";exact ⟨xs,hx,rfl⟩
 . rw [decide_eq_true (show (m:Int) > 0 by lia)];walk_at "dz";rw [C6 (by lia)];have j0:0<=(i:Int) % (m:Int):=Int.emod_nonneg _ (by lia);have j1:(i:Int) % (m:Int)<m:=Int.emod_lt_of_pos _ (by lia);walk_at "dz";rw [Fh j0 (by lia)];walk_at "dz";rw [Zt (by lia)];walk_at "dz";rw [C6 (by lia)];walk_at "dz";rw [C6 (by lia)];walk_at "dz";rw [Zv j0 (by lia)];walk_at "dz";exact ⟨_,by rw [List.length_set];exact hx,rfl⟩
theorem wX (m:Nat) (hm:m<=57) (cells:List Int) (hc:cells.length<=63):∃sp:List Int,sp.length=m/\Ay [.int (m:Int),L cells]=.ok (L sp):=by
 unfold Ay Xn;walk_at "dz";rw [show eLR (a8 (a7 0) b8) [some (.int (m:Int)),some (L cells),none,none,none]=.ok (L ((List.range m).map fun (i:Nat)=>(i:Int))) by unfold eLR;walk_at "dz";rw [ξ (by lia),Int.toNat_natCast]];walk_at "dz";simp only [iEn];walk_at "dz";simp only [L];walk_at "dz";rw [Ha D.int 0];obtain ⟨ρ',e,ys,s3,s4,hy,hρ⟩:=Dw (tg:=.t [3,4]) (g:=Fa) cells.length (fun (i:Nat)=>D.tup [.int (i:Int),.int (cells.getD i 0)])
  (fun k ρ=>∃(ys:List Int) (s3 s4:Sl),ys.length=m/\ρ=[.im (.int (m:Int)),.im (L cells),.ow (L ys),s3,s4])
  [.im (.int (m:Int)),.im (L cells),.ow (L ((List.range m).map fun (i:Nat)=>(i:Int))),.em,.em] ⟨_,_,_,by simp,rfl⟩ (by rintro i hi ρ ⟨ys,s3,s4,hy,rfl⟩;obtain ⟨zs,hz,e⟩:=wY m (.im (L cells)) ys hy i (by lia) (cells.getD i 0);exact ⟨_,_,rfl,Or.inl e,zs,_,_,hz,rfl⟩)
 simp only [L] at e;rw [e,hρ];walk_at "dz";exact ⟨ys,hy,rfl⟩
theorem jT (h:8<n):Az [cD n v]=.ok (.bl true):=by
 have er:K1 [cD n v]=.er ⟨"TooMany",[]⟩:=by unfold K1 Mc;walk_at "dz";rw [Bh];walk_at "dz";rw [decide_eq_true h];walk_at "dz";simp only [P5];walk_at "dz"
 have body:J3 (R4 knX K1 (a8 (a7 0) b8)) [.im (cD n v),.em]=.er ⟨"TooMany",[]⟩:=by walk_at "dz";simp only [R4];walk_at "dz";rw [er];rfl
 unfold Az;rw [qc,ξ (show [cD n v].length=1 from rfl)];show SR.out false (Mq [.im (cD n v),.em])=_;unfold Mq;rw [wV];unfold Bm;rw [body];rfl
theorem wW (ns:List Int) (hns:ns.length<=63):S6 [.scr ns]=.ok (.bl true):=by
 obtain ⟨m,hm,em⟩:=jU (pkv ns 0);obtain ⟨sp,hsp,ep⟩:=wX m hm (n9 ns (some 1) none) (Nat.le_trans (Ri _ _ _) hns);obtain ⟨n,ls,T,K,h3,h60,hl,ec⟩:=y0j sp (by lia);obtain ⟨v,hv⟩:∃v,v=so2 ls:=⟨_,rfl⟩;rw [<-hv] at ec;have ec:W0 [L sp]=.ok (cD n v):=ec;unfold S6 Nf;walk_at "dz";rw [km ns hns];walk_at "dz";rw [em];walk_at "dz";rw [ep];walk_at "dz";rw [ec];simp only [y8,show keeps false (cD n v)=true from N5 n v];walk_at "dz";rw [Bh];walk_at "dz";by_cases h8:(8:Int)<n
 . rw [decide_eq_true h8];walk_at "dz";rw [jT h8];walk_at "dz"
 . rw [decide_eq_false h8];walk_at "dz";have g:Gd n v:=⟨⟨T,Tn K (by rw [hv];exact F1 ls)⟩,by rw [hv,Rg],by rw [hv,(F1 ls).length_eq];lia,by lia⟩;obtain ⟨k,F,L0,ed⟩:=jY g;obtain ⟨S,hS⟩:∃S,S=sF n F:=⟨_,rfl⟩;have pm:S.Perm F:=by rw [hS];exact Jj _ F
   have nd:(S.map fun e:En=>e.1).Nodup:=(pm.map fun e:En=>e.1).nodup_iff.mpr L0.bf.nd;have gS:∀e∈S,Gd n e.1:=fun e h=>L0.bf.gd e (pm.mem_iff.mp h)
   have fl:=X3 L0.bf.nd L0.bf.gd;have hSl:S.length<=20349:=by rw [pm.length_eq];exact fl
   rw [ed,<-hS];walk_at "dz";rw [Bh];walk_at "dz";rw [y0r gS nd (by rw [hS];exact y0o L0.bf.nd) hSl];simp only [y8,vt];walk_at "dz";have mm:v∈S.map fun e:En=>e.1:=by obtain ⟨e,he,q⟩:=mem_ky.mp L0.bf.c0;exact List.mem_map.mpr ⟨e,pm.mem_iff.mpr he,q⟩
   rw [Hf,decide_eq_true mm];walk_at "dz";simp only [R1];walk_at "dz";simp only [faD,dnC,List.length_map,if_true];walk_at "dz";rw [Tm (κ:=fun e:En=>e.1) (φ:=fun e:En=>.int e.2.1)];obtain ⟨ρ',e,_,s3,s4,s5,s6,s7,hρ⟩:=Q2 (tg:=.t [3,4]) (g:=Cy) (en:=fun e:En=>D.tup [cD n e.1,.int e.2.1])
    (fun r ρ=>(∀e∈r,e∈S)/\∃s3 s4 s5 s6 s7:Sl,ρ=[.im (.scr ns),.im (cD n v),.im (faD n S),s3,s4,s5,s6,s7])
    S [.im (.scr ns),.im (cD n v),.im (faD n S),.em,.em,.em,.em,.em] ⟨fun e h=>h,_,_,_,_,_,rfl⟩ (by rintro e r ρ ⟨hr,s3,s4,s5,s6,s7,rfl⟩;obtain ⟨t5,t6,t7,eq⟩:=jV L0 hS (.im (.scr ns)) (hr e (by simp)) s5 s6 s7;exact ⟨_,_,rfl,Or.inl eq,fun x hx=>hr x (by simp [hx]),_,_,_,_,_,rfl⟩)
   simp only [faD,dnC] at e hρ;rw [e,hρ];walk_at "dz"
end K73
namespace K73
open PySem PySem.Spec PyProof.Rows L2
theorem walk {l:PySem.W.OpenLaw} {q:Program} {loose:List Str} {XP:(Str->Option Value)->Heap->Prop} {YP:World->Heap->Prop} {d:DefRec} {K:Params->Frag} (hn:l.most=some 63) (hdf:d.params.defaults=[])
  (hY:∀(w:World) (h:Heap),YP w h->(K w.params).In h)
  (F:∀(w:World) (mg:Str->Option Value) (fa:Addr) (h:Heap),(K w.params).In h->h.Ns mainGlobals mg->mg d.name=some (.ref fa) ->
   ∃fd:FuncData,(∀(s:Shared) (u:Value),BindsTo s fd ⟨[u],[]⟩ [("_law_script",u)])/\∀base:Heap,(K w.params).In base->base.Ns mainGlobals mg->FnOk l.prog w (K w.params) mg base (CX1 l.prog w) 11 fa fd ["_law_script"] (spL (K w.params) false S6 1)) :
  PySem.W.WalkO q loose XP YP l.row.toRowW d [] (fun f vs=>PySem.call f vs):=
 L2.walk_of (n:=63) (k:=11) (x:="_law_script") (CX:=fun w=>CX1 l.prog w) (sp:=fun w=>(spL (K w.params) false S6 1)) hn (by decide) hdf ⟨rfl,by decide,by decide⟩ hY F (fun _ _ a ns hl hO hS=>qt hO hS (wW ns hl)) fun _ _ _ _ _ ⟨_,_,_,_,_,_,z⟩=>z
end K73
open PySem PySem.W PyProof.Rows
set_option maxRecDepth 100000 in
set_option maxHeartbeats 0 in
theorem PySem.Challenge.cw_friezeyard_k73_whole_distances_holds : PySem.Challenge.rw_friezeyard_k73_whole_distances.Holds := by
 w_on;o_law
 refine holds_open (q:=K73.q) (loose:=[]) (Xt:=K73.xtH) (XP:=XL K73.q []) (Yf:=K73.hook.obs) (Ya:=K73.hook.val)
  (YP:=K73.hook.says) (N:=4884) K73.left K73.hook.of K73.hook.keeps
  (fun s e=>xl_of s (Bool.and_eq_true_iff.mp e).1) XL.keeps (by rfl) (by rfl) (by rfl)
  (fun s e=>recFacts_of (Bool.and_eq_true_iff.mp e).2) (by rfl) (by assumption) (by decide +kernel)
  ⟨rfl,rfl,rfl,rfl,rfl,by decide +kernel⟩ ?hw ?hc
 (case hw=>w_witness2)
 refine K73.walk (l:=PySem.Challenge.rw_friezeyard_k73_whole_distances) (K:=K73.K) rfl rfl (fun w h Y=>Y) ?F
 case F=>
  intro w mg fa h KX G hmg
  k_fill
  refine' K73.all_mk KX G hmg ?A0 ?A1 ?A2 ?A3 ?A4 ?A5 ?A6 ?A7 ?A8 ?A9 ?A10 ?A11 ?A12 ?A13 ?A14 ?A15 ?A16 ?A17 ?A18 ?A19 ?A20 ?A21 ?A22 ?A23 ?A24 ?A25 ?A26 ?A27 ?A28 ?T ?Z
  (case A0=>apply L2.fat;k_is;k_is;k_is;k_is)
  (case A1=>apply L2.fat;k_is;k_is;k_is;k_is)
  (case A2=>apply L2.fat;k_is;k_is;k_is;k_is)
  (case A3=>apply L2.fat;k_is;k_is;k_is;k_is)
  (case A4=>apply L2.fat;k_is;k_is;k_is;k_is)
  (case A5=>apply L2.fat;k_is;k_is;k_is;k_is)
  (case A6=>apply L2.fat;k_is;k_is;k_is;k_is)
  (case A7=>apply L2.fat;k_is;k_is;k_is;k_is)
  (case A8=>apply L2.fat;k_is;k_is;k_is;k_is)
  (case A9=>apply L2.fat;k_is;k_is;k_is;k_is)
  (case A10=>apply L2.fat;k_is;k_is;k_is;k_is)
  (case A11=>apply L2.fat;k_is;k_is;k_is;k_is)
  (case A12=>apply L2.fat;k_is;k_is;k_is;k_is)
  (case A13=>apply L2.fat;k_is;k_is;k_is;k_is)
  (case A14=>apply L2.fat;k_is;k_is;k_is;k_is)
  (case A15=>apply L2.fat;k_is;k_is;k_is;k_is)
  (case A16=>apply L2.fat;k_is;k_is;k_is;k_is)
  (case A17=>apply L2.fat;k_is;k_is;k_is;k_is)
  (case A18=>apply L2.fat;k_is;k_is;k_is;k_is)
  (case A19=>apply L2.fat;k_is;k_is;k_is;k_is)
  (case A20=>apply L2.fat;k_is;k_is;k_is;k_is)
  (case A21=>apply L2.fat;k_is;k_is;k_is;k_is)
  (case A22=>apply L2.fat;k_is;k_is;k_is;k_is)
  (case A23=>apply L2.fat;k_is;k_is;k_is;k_is)
  (case A24=>apply L2.fat;k_is;k_is;k_is;k_is)
  (case A25=>apply L2.fat;k_is;k_is;k_is;k_is)
  (case A26=>apply L2.fat;k_is;k_is;k_is;k_is)
  (case A27=>apply L2.fat;k_is;k_is;k_is;k_is)
  (case A28=>apply L2.fat;k_is;k_is;k_is;k_is)
  (case T=>constructor<;>exact mg_none_of KX G (by k_is))
  (case Z=>constructor;exact mg_of KX G (by k_is);exact mg_of KX G (by k_is);exact mg_of KX G (by k_is);exact mg_of KX G (by k_is);exact mg_of KX G (by k_is);exact mg_of KX G (by k_is);exact mg_of KX G (by k_is);k_is;k_is;k_is;k_exc;k_exc;k_exc;k_is;k_is;k_is;k_is;k_is;k_is;kit_is;kit_is;kit_is;kit_is;kit_is;kit_is;kit_is;k_is;k_is;k_is;k_is;k_is;k_is;kit_is;kit_is;kit_is;kit_is;kit_is;kit_is;kit_is)
