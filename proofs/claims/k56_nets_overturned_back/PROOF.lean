import PyProof.Rows.All
import Wide.All
import OpenK.AllK
import Wide.FinOn
import Lean
import PyProof.EqAt
import PyProof.EqKinds
import PyProof.TupleCall
import KE.KIsAll
import KE.RegKIsAll
import PyProof.ExcArgsOwn
import PyProof.Rows.MinMaxN
import PyProof.Rows.CallKwBuiltin
import KE.KMinKey
import KE.KDictOf
import PyProof.AttrMissSeq
import KE.KSortAsk
import KE.KDictSum
import PySem.Challenge.RW_friezeyard_k56_nets_overturned_back
set_option compiler.extract_closed false
noncomputable section
open PySem.W (Frag codeIn hideAll hideAll_get keepIn kia_one mg_none_of mg_of nsIn)
set_option Elab.async false
set_option linter.all false
set_option maxRecDepth 100000
namespace L2
open PySem PySem.Spec PyProof.Rows
abbrev Key:=Sum Int Str
noncomputable def zcm:Key->Value->Bool
 | .inl k,v=>Value.isInt k v
 | .inr x,v=>Value.isStrOf x v
noncomputable def zx2 (w:World):Key->Int
 | .inl k=>hashInt k
 | .inr x=>hashStr w x
theorem z0q:∀{k:Key} {v:Value},zcm k v=true->(∃i t,k=Sum.inl i/\v=Value.int i t)\/(∃x t,k=Sum.inr x/\v=Value.str x t)
 | .inl i,v,h=>by
  obtain ⟨t,e⟩:=Value.isInt_shape (k:=i) (v:=v) h
  exact .inl ⟨i,t,rfl,e⟩
 | .inr x,v,h=>by
  obtain ⟨t,e⟩:=Value.isStrOf_shape (x:=x) (v:=v) h
  exact .inr ⟨x,t,rfl,e⟩
theorem zdq (i:Int) (t:Tok):zcm (.inl i) (.int i t)=true:=by simp [zcm,Value.isInt]
theorem zdr (x:Str) (t:Tok):zcm (.inr x) (.str x t)=true:=by simp [zcm,Value.isStrOf]
theorem znv (a b:Int):decide ((Sum.inl a:Key)=Sum.inl b)=(a==b):=by
 by_cases e:a=b
 . subst e;simp
 . have h:¬(Sum.inl a:Key)=Sum.inl b:=fun q=>e (Sum.inl.inj q)
   rw [decide_eq_false h]
   exact (beq_eq_false_iff_ne.mpr e).symm
theorem znw (a b:Str):decide ((Sum.inr a:Key)=Sum.inr b)=decide (a=b):=by
 by_cases e:a=b
 . subst e;simp
 . have h:¬(Sum.inr a:Key)=Sum.inr b:=fun q=>e (Sum.inr.inj q)
   rw [decide_eq_false h,decide_eq_false e]
theorem znx (a:Int) (b:Str):decide ((Sum.inl a:Key)=Sum.inr b)=false:=decide_eq_false (fun q=>nomatch q)
theorem zny (a:Str) (b:Int):decide ((Sum.inr a:Key)=Sum.inl b)=false:=decide_eq_false (fun q=>nomatch q)
noncomputable def z2j (prog:Program) (w:World):PySem.KeyKind prog w Key where
 is:=zcm
 hash:=zx2 w
 inj:=fun v a b ha hb=>by
  rcases z0q ha with ⟨i,t,rfl,rfl⟩ | ⟨x,t,rfl,rfl⟩
  . rcases z0q hb with ⟨j,u,rfl,e⟩ | ⟨y,u,rfl,e⟩
    . injection e with e1 _;rw [e1]
    . exact nomatch e
  . rcases z0q hb with ⟨j,u,rfl,e⟩ | ⟨y,u,rfl,e⟩
    . exact nomatch e
    . injection e with e1 _;rw [e1]
 byValue:=fun k v h=>by
  rcases z0q h with ⟨i,t,rfl,rfl⟩ | ⟨x,t,rfl,rfl⟩<;>rfl
 pyHash:=fun hv h=>by
  rcases z0q hv with ⟨i,t,rfl,rfl⟩ | ⟨x,t,rfl,rfl⟩
  . exact wpAny_pyHash_int h
  . exact wpAny_pyHash_str h
 eqBool:=fun hu hv h=>by
  rcases z0q hu with ⟨i,t,rfl,rfl⟩ | ⟨x,t,rfl,rfl⟩
  . rcases z0q hv with ⟨j,u,rfl,rfl⟩ | ⟨y,u,rfl,rfl⟩
    . rw [znv] at h;exact wpAny_eqBool_int h
    . rw [znx] at h;exact SeqAt.EqAt.int_str i t y u _ _ _ _ h
  . rcases z0q hv with ⟨j,u,rfl,rfl⟩ | ⟨y,u,rfl,rfl⟩
    . rw [zny] at h;exact SeqAt.EqAt.str_int x t j u _ _ _ _ h
    . rw [znw] at h;exact wpAny_eqBool_str h
 «strs»:=fun k x t v h=>by
  rcases z0q h with ⟨i,u,rfl,e⟩ | ⟨y,u,rfl,e⟩
  . exact nomatch e
  . injection e with e1 _
    subst e1
    cases v<;>rfl
theorem za8 (prog:Program) (w:World) (i:Int) (t:Tok):(z2j prog w).is (.inl i) (.int i t)=true:=zdq i t
theorem za9 (prog:Program) (w:World) (x:Str) (t:Tok):(z2j prog w).is (.inr x) (.str x t)=true:=zdr x t
inductive V where
 | non | bl (b:Bool) | int (i:Int) | str (x:Str) | byt (b:Array UInt8) | flt (b:UInt64) | ref (a:Addr) | ty (n:String)
 deriving DecidableEq
def RelV:V->Value->Prop
 | .non,u=>u=Value.none
 | .bl b,u=>u=Value.bool b
 | .int i,u=>∃t,u=Value.int i t
 | .str x,u=>∃t,u=Value.str x t
 | .byt b,u=>∃t,u=Value.bytes b t
 | .flt b,u=>∃t,u=Value.float b t
 | .ref a,u=>u=Value.ref a
 | .ty n,u=>u=Value.type n
abbrev Vals:List V->List Value->Prop:=Paired RelV
theorem Vals.length {xs:List V} {us:List Value} (r:Vals xs us):xs.length=us.length:=Paired.length r
theorem Vals.get:∀{xs:List V} {us:List Value} {i:Nat} {x:V},Vals xs us->xs[i]?=some x->∃u,us[i]?=some u/\RelV x u
 | _,_,_,_,.nil,e=>by simp at e
 | _,_,0,_,.cons r _,e=>by simp at e;subst e;exact ⟨_,rfl,r⟩
 | _,_,i+1,x,.cons _ t,e=>by
  obtain ⟨u,h1,h2⟩:=Vals.get (i:=i) (x:=x) t (by simpa using e)
  exact ⟨u,by simpa using h1,h2⟩
theorem Vals.set {x:V} {u:Value} (r:RelV x u):∀{xs:List V} {us:List Value} (i:Nat),Vals xs us->Vals (xs.set i x) (us.set i u)
 | _,_,_,.nil=>.nil
 | _,_,0,.cons _ t=>.cons r t
 | _,_,i+1,.cons q t=>.cons q (Vals.set r i t)
theorem Vals.append:∀{xs ys:List V} {us ws:List Value},Vals xs us->Vals ys ws->Vals (xs++ys) (us++ws)
 | _,_,_,_,.nil,s=>s
 | _,_,_,_,.cons r t,s=>.cons r (Vals.append t s)
theorem Vals.take:∀{xs:List V} {us:List Value} (n:Nat),Vals xs us->Vals (xs.take n) (us.take n)
 | _,_,0,_=>.nil
 | _,_,_+1,.nil=>.nil
 | _,_,n+1,.cons r t=>.cons r (Vals.take n t)
theorem Vals.drop:∀{xs:List V} {us:List Value} (n:Nat),Vals xs us->Vals (xs.drop n) (us.drop n)
 | _,_,0,r=>r
 | _,_,_+1,.nil=>.nil
 | _,_,n+1,.cons _ t=>Vals.drop n t
def RelO:Option V->Option Value->Prop
 | some v,some u=>RelV v u
 | none,none=>True
 | _,_=>False
def KV {κ:Type}:List (κ×V)->List (κ×Value)->Prop:=Paired fun (p:κ×V) (q:κ×Value)=>p.1=q.1/\RelV p.2 q.2
noncomputable def kV:Key->V
 | .inl i=>.int i
 | .inr x=>.str x
inductive HO where
 /-- a list -/
 | lst (xs:List V)
 /-- a tuple (never changes) -/
 | tup (xs:List V)
 /-- a dict whose keys are ints and texts;one whose keys are tuples of ints and texts (the empty one is both) -/
 | dK (kvs:List (Key×V)) | dT (kvs:List (List Key×V))
 /-- a set of ints: its members,its size -/
 | set (S:Int->Bool) (n:Nat)
 /-- an instance of the class at C,its dict at dx,its attributes -/
 | ins (C dx:Addr) (fs:List (Str×V))
 /-- the dict of the instance at x -/
 | own (x:Addr)
 /-- the dict of an exception -/
 | xd (fs:List (Str×V))
 /-- a bound method,f of x -/
 | met (f x:Addr)
 /-- a range object lo,lo+1,.. below hi -/
 | rng (lo hi:Int)
 /-- a thing that is known to the object (the script;a dict while a loop walks it): read,never written while it is so -/
 | frz (o:Obj) (u:HO)
 /-- a code object's table -/
 | tbl (ps:Array Value)
 /-- any other thing,by what is true of its one object (a def of one's own: SetO a S n:=HO.ext fun h=>..) -/
 | ext (φ:Heap->Prop)
abbrev Hp:=Addr->Option HO
noncomputable def upd (H:Hp) (a:Addr) (o:HO):Hp:=fun b=>if b=a then some o else H b
theorem z0r {H:Hp} {a:Addr} {o:HO}:upd H a o a=some o:=by unfold upd;rw [if_pos rfl]
theorem z0a {H:Hp} {a b:Addr} {o:HO} (h:b≠a):upd H a o b=H b:=by unfold upd;rw [if_neg h]
theorem z08 {H:Hp} {a b:Addr} {o:HO} (h:H a=some o) (h':H b=none):a≠b:=by
 intro e;subst e;rw [h] at h';cases h'
section
variable (P:Program) (w:World)
def ObjOk (H:Hp) (h:Heap) (a:Addr):HO->Prop
 | .lst xs=>xs.length<=sizeLine/\∃(its:List Value) (n:Nat),Vals xs its/\h.get? a=some { cls:=.type "list",data:=.seq its.toArray n }
 | .tup xs=>xs.length<=sizeLine/\∃its:List Value,Vals xs its/\IsTup h a its.toArray
 | .dK kvs=>kvs.length<=sizeLine/\(a==sysModules)=false/\∃vs,KV kvs vs/\h.DictOf (z2j P w) a vs
 | .dT kvs=>kvs.length<=sizeLine/\(a==sysModules)=false/\∃xs:List (List Key×Addr×Value),
  Paired (fun (p:List Key×V) (q:List Key×Addr×Value)=>p.1=q.1/\H q.2.1=some (.tup (p.1.map kV))/\RelV p.2 q.2.2) kvs xs /\
  ∃o es ep,h.get? a=some o/\o.ExactDict/\o.data=.dict es ep/\es.toList=xs.map (entryOfKey (tupleKind (z2j P w)))/\(xs.map (·.1)).Nodup
 | .set S n=>h.SetOf (intKind P w) a S n
 | .ins C dx fs=>H dx=some (.own a)/\fs.length<=1000/\dx≠a/\h.get? a=some (PySem.W.instObj C dx) /\
  ∃mA,h.Ns1 dx mA/\(∀f,RelO (fs.lookup f) (mA f))/\PySem.Within mA (fs.map (·.1))
 | .own _=>∃o,h.get? a=some o
 | .xd fs=>∃mA,h.Ns1 a mA/\∀f,RelO (fs.lookup f) (mA f)
 | .rng lo hi=>∃t u v,h.get? a=some { cls:=.type "range",data:=.fields #[.int lo t,.int hi u,.int 1 v] }
 | .frz o u=>h.get? a=some o/\ObjOk H h a u
 | .tbl ps=>h.get? a=some { cls:=.none,data:=.fields ps }
 | .met f x=>h.get? a=some (PySem.W.methodObj (.ref f) (.ref x))
 | .ext φ=>φ h/\(∃o,h.get? a=some o)/\∀h1 h2:Heap,φ h1->(∀o,h1.get? a=some o->h2.get? a=some o)->φ h2
def HOk (H:Hp) (h:Heap):Prop:=∀a o,H a=some o->ObjOk P w H h a o
end
section
variable {P:Program} {w:World} {H H':Hp} {h h':Heap} {a:Addr} {o:HO}
theorem ObjOk.lt (x:ObjOk P w H h a o):a<h.objs.size:=by
 cases o with
 | lst xs=>obtain ⟨_,_,_,_,e⟩:=x;exact Heap.lt_size e
 | tup xs=>obtain ⟨_,_,_,p⟩:=x;exact p.lt
 | dK kvs=>obtain ⟨_,_,_,_,o,_,_,e,_⟩:=x;exact Heap.lt_size e
 | dT kvs=>obtain ⟨_,_,_,_,o,_,_,e,_⟩:=x;exact Heap.lt_size e
 | set S n=>obtain ⟨o,_,_,_,e,_⟩:=x;exact Heap.lt_size e
 | ins C dx fs=>obtain ⟨_,_,_,e,_⟩:=x;exact Heap.lt_size e
 | own y=>obtain ⟨_,e⟩:=x;exact Heap.lt_size e
 | xd fs=>obtain ⟨_,⟨_,_,_,e,_⟩,_⟩:=x;exact Heap.lt_size e
 | rng lo hi=>obtain ⟨_,_,_,e⟩:=x;exact Heap.lt_size e
 | frz ob u=>obtain ⟨e,_⟩:=x;exact Heap.lt_size e
 | tbl ps=>exact Heap.lt_size (show h.get? a=some _ from x)
 | met f y=>exact Heap.lt_size (show h.get? a=some _ from x)
 | ext φ=>obtain ⟨_,⟨_,e⟩,_⟩:=x;exact Heap.lt_size e
theorem Paired.mapP {α β:Type} {F G:α->β->Prop}:∀{l₁:List α} {l₂:List β},Paired F l₁ l₂->(∀a b,F a b->G a b)->Paired G l₁ l₂
 | _,_,.nil,_=>.nil
 | _,_,.cons r t,f=>.cons (f _ _ r) (Paired.mapP t f)
theorem ObjOk.stay (x:ObjOk P w H h a o) (k:∀b u,(b=a\/H b=some (.own a))->h.get? b=some u->h'.get? b=some u)
  (ho:∀b,H b=some (.own a)->H' b=some (.own a)) (ht:∀b xs,H b=some (.tup xs)->H' b=some (.tup xs)):ObjOk P w H' h' a o:=by
 induction o with
 | lst xs=>obtain ⟨z,its,n,r,e⟩:=x;exact ⟨z,its,n,r,k _ _ (.inl rfl) e⟩
 | tup xs=>obtain ⟨z,its,r,ob,e,c⟩:=x;exact ⟨z,its,r,ob,k _ _ (.inl rfl) e,c⟩
 | dK kvs=>obtain ⟨z,y,vs,r,ob,es,ep,e,c⟩:=x;exact ⟨z,y,vs,r,ob,es,ep,k _ _ (.inl rfl) e,c⟩
 | dT kvs=>
  obtain ⟨z,y,xs,r,ob,es,ep,e,c⟩:=x
  exact ⟨z,y,xs,Paired.mapP r fun p q z=>⟨z.1,ht _ _ z.2.1,z.2.2⟩,ob,es,ep,k _ _ (.inl rfl) e,c⟩
 | set S n=>obtain ⟨ob,es,ep,t,e,c⟩:=x;exact ⟨ob,es,ep,t,k _ _ (.inl rfl) e,c⟩
 | ins C dx fs=>
  obtain ⟨d,z,ne,e,mA,⟨od,es,ep,e2,c⟩,r⟩:=x
  exact ⟨ho _ d,z,ne,k _ _ (.inl rfl) e,mA,⟨od,es,ep,k _ _ (.inr d) e2,c⟩,r⟩
 | own y=>obtain ⟨ob,e⟩:=x;exact ⟨ob,k _ _ (.inl rfl) e⟩
 | xd fs=>obtain ⟨mA,⟨od,es,ep,e,c⟩,r⟩:=x;exact ⟨mA,⟨od,es,ep,k _ _ (.inl rfl) e,c⟩,r⟩
 | rng lo hi=>obtain ⟨t,u,v,e⟩:=x;exact ⟨t,u,v,k _ _ (.inl rfl) e⟩
 | frz ob u ih=>obtain ⟨e,q⟩:=x;exact ⟨k _ _ (.inl rfl) e,ih q⟩
 | tbl ps=>
  have e:h.get? a=some { cls:=.none,data:=.fields ps }:=x
  show h'.get? a=some { cls:=.none,data:=.fields ps }
  exact k a _ (.inl rfl) e
 | met f y=>
  have e:h.get? a=some (PySem.W.methodObj (.ref f) (.ref y)):=x
  show h'.get? a=some (PySem.W.methodObj (.ref f) (.ref y))
  exact k a _ (.inl rfl) e
 | ext φ=>obtain ⟨p,⟨o,e⟩,st⟩:=x;exact ⟨st _ _ p fun o q=>k _ _ (.inl rfl) q,⟨o,k _ _ (.inl rfl) e⟩,st⟩
theorem HOk.lt (x:HOk P w H h) (e:H a=some o):a<h.objs.size:=(x a o e).lt
theorem HOk.fresh (x:HOk P w H h) (e:h.objs.size<=a):H a=none:=by
 cases q:H a with
 | none=>rfl
 | some u=>exact absurd (Nat.lt_of_lt_of_le (x.lt q) e) (Nat.lt_irrefl _)
theorem HOk.kept (x:HOk P w H h) (k:∀b u,h.get? b=some u->h'.get? b=some u):HOk P w H h':=fun a o e=>
 (x a o e).stay (fun b u _ q=>k b u q) (fun _ q=>q) fun _ _ q=>q
theorem HOk.laid (x:HOk P w H h) (k:∀b u,h.get? b=some u->h'.get? b=some u) (hp:h.objs.size<=a) (new:ObjOk P w (upd H a o) h' a o):HOk P w (upd H a o) h':=fun b u e=>by
 have hn:=x.fresh hp
 by_cases hb:b=a
 . subst hb;rw [z0r] at e;cases e;exact new
 . rw [z0a hb] at e
   exact (x b u e).stay (fun c v _ q=>k c v q) (fun c q=>by rw [z0a (z08 q hn)];exact q) fun c xs q=>by rw [z0a (z08 q hn)];exact q
end
def Rd (H:Hp) (a:Addr) (u:HO):Prop:=H a=some u\/∃o,H a=some (.frz o u)
theorem Rd.of {H:Hp} {a:Addr} {u:HO} (h:H a=some u):Rd H a u:=.inl h
theorem Rd.ok {P:Program} {w:World} {H:Hp} {h:Heap} {a:Addr} {u:HO} (r:Rd H a u) (x:HOk P w H h):ObjOk P w H h a u:=by
 rcases r with r | ⟨o,r⟩
 . exact x a u r
 . obtain ⟨_,q⟩:=x a _ r
   exact q
def Mut:Option HO->Prop
 | some (.lst _)=>True
 | some (.dK _)=>True
 | some (.dT _)=>True
 | some (.set _ _)=>True
 | some (.ins _ _ _)=>True
 | some (.ext _)=>True
 | _=>False
section
variable {P:Program} {w:World} {H:Hp} {h h':Heap} {x e:Addr} {o':HO}
theorem HOk.write (ok:HOk P w H h) (mu:Mut (H x)) (he:e=x\/H e=some (.own x)) (k:∀b u,b≠e->h.get? b=some u->h'.get? b=some u) (heo:∃u,h'.get? e=some u)
  (new:ObjOk P w (upd H x o') h' x o'):HOk P w (upd H x o') h':=fun b u q=>by
 have nown:∀c y,H c=some (.own y)->c≠x:=fun c y r z=>by subst z;rw [r] at mu;exact mu
 have ntup:∀c xs,H c=some (.tup xs)->c≠x:=fun c xs r z=>by subst z;rw [r] at mu;exact mu
 by_cases hb:b=x
 . subst hb;rw [z0r] at q;cases q;exact new
 . rw [z0a hb] at q
   by_cases hbe:b=e
   . have q':H b=some (.own x):=by
      rcases he with z | z
      . exact absurd (hbe.trans z) hb
      . rw [hbe];exact z
     rw [q] at q';cases q'
     obtain ⟨v,hv⟩:=heo
     exact ⟨v,by rw [hbe];exact hv⟩
   . refine (ok b u q).stay (fun c v hc r=>k c v ?_ r) (fun c r=>by rw [z0a (nown c b r)];exact r) fun c xs r=>by rw [z0a (ntup c xs r)];exact r
     rcases hc with rfl | hc
     . exact hbe
     . rintro rfl
       rcases he with z | z
       . exact nown c b hc z
       . rw [hc] at z;cases z;exact hb rfl
end
structure Un (fs ex:List Addr) (H H':Hp) (h h':Heap):Prop where
 keep:∀b o,h.get? b=some o->H b=none->b∉fs->b∉ex->h'.get? b=some o
 slot:∀b o,h.get? b=some o->H b=none->b∈fs->b∉ex->∃sl,h'.get? b=some { o with slots:=sl }
 free:∀b o,h.get? b=some o->H b=none->b∉ex->H' b=none
 there:∀b o,h.get? b=some o->b∉ex->∃o',h'.get? b=some o'
 tups:∀b xs,H b=some (.tup xs)->H' b=some (.tup xs)
 frzs:∀b o u,H b=some (.frz o u)->H' b=some (.frz o u)
 tbls:∀b ps,H b=some (.tbl ps)->∃more,H' b=some (.tbl (ps++more))
section
variable {fs fs' ex ex':List Addr} {H H1 H2:Hp} {h h1 h2 h':Heap} {a x e:Addr} {o:HO}
theorem Un.any (u:Un fs ex H H1 h h1) {b:Addr} {ob:Obj} (q:h.get? b=some ob) (n:H b=none) (hx:b∉ex):∃sl,h1.get? b=some { ob with slots:=sl }:=by
 by_cases hb:b∈fs
 . exact u.slot b ob q n hb hx
 . exact ⟨ob.slots,u.keep b ob q n hb hx⟩
theorem Un.kept (k:∀b u,h.get? b=some u->h'.get? b=some u):Un fs ex H H h h':=
 ⟨fun b ob q _ _ _=>k b ob q,fun b ob q _ _ _=>⟨ob.slots,k b ob q⟩,fun _ _ _ n _=>n,fun b ob q _=>⟨ob,k b ob q⟩,fun _ _ q=>q,fun _ _ _ q=>q,fun _ ps q=>⟨#[],by rw [q];simp⟩⟩
theorem Un.refl:Un fs ex H H h h:=Un.kept fun _ _ q=>q
theorem Un.laid (k:∀b u,h.get? b=some u->h'.get? b=some u) (hp:h.objs.size<=a) (hn:H a=none):Un fs ex H (upd H a o) h h' where
 keep:=fun b u q _ _ _=>k b u q
 slot:=fun b u q _ _ _=>⟨u.slots,k b u q⟩
 free:=fun b u q n _=>by rw [z0a (Nat.ne_of_lt (Nat.lt_of_lt_of_le (Heap.lt_size q) hp))];exact n
 there:=fun b u q _=>⟨u,k b u q⟩
 tups:=fun b xs q=>by rw [z0a (z08 q hn)];exact q
 frzs:=fun b u xs q=>by rw [z0a (z08 q hn)];exact q
 tbls:=fun b ps q=>⟨#[],by rw [z0a (z08 q hn),q];simp⟩
theorem Un.write (mu:Mut (H x)) (he:e=x\/H e=some (.own x)) (k:∀b u,b≠e->h.get? b=some u->h'.get? b=some u) (heo:∃u,h'.get? e=some u):Un fs ex H (upd H x o) h h':=by
 have hx:∀b,H b=none->b≠x:=fun b n z=>by subst z;rw [n] at mu;exact mu
 have hb:∀b,H b=none->b≠e:=fun b n z=>by
  subst z
  rcases he with r | r
  . exact hx b n r
  . rw [n] at r;cases r
 have hm:∀b u,H b=some u->¬Mut (some u)->b≠x:=fun b u q nm z=>by subst z;rw [q] at mu;exact nm mu
 refine ⟨fun b u q n _ _=>k b u (hb b n) q,fun b u q n _ _=>⟨u.slots,k b u (hb b n) q⟩,fun b u q n _=>by rw [z0a (hx b n)];exact n,fun b u q _=>?_,
  fun b xs q=>by rw [z0a (hm b _ q fun z=>z)];exact q,fun b u xs q=>by rw [z0a (hm b _ q fun z=>z)];exact q,fun b ps q=>⟨#[],by rw [z0a (hm b _ q fun z=>z),q];simp⟩⟩
 by_cases hbe:b=e
 . subst hbe;exact heo
 . exact ⟨u,k b u hbe q⟩
end
noncomputable def trk (h:Heap) (H:Hp):List Addr:=(List.range h.objs.size).filter fun a=>(H a).isSome
noncomputable def zh9 (h:Heap) (H:Hp):Heap:=hideAll h (trk h H)
theorem zds (h:Heap) (H:Hp):(zh9 h H).objs.size=h.objs.size:=PySem.W.hideAll_size _ _
theorem zha {h:Heap} {H:Hp} {b:Addr} {o:Obj} (e:h.get? b=some o) (n:H b=none):(zh9 h H).get? b=some o:=
 hideAll_get _ e fun hm=>by
  have q:(H b).isSome=true:=(List.mem_filter.mp hm).2
  rw [n] at q;simp at q
theorem zkl {h:Heap} {H:Hp} {b:Addr} {o:Obj} (e:(zh9 h H).get? b=some o):h.get? b=some o/\H b=none:=by
 have e':h.get? b=some o:=PySem.W.of_hideAll (trk h H) e
 refine ⟨e',?_⟩
 cases q:H b with
 | none=>rfl
 | some x=>
  have hm:b∈trk h H:=List.mem_filter.mpr ⟨List.mem_range.mpr (Heap.lt_size e'),by simp [q]⟩
  have z:(zh9 h H).get? b=none:=PySem.W.hideAll_none (trk h H) hm
  rw [z] at e;cases e
noncomputable def z63 (g h:Heap) (L:Addr):List (Addr×Obj):=(List.range h.objs.size).filterMap fun a=>if a=L\/(g.get? a).isSome=true then none else (h.get? a).map fun o=>(a,o)
theorem zaa {g h:Heap} {L a:Addr} {o:Obj} (h1:a≠L) (h2:g.get? a=none) (h3:h.get? a=some o):(a,o)∈z63 g h L:=
 List.mem_filterMap.mpr ⟨a,List.mem_range.mpr (Heap.lt_size h3),by simp [h1,h2,h3]⟩
theorem z6y {g h:Heap} {L:Addr} {p:Addr×Obj} (hp:p∈z63 g h L):p.1≠L/\g.get? p.1=none/\h.get? p.1=some p.2:=by
 obtain ⟨b,_,e⟩:=List.mem_filterMap.mp hp
 split at e
 . cases e
 . rename_i hn
   cases q:h.get? b with
   | none=>rw [q] at e;simp at e
   | some u=>
    rw [q] at e
    simp only [Option.map_some,Option.some.injEq] at e
    subst e
    refine ⟨fun z=>hn (.inl z),?_,q⟩
    show g.get? b=none
    cases r:g.get? b with
    | none=>rfl
    | some v=>exact (hn (.inr (by simp [r]))).elim
noncomputable def rest (g h:Heap) (L d:Addr):List (Addr×Obj):=(z63 g h L).filter fun p=>decide (p.1≠d)
theorem z7w {g h:Heap} {L:Addr}:News g L h (z63 g h L):=fun p hp=>let ⟨a,b,c⟩:=z6y hp;⟨c,a,b⟩
structure Mod (K:Frag) (mg:Str->Option Value) (base:Heap):Prop where
 kin:K.In base
 glob:base.Ns mainGlobals mg
 blt:∃mb,base.Ns builtinsNs mb/\∀x:Str,x≠"__name__"->mb x=bootBuiltins x
 nolimit:base.NoLimit
structure Cx where
 prog:Program
 w:World
 K:Frag
 mg:Str->Option Value
 base:Heap
 A:Around
 N:List Str
 s₀:Shared
 H₀:Hp
 env:Env
 outer:List Env
 stack:List Env
 ex:List Addr
 fn:Str->Bool
 calm:Bool
 pn:List (Addr×Obj)
 xe:Value->Shared->Prop
noncomputable def frs (l:List Env):List Addr:=l.filterMap (·.frame)
abbrev Cx.fs (X:Cx):List Addr:=frs X.outer
def Vis (sc:Scope) (x:Str):Prop:=sc.names.lookup x=some .local\/sc.names.lookup x=some .cell\/sc.names.lookup x=some .free
def Loc (sc:Scope) (x:Str):Prop:=sc.names.lookup x=some .local\/sc.names.lookup x=some .cell
def zx3 (env:Env) (h:Heap) (m:Str->Option Value) (x:Str) (u:Value):Prop:=
 (env.kindOf x=some .local/\m x=some u)\/((env.kindOf x=some .cell\/env.kindOf x=some .free)/\∃c,env.cells.lookup x=some c/\h.IsCell c (some u))
structure Cx.Ok (X:Cx):Prop where
 mod:Mod X.K X.mg X.base
 kind:X.env.scope.kind=.function
 glob:X.env.globals=mainGlobals
 blt:X.env.builtins=builtinsNs
 above:X.s₀.heap.objs.size<=X.env.locals
 inj:∀x y c,X.env.cells.lookup x=some c->X.env.cells.lookup y=some c->x=y
 has:∀x,(X.env.kindOf x=some .cell\/X.env.kindOf x=some .free)->∃c,X.env.cells.lookup x=some c
 cab:∀x c,X.fn x=true->X.env.cells.lookup x=some c->X.s₀.heap.objs.size<=c
 hd:X.calm=true->X.A.handled=none
 frames:X.A.frames=some X.stack
 stk:X.stack=X.outer\/(X.stack=X.env::X.outer/\X.env.frame=some X.env.locals)
 exf:∀b∈X.ex,b≠X.env.locals/\∀x c,X.env.cells.lookup x=some c->c≠b
 bs:∀b o,X.base.get? b=some o->X.s₀.heap.get? b=some o/\X.H₀ b=none
 bsz:X.base.objs.size<=X.s₀.heap.objs.size
 noex:∀b o,X.base.get? b=some o->b∉X.ex
 exfs:∀b∈X.ex,b∉X.fs
 funs:X.s₀.heap.FunFrames X.base X.outer
 frf:∀b∈X.fs,X.H₀ b=none
structure Inv (X:Cx) (pins:List (Addr×Obj)) (σ:List (Option V)) (H:Hp) (s:Shared):Prop where
 ok:X.Ok
 os:s.os=X.s₀.os
 bare:AllBare s.gens
 base:Un X.fs X.ex X.H₀ H X.s₀.heap s.heap
 loc:∃m,s.heap.Ns X.env.locals m/\∀(i:Nat) (x:Str) (v:V),X.N[i]?=some x->σ[i]?=some (some v)->Vis X.env.scope x->∃u,RelV v u/\zx3 X.env s.heap m x u
 cell:∀x c,X.env.cells.lookup x=some c->∃v,s.heap.IsCell c v
 free:H X.env.locals=none
 freeC:∀x c,X.env.cells.lookup x=some c->H c=none
 pin:∀p∈X.pn++pins,s.heap.get? p.1=some p.2/\H p.1=none/\p.1≠X.env.locals/\p.1∉X.fs/\∀v,p.2.data≠.cell v
 hok:HOk X.prog X.w H s.heap
 len:σ.length=X.N.length
section
variable {X:Cx} {pins:List (Addr×Obj)} {σ:List (Option V)} {H H':Hp} {s:Shared} {h':Heap}
theorem Cx.Ok.nofr (ok:X.Ok) {b:Addr} {o:Obj} (e:X.base.get? b=some o):b∉X.fs:=fun hb=>by
 have:=(ok.funs.mem hb).1
 rw [e] at this;cases this
theorem Inv.bs (I:Inv X pins σ H s):∀b o,X.base.get? b=some o->s.heap.get? b=some o/\H b=none:=fun b o e=>
 ⟨I.base.keep b o (I.ok.bs b o e).1 (I.ok.bs b o e).2 (I.ok.nofr e) (I.ok.noex b o e),I.base.free b o (I.ok.bs b o e).1 (I.ok.bs b o e).2 (I.ok.noex b o e)⟩
theorem Inv.bk (I:Inv X pins σ H s):∀b o,X.base.get? b=some o->s.heap.get? b=some o:=fun b o e=>(I.bs b o e).1
theorem Inv.mod (I:Inv X pins σ H s):Mod X.K X.mg X.base:=I.ok.mod
theorem Inv.kIn (I:Inv X pins σ H s):X.K.In s.heap:=I.ok.mod.kin.keeps I.bk
theorem Inv.lt (I:Inv X pins σ H s):X.env.locals<s.heap.objs.size:=let ⟨_,hn,_⟩:=I.loc;hn.lt
theorem Inv.sz (I:Inv X pins σ H s):X.s₀.heap.objs.size<=s.heap.objs.size:=Nat.le_trans I.ok.above (Nat.le_of_lt I.lt)
theorem Inv.nofs (I:Inv X pins σ H s) {a:Addr} (h:s.heap.objs.size<=a):a∉X.fs:=fun hb=>by
 obtain ⟨_,o,ho,_⟩:=I.ok.funs.mem hb
 exact absurd (Nat.lt_of_lt_of_le (Heap.lt_size ho) (Nat.le_trans I.sz h)) (Nat.lt_irrefl _)
theorem Inv.cne (I:Inv X pins σ H s):∀x c,X.env.cells.lookup x=some c->c≠X.env.locals:=fun x c e z=>by
 obtain ⟨v,o,ho,hd⟩:=I.cell x c e
 obtain ⟨m,⟨o',es,ep,ho',hd',_⟩,_⟩:=I.loc
 rw [z,ho'] at ho;cases ho;rw [hd'] at hd;cases hd
theorem Inv.funs (I:Inv X pins σ H s):s.heap.FunFrames X.base X.outer:=by
 have all:∀(l:List Env),(∀b∈frs l,b∈X.fs)->X.s₀.heap.FunFrames X.base l->s.heap.FunFrames X.base l:=by
  intro l
  induction l with
  | nil=>intro _ _;trivial
  | cons env r ih=>
   intro hs hl
   obtain ⟨hk,⟨L,o,hf,hn,ho,hd⟩,hr⟩:=hl
   have hL:L∈X.fs:=hs L (by unfold frs;rw [List.filterMap_cons,hf];exact List.mem_cons_self)
   obtain ⟨sl,e⟩:=I.base.slot L o ho (I.ok.frf L hL) hL fun z=>I.ok.exfs L z hL
   exact ⟨hk,⟨L,_,hf,hn,e,hd⟩,ih (fun b hb=>hs b (by unfold frs;rw [List.filterMap_cons,hf];exact List.mem_cons_of_mem _ hb)) hr⟩
 exact all X.outer (fun _ hb=>hb) I.ok.funs
theorem Inv.stack (I:Inv X pins σ H s):s.heap.FunFrames X.base X.stack:=by
 rcases I.ok.stk with e | ⟨e,hf⟩
 . rw [e];exact I.funs
 . rw [e]
   obtain ⟨m,hn,_⟩:=I.loc
   refine .cons (by rw [I.ok.kind];decide) hf hn ?_ I.funs
   exact Heap.get?_none_of_le (Nat.le_trans I.ok.bsz I.ok.above)
theorem Inv.stkSub (I:Inv X pins σ H s):∀b∈frs X.stack,b∈X.env.locals::X.fs:=fun b hb=>by
 rcases I.ok.stk with e | ⟨e,hf⟩
 . rw [e] at hb;exact List.mem_cons_of_mem _ hb
 . rw [e] at hb
   unfold frs at hb
   rw [List.filterMap_cons,hf] at hb
   exact hb
theorem Inv.stkFree (I:Inv X pins σ H s):∀b∈frs X.stack,H b=none:=fun b hb=>by
 rcases List.mem_cons.mp (I.stkSub b hb) with e | hb
 . rw [e];exact I.free
 . obtain ⟨_,o,ho,_⟩:=I.ok.funs.mem hb
   exact I.base.free b o ho (I.ok.frf b hb) fun z=>I.ok.exfs b z hb
theorem Inv.step {g':Array GenState} {t':Nat} {d':Drawn} {ch:List Addr} (I:Inv X pins σ H s)
  (hch:∀b∈ch,(b∈X.ex\/X.s₀.heap.objs.size<=b)/\b≠X.env.locals/\(∀x c,X.env.cells.lookup x=some c->c≠b)/\∀p∈X.pn++pins,p.1≠b)
  (keep:∀b o,b≠X.env.locals->b∉X.fs->b∉ch->s.heap.get? b=some o->H b=none->h'.get? b=some o)
  (slot:∀b o,b≠X.env.locals->b∈X.fs->b∉ch->s.heap.get? b=some o->H b=none->∃sl,h'.get? b=some { o with slots:=sl }) (free:∀b o,b∉ch->s.heap.get? b=some o->H b=none->H' b=none)
  (there:∀b o,b∉ch->s.heap.get? b=some o->∃o',h'.get? b=some o')
  (tups:∀b xs,H b=some (.tup xs)->H' b=some (.tup xs)) (frzs:∀b o u,H b=some (.frz o u)->H' b=some (.frz o u)) (tbls:∀b ps,H b=some (.tbl ps)->∃more,H' b=some (.tbl (ps++more)))
  (ns:∀m,s.heap.Ns X.env.locals m->h'.Ns X.env.locals m) (hok:HOk X.prog X.w H' h') (hg:AllBare g') :
  Inv X pins σ H' { s with heap:=h',gens:=g',drawn:=d',toks:=t' }:=by
 have neL:∀b o,X.s₀.heap.get? b=some o->b≠X.env.locals:=fun b o e=>Nat.ne_of_lt (Nat.lt_of_lt_of_le (Heap.lt_size e) I.ok.above)
 have neC:∀b o,X.s₀.heap.get? b=some o->b∉X.ex->b∉ch:=fun b o e hx hb=>by
  rcases (hch b hb).1 with z | z
  . exact hx z
  . exact absurd (Nat.lt_of_lt_of_le (Heap.lt_size e) z) (Nat.lt_irrefl _)
 have cellK:∀x c,X.env.cells.lookup x=some c->∀v,s.heap.IsCell c v->h'.IsCell c v:=fun x c e v ⟨o,ho,hd⟩=>by
  have nch:c∉ch:=fun z=>(hch c z).2.2.1 x c e rfl
  by_cases hc:c∈X.fs
  . obtain ⟨sl,q⟩:=slot c o (I.cne x c e) hc nch ho (I.freeC x c e)
    exact ⟨_,q,hd⟩
  . exact ⟨o,keep c o (I.cne x c e) hc nch ho (I.freeC x c e),hd⟩
 refine ⟨I.ok,I.os,hg,⟨fun b o e n hb hx=>?_,fun b o e n hb hx=>?_,fun b o e n hx=>?_,fun b o e hx=>?_,fun b xs e=>tups b xs (I.base.tups b xs e),fun b o xs e=>frzs b o xs (I.base.frzs b o xs e),fun b ps e=>?_⟩,?_,fun x c e=>?_,?_,fun x c e=>?_,fun p hp=>?_,hok,I.len⟩
 . exact keep b o (neL b o e) hb (neC b o e hx) (I.base.keep b o e n hb hx) (I.base.free b o e n hx)
 . obtain ⟨sl,e1⟩:=I.base.slot b o e n hb hx
   obtain ⟨sl',e2⟩:=slot b _ (neL b o e) hb (neC b o e hx) e1 (I.base.free b o e n hx)
   exact ⟨sl',e2⟩
 . obtain ⟨o',e1⟩:=I.base.there b o e hx
   exact free b o' (neC b o e hx) e1 (I.base.free b o e n hx)
 . obtain ⟨o',e1⟩:=I.base.there b o e hx
   exact there b o' (neC b o e hx) e1
 . obtain ⟨m1,e1⟩:=I.base.tbls b ps e
   obtain ⟨m2,e2⟩:=tbls b _ e1
   exact ⟨m1++m2,by rw [e2,Array.append_assoc]⟩
 . obtain ⟨m,hn,hl⟩:=I.loc
   refine ⟨m,ns m hn,fun i x v e1 e2 e3=>?_⟩
   obtain ⟨u,r,l⟩:=hl i x v e1 e2 e3
   refine ⟨u,r,?_⟩
   rcases l with l | ⟨k,c,e,z⟩
   . exact .inl l
   . exact .inr ⟨k,c,e,cellK x c e _ z⟩
 . obtain ⟨v,z⟩:=I.cell x c e
   exact ⟨v,cellK x c e v z⟩
 . obtain ⟨m,⟨o,_,_,ho,_⟩,_⟩:=I.loc
   exact free _ o (fun z=>(hch _ z).2.1 rfl) ho I.free
 . obtain ⟨v,o,ho,hd⟩:=I.cell x c e
   exact free c o (fun z=>(hch c z).2.2.1 x c e rfl) ho (I.freeC x c e)
 . obtain ⟨e,n,ne,nf,d⟩:=I.pin p hp
   have nch:p.1∉ch:=fun z=>(hch p.1 z).2.2.2 p hp rfl
   exact ⟨keep p.1 p.2 ne nf nch e n,free p.1 p.2 nch e n,ne,nf,d⟩
theorem Inv.un {t':Nat} (I:Inv X pins σ H s) (u:Un X.fs [] H H' s.heap h') (hok:HOk X.prog X.w H' h'):Inv X pins σ H' { s with heap:=h',toks:=t' }:=by
 obtain ⟨m,⟨o,es,ep,ho,r⟩,_⟩:=id I.loc
 obtain ⟨sl,hL⟩:=u.any ho I.free (by simp)
 exact I.step (g':=s.gens) (d':=s.drawn) (ch:=[]) (fun _ z=>nomatch z) (fun b o _ hb _ e n=>u.keep b o e n hb (by simp)) (fun b o _ hb _ e n=>u.slot b o e n hb (by simp)) (fun b o _ e n=>u.free b o e n (by simp)) (fun b o _ e=>u.there b o e (by simp)) u.tups u.frzs u.tbls (fun m' hm=>by
  obtain ⟨o',es',ep',ho',r'⟩:=hm
  rw [ho] at ho';cases ho'
  exact ⟨_,es',ep',hL,r'⟩) hok I.bare
theorem Inv.call {g':Array GenState} {t':Nat} {d':Drawn} {ch:List Addr} (I:Inv X pins σ H s) (u:Un (frs X.stack) ch H H' s.heap h') (hok:HOk X.prog X.w H' h') (hg:AllBare g')
  (hch:∀b∈ch,(b∈X.ex\/X.s₀.heap.objs.size<=b)/\b≠X.env.locals/\(∀x c,X.env.cells.lookup x=some c->c≠b)/\∀p∈X.pn++pins,p.1≠b) :
  Inv X pins σ H' { s with heap:=h',gens:=g',drawn:=d',toks:=t' }:=by
 obtain ⟨m,⟨o,es,ep,ho,r⟩,_⟩:=id I.loc
 obtain ⟨sl,hL⟩:=u.any ho I.free fun z=>(hch _ z).2.1 rfl
 exact I.step (ch:=ch) hch (fun b o hL hb hc e n=>u.keep b o e n (fun z=>(List.mem_cons.mp (I.stkSub b z)).elim hL hb) hc) (fun b o _ _ hc e n=>u.any e n hc) (fun b o hc e n=>u.free b o e n hc) (fun b o hc e=>u.there b o e hc) u.tups u.frzs u.tbls (fun m' hm=>by
  obtain ⟨o',es',ep',ho',r'⟩:=hm
  rw [ho] at ho';cases ho'
  exact ⟨_,es',ep',hL,r'⟩) hok hg
theorem Inv.turned {t':Nat} {it:Addr} (I:Inv X pins σ H s) (k:∀b o,b≠it->s.heap.get? b=some o->h'.get? b=some o) (hn:H it=none) (hL:it≠X.env.locals)
  (h1:it∈X.ex\/X.s₀.heap.objs.size<=it) (h2:∀x c,X.env.cells.lookup x=some c->c≠it) (h3:∀p∈X.pn++pins,p.1≠it):Inv X pins σ H { s with heap:=h',toks:=t' }:=by
 have nit:∀b u,H b=some u->b≠it:=fun b u e z=>by rw [z,hn] at e;cases e
 refine I.step (g':=s.gens) (d':=s.drawn) (ch:=[it]) (fun b hb=>?_) (fun b o _ _ hc e _=>k b o (fun z=>hc (by simp [z])) e) (fun b o _ _ hc e _=>⟨o.slots,k b o (fun z=>hc (by simp [z])) e⟩) (fun _ _ _ _ n=>n)
  (fun b o hc e=>⟨o,k b o (fun z=>hc (by simp [z])) e⟩) (fun _ _ e=>e) (fun _ _ _ e=>e) (fun b ps e=>⟨#[],by rw [e];simp⟩) (fun m hm=>?_) (fun b u e=>?_) I.bare
 . have e:b=it:=by simpa using hb
   subst e
   exact ⟨h1,hL,h2,h3⟩
 . obtain ⟨o,es,ep,ho,r⟩:=hm
   exact ⟨o,es,ep,k _ o (Ne.symm hL) ho,r⟩
 . refine (I.hok b u e).stay (fun c v hc q=>k c v ?_ q) (fun _ q=>q) fun _ _ q=>q
   rcases hc with z | z
   . rw [z];exact nit b u e
   . exact nit c _ z
theorem Inv.tok (I:Inv X pins σ H s) (t:Nat):Inv X pins σ H { s with toks:=t }:=I.un (h':=s.heap) (t':=t) Un.refl I.hok
theorem Inv.kept {t':Nat} (I:Inv X pins σ H s) (k:∀b u,s.heap.get? b=some u->h'.get? b=some u):Inv X pins σ H { s with heap:=h',toks:=t' }:=I.un (Un.kept k) (I.hok.kept k)
theorem Inv.laid {a:Addr} {o:HO} {t':Nat} (I:Inv X pins σ H s) (k:∀b u,s.heap.get? b=some u->h'.get? b=some u) (hp:s.heap.objs.size<=a) (new:ObjOk X.prog X.w (upd H a o) h' a o) :
 Inv X pins σ (upd H a o) { s with heap:=h',toks:=t' }:=I.un (Un.laid k hp (I.hok.fresh hp)) (I.hok.laid k hp new)
theorem Inv.write {x e:Addr} {o:HO} {t':Nat} (I:Inv X pins σ H s) (mu:Mut (H x)) (he:e=x\/H e=some (.own x)) (k:∀b u,b≠e->s.heap.get? b=some u->h'.get? b=some u) (heo:∃u,h'.get? e=some u)
 (new:ObjOk X.prog X.w (upd H x o) h' x o):Inv X pins σ (upd H x o) { s with heap:=h',toks:=t' }:=I.un (Un.write mu he k heo) (I.hok.write mu he k heo new)
theorem Inv.pins_of {pins':List (Addr×Obj)} (I:Inv X pins σ H s) (h:∀p∈pins',s.heap.get? p.1=some p.2/\H p.1=none/\p.1≠X.env.locals/\p.1∉X.fs/\∀v,p.2.data≠.cell v):Inv X pins' σ H s:=
 ⟨I.ok,I.os,I.bare,I.base,I.loc,I.cell,I.free,I.freeC,fun p hp=>(List.mem_append.mp hp).elim (fun z=>I.pin p (List.mem_append_left _ z)) (h p),I.hok,I.len⟩
theorem zb7 {N:List Str} (hN:N.Nodup) {i j:Nat} {x:Str} (a:N[i]?=some x) (b:N[j]?=some x):i=j:=by
 obtain ⟨h1,e1⟩:=List.getElem?_eq_some_iff.mp a
 obtain ⟨h2,e2⟩:=List.getElem?_eq_some_iff.mp b
 exact (List.getElem_inj hN).mp (e1.trans e2.symm)
theorem z8x {M:Model} {A:Around} {E:Value->Shared->Prop} {i:Nat} {x:Str} {v:V} {u:Value} {Q:Unit->Shared->Prop} (I:Inv X pins σ H s) (hN:X.N.Nodup) (hi:X.N[i]?=some x) (hx:Loc X.env.scope x) (r:RelV v u)
  (h:∀s',Inv X pins (σ.set i (some v)) H s'->(∃a,Heap.SameBut a s.heap s'.heap/\(a=X.env.locals\/X.env.cells.lookup x=some a))->Q () s') (hf:X.fn x=true\/X.env.scope.names.lookup x=some .local:=by first | exact .inl rfl | exact .inr rfl | assumption):wpAny M A (storeName X.env x u) Q E s:=by
 obtain ⟨m,hn,hl⟩:=id I.loc
 have hcls:(X.env.scope.kind==.class||(X.env.scope.kind==.module&&X.env.locals != X.env.globals))=false:=by rw [I.ok.kind];rfl
 have hiσ:i<σ.length:=by rw [I.len];exact (List.getElem?_eq_some_iff.mp hi).1
 have cne:=I.cne
 have tracked:∀{a:Addr} {h':Heap},(∃o,s.heap.get? a=some o/\H a=none)->Heap.SameBut a s.heap h'->HOk X.prog X.w H h':=fun {a h'} ha hs b ob e=>by
  obtain ⟨_,_,hfree⟩:=ha
  refine (I.hok b ob e).stay (fun c w' hc q=>(hs.2 c ?_).trans q) (fun _ q=>q) fun _ _ q=>q
  rintro rfl
  rcases hc with rfl | hc
  . rw [hfree] at e;cases e
  . rw [hfree] at hc;cases hc
 rcases hx with hk | hk
 . refine wpAny_storeName_local hk hn (fun h' hn' hs=>?_) hcls
   obtain ⟨oL,_,_,hoL,_⟩:=id hn
   refine h _ ⟨I.ok,I.os,I.bare,⟨fun b o e n hb hx=>?_,fun b o e n hb hx=>?_,I.base.free,fun b o e hx=>?_,I.base.tups,I.base.frzs,I.base.tbls⟩,⟨_,hn',fun j y v' e1 e2 e3=>?_⟩,fun y c e=>?_,I.free,I.freeC,fun p hp=>?_,tracked ⟨oL,hoL,I.free⟩ hs,by simpa using I.len⟩ ⟨_,hs,.inl rfl⟩
   . exact (hs.2 b (Nat.ne_of_lt (Nat.lt_of_lt_of_le (Heap.lt_size e) I.ok.above))).trans (I.base.keep b o e n hb hx)
   . obtain ⟨sl,e1⟩:=I.base.slot b o e n hb hx
     exact ⟨sl,(hs.2 b (Nat.ne_of_lt (Nat.lt_of_lt_of_le (Heap.lt_size e) I.ok.above))).trans e1⟩
   . obtain ⟨o',e1⟩:=I.base.there b o e hx
     exact ⟨o',(hs.2 b (Nat.ne_of_lt (Nat.lt_of_lt_of_le (Heap.lt_size e) I.ok.above))).trans e1⟩
   . by_cases hj:j=i
     . subst hj
       rw [hi] at e1;cases e1
       rw [List.getElem?_set_self hiσ] at e2
       cases e2
       exact ⟨u,r,.inl ⟨hk,by simp⟩⟩
     . rw [List.getElem?_set_ne (Ne.symm hj)] at e2
       obtain ⟨u',r',q⟩:=hl j y v' e1 e2 e3
       refine ⟨u',r',?_⟩
       rcases q with ⟨k,e⟩ | ⟨k,c,e,z⟩
       . refine .inl ⟨k,?_⟩
         have:y≠x:=fun e=>hj (zb7 hN e1 (e ▸ hi))
         simp [this,e]
       . exact .inr ⟨k,c,e,z.sameBut hs (cne y c e)⟩
   . obtain ⟨w',z⟩:=I.cell y c e
     exact ⟨w',z.sameBut hs (cne y c e)⟩
   . obtain ⟨e,n,ne,nf,d⟩:=I.pin p hp
     exact ⟨(hs.2 p.1 ne).trans e,n,ne,nf,d⟩
 . have hfn:X.fn x=true:=by
    rcases hf with z | z
    . exact z
    . rw [z] at hk;cases hk
   obtain ⟨c,hc⟩:=I.ok.has x (.inl hk)
   obtain ⟨w',z⟩:=I.cell x c hc
   refine wpAny_storeName_cell I.ok.kind hk hc z (fun h' hc' hs=>?_)
   obtain ⟨oc,hoc,hocd⟩:=id z
   refine h { s with heap:=h' } ⟨I.ok,I.os,I.bare,⟨fun b o e n hb hx=>?_,fun b o e n hb hx=>?_,I.base.free,fun b o e hx=>?_,I.base.tups,I.base.frzs,I.base.tbls⟩,⟨m,hn.sameBut hs (Ne.symm (cne x c hc)),fun j y v' e1 e2 e3=>?_⟩,fun y c' e=>?_,I.free,I.freeC,fun p hp=>?_,tracked ⟨oc,hoc,I.freeC x c hc⟩ hs,by simpa using I.len⟩ ⟨c,hs,.inr hc⟩
   . exact (hs.2 b (Nat.ne_of_lt (Nat.lt_of_lt_of_le (Heap.lt_size e) (I.ok.cab x c hfn hc)))).trans (I.base.keep b o e n hb hx)
   . obtain ⟨sl,e1⟩:=I.base.slot b o e n hb hx
     exact ⟨sl,(hs.2 b (Nat.ne_of_lt (Nat.lt_of_lt_of_le (Heap.lt_size e) (I.ok.cab x c hfn hc)))).trans e1⟩
   . obtain ⟨o',e1⟩:=I.base.there b o e hx
     exact ⟨o',(hs.2 b (Nat.ne_of_lt (Nat.lt_of_lt_of_le (Heap.lt_size e) (I.ok.cab x c hfn hc)))).trans e1⟩
   . by_cases hj:j=i
     . subst hj
       rw [hi] at e1;cases e1
       rw [List.getElem?_set_self hiσ] at e2
       cases e2
       exact ⟨u,r,.inr ⟨.inl hk,c,hc,hc'⟩⟩
     . rw [List.getElem?_set_ne (Ne.symm hj)] at e2
       obtain ⟨u',r',q⟩:=hl j y v' e1 e2 e3
       refine ⟨u',r',?_⟩
       rcases q with q | ⟨k,c',e,z'⟩
       . exact .inl q
       . refine .inr ⟨k,c',e,z'.sameBut hs ?_⟩
         rintro rfl
         exact hj (zb7 hN e1 (I.ok.inj _ _ _ e hc ▸ hi))
   . by_cases hcc:c'=c
     . subst hcc;exact ⟨_,hc'⟩
     . obtain ⟨w2,z2⟩:=I.cell y c' e
       exact ⟨w2,z2.sameBut hs hcc⟩
   . obtain ⟨e,n,ne,nf,d⟩:=I.pin p hp
     refine ⟨(hs.2 p.1 ?_).trans e,n,ne,nf,d⟩
     intro q
     rw [q,hoc] at e
     have q':oc=p.2:=Option.some.inj e
     exact d w' (by rw [<-q'];exact hocd)
theorem zb8 {M:Model} {A:Around} {E:Value->Shared->Prop} {i:Nat} {x:Str} {v:V} {u:Value} {Q:Unit->Shared->Prop} (I:Inv X pins σ H s) (hN:X.N.Nodup) (hi:X.N[i]?=some x) (hx:Loc X.env.scope x) (r:RelV v u)
  (h:∀s',Inv X pins (σ.set i (some v)) H s'->Q () s') (hf:X.fn x=true\/X.env.scope.names.lookup x=some .local:=by first | exact .inl rfl | exact .inr rfl | assumption):wpAny M A (storeName X.env x u) Q E s:=
 z8x I hN hi hx r (fun s' I' _=>h s' I') hf
theorem Inv.call' {s':Shared} {ch:List Addr} (I:Inv X pins σ H s) (ho:s'.os=s.os) (u:Un (frs X.stack) ch H H' s.heap s'.heap) (hok:HOk X.prog X.w H' s'.heap) (hg:AllBare s'.gens)
  (hch:∀b∈ch,(b∈X.ex\/X.s₀.heap.objs.size<=b)/\b≠X.env.locals/\(∀x c,X.env.cells.lookup x=some c->c≠b)/\∀p∈X.pn++pins,p.1≠b):Inv X pins σ H' s':=by
 obtain ⟨h',g',d',t',o'⟩:=s'
 have e:o'=s.os:=ho
 subst e
 exact I.call (g':=g') (t':=t') (d':=d') u hok hg hch
end
abbrev XK:=Value->Option Addr->Hp->Prop
abbrev St:=List (Option V)
abbrev VK:=V->Hp->Prop
abbrev TE:=St->Hp->VK->Prop
abbrev TT:=St->Hp->(Bool->Hp->Prop)->Prop
abbrev TA:=St->Hp->(List V->Hp->Prop)->Prop
structure Ends where
 nx:St->Hp->Prop
 rt:VK
 bk:St->Hp->Prop:=fun _ _=>False
 ct:St->Hp->Prop:=fun _ _=>False
abbrev TS:=Ends->St->Hp->Prop
def EP (X:Cx) (pins:List (Addr×Obj)) (σ:St) (Q:VK) (u:Value) (s':Shared):Prop:=∃v H',Inv X pins σ H' s'/\RelV v u/\Q v H'
def TP (X:Cx) (pins:List (Addr×Obj)) (σ:St) (Q:Bool->Hp->Prop) (b:Bool) (s':Shared):Prop:=∃H',Inv X pins σ H' s'/\Q b H'
def AP (X:Cx) (pins:List (Addr×Obj)) (σ:St) (Q:List V->Hp->Prop) (us:List Value) (s':Shared):Prop:=∃vs H',Inv X pins σ H' s'/\Vals vs us/\Q vs H'
def SP (X:Cx) (pins:List (Addr×Obj)) (D:Ends) (f:Flow) (s':Shared):Prop:=
 match f with
 | .next=>∃σ' H',Inv X pins σ' H' s'/\D.nx σ' H'
 | .brk=>∃σ' H',Inv X pins σ' H' s'/\D.bk σ' H'
 | .cont=>∃σ' H',Inv X pins σ' H' s'/\D.ct σ' H'
 | .ret u=>∃v σ' H',Inv X pins σ' H' s'/\RelV v u/\D.rt v H'
def PE (X:Cx) (e:Expr) (t:TE):Prop:=
 ∀(pins:List (Addr×Obj)) (s:Shared) (σ:St) (H:Hp) (Q:VK),Inv X pins σ H s->t σ H Q->wpAny (model X.prog X.w) X.A (eval e X.env) (EP X pins σ Q) X.xe s
def PT (X:Cx) (e:Expr) (t:TT):Prop:=
 ∀(pins:List (Addr×Obj)) (s:Shared) (σ:St) (H:Hp) (Q:Bool->Hp->Prop),Inv X pins σ H s->t σ H Q->wpAny (model X.prog X.w) X.A (isTrue e X.env (eval e X.env)) (TP X pins σ Q) X.xe s
def PW (X:Cx) (e:Expr) (t:TT):Prop:=
 ∀(whole:Sem Value) (pins:List (Addr×Obj)) (s:Shared) (σ:St) (H:Hp) (Q:Bool->Hp->Prop),Inv X pins σ H s->t σ H Q->wpAny (model X.prog X.w) X.A (isTrue e X.env whole) (TP X pins σ Q) X.xe s
theorem PW.pt {X:Cx} {e:Expr} {t:TT} (h:PW X e t):PT X e t:=h _
def PA (X:Cx) (es:List Expr) (t:TA):Prop:=
 ∀(pos:Pos) (pins:List (Addr×Obj)) (s:Shared) (σ:St) (H:Hp) (Q:List V->Hp->Prop),Inv X pins σ H s->t σ H Q->wpAny (model X.prog X.w) X.A (spliced (backTo pos (starEach es X.env))) (AP X pins σ Q) X.xe s
def PS (X:Cx) (st:Stmt) (t:TS):Prop:=
 ∀(pins:List (Addr×Obj)) (s:Shared) (σ:St) (H:Hp) (D:Ends),Inv X pins σ H s->t D σ H->wpAny (model X.prog X.w) X.A (exec st X.env) (SP X pins D) X.xe s
def PSs (X:Cx) (st:List Stmt) (t:TS):Prop:=
 ∀(pins:List (Addr×Obj)) (s:Shared) (σ:St) (H:Hp) (D:Ends),Inv X pins σ H s->t D σ H->wpAny (model X.prog X.w) X.A (execs st X.env) (SP X pins D) X.xe s
theorem thn {α:Type} {t:Sem α} {Q Q':α->Shared->Prop} {M:Model} {A:Around} {E:Value->Shared->Prop} {s:Shared} (h:wpAny M A t Q E s) (hQ:∀a s,Q a s->Q' a s):wpAny M A t Q' E s:=wpAny_mono h hQ fun _ _ x=>x
section
variable {X:Cx}
theorem bin {a b:Expr} {ta tb:TE} (ha:PE X a ta) (hb:PE X b tb) {pins:List (Addr×Obj)} {s:Shared} {σ:St} {H:Hp} {R:V->V->Hp->Prop} (I:Inv X pins σ H s) (h:ta σ H fun x H1=>tb σ H1 fun y H2=>R x y H2)
  {α:Type} {Q:α->Shared->Prop} {f:Value->Value->Sem α}
  (hf:∀v u s2 x y H2,Inv X pins σ H2 s2->RelV x v->RelV y u->R x y H2->wpAny (model X.prog X.w) X.A (f v u) Q X.xe s2) :
  wpAny (model X.prog X.w) X.A (eval a X.env) (fun v s₁=>wpAny (model X.prog X.w) X.A (eval b X.env) (fun u s₂=>wpAny (model X.prog X.w) X.A (f v u) Q X.xe s₂) X.xe s₁) X.xe s:=by
 refine thn (ha pins s σ H _ I h) fun v s1 ⟨x,H1,I1,r1,q1⟩=>?_
 refine thn (hb pins s1 σ H1 _ I1 q1) fun u s2 ⟨y,H2,I2,r2,q2⟩=>?_
 exact hf v u s2 x y H2 I2 r1 r2 q2
noncomputable def ztf (i:Nat):TE:=fun σ H Q=>∃v,σ[i]?=some (some v)/\Q v H
noncomputable def tC (v:V):TE:=fun _ H Q=>Q v H
theorem zdt {i:Nat} {x:Str} {pos:Pos} (hN:X.N[i]?=some x) (hv:Vis X.env.scope x) (hd:(x==("__debug__":Str))=false:=by decide) (hcd:(x==("__classdict__":Str))=false:=by decide):PE X (.Name x pos) (ztf i):=by
 intro pins s σ H Q I h
 obtain ⟨v,e,h⟩:=h
 obtain ⟨m,hn,hl⟩:=I.loc
 obtain ⟨u,r,l⟩:=hl i x v hN e hv
 have fin:EP X pins σ Q u s:=⟨v,H,I,r,h⟩
 rcases l with ⟨hk,hm⟩ | ⟨hk,c,hc,hcell⟩
 . exact wpAny_Name (wpAny_loadName_local I.ok.kind hk hn hm fin) hd
 . rcases hk with hk | hk
   . exact wpAny_Name (wpAny_loadName_cell I.ok.kind hk hc hcell fin) hd
   . exact wpAny_Name (wpAny_loadName_free I.ok.kind hk hc hcell fin hcd) hd
theorem pe_int {i j pos}:PE X (.Constant (.int i) j pos) (tC (.int i)):=fun _ _ _ H _ I h=>wpAny_Constant_int ⟨.int i,H,I.tok _,⟨_,rfl⟩,h⟩
theorem pe_bl {b j pos}:PE X (.Constant (.bool b) j pos) (tC (.bl b)):=fun _ _ _ H _ I h=>Constant_bool ⟨.bl b,H,I,rfl,h⟩
theorem pe_non {j pos}:PE X (.Constant .none j pos) (tC .non):=fun _ _ _ H _ I h=>Constant_none ⟨.non,H,I,rfl,h⟩
def Gl (X:Cx) (x:Str):Prop:=X.env.kindOf x=some .globalImplicit
theorem zkm {E:Value->Shared->Prop} {pins:List (Addr×Obj)} {s:Shared} {σ:St} {H:Hp} {x:Str} {u:Value} {pos:Pos} {Q:Value->Shared->Prop} (I:Inv X pins σ H s) (hg:Gl X x) (hm:X.mg x=some u) (h:Q u s)
  (hd:(x==("__debug__":Str))=false:=by decide):wpAny (model X.prog X.w) X.A (eval (.Name x pos) X.env) Q E s:=
 Calls.Name_function_global I.ok.kind hg (Calls.loadGlobal_global (by rw [I.ok.glob];exact I.mod.glob.keeps I.bk) hm h) hd
theorem z8y {E:Value->Shared->Prop} {pins:List (Addr×Obj)} {s:Shared} {σ:St} {H:Hp} {x:Str} {u:Value} {pos:Pos} {Q:Value->Shared->Prop} (I:Inv X pins σ H s) (hg:Gl X x) (hm:X.mg x=none) (hv:bootBuiltins x=some u) (h:Q u s)
  (hn:x≠"__name__":=by decide) (hd:(x==("__debug__":Str))=false:=by decide):wpAny (model X.prog X.w) X.A (eval (.Name x pos) X.env) Q E s:=by
 obtain ⟨mb,h1,h2⟩:=I.mod.blt
 exact Calls.Name_function_global I.ok.kind hg (Calls.loadGlobal_builtin (by rw [I.ok.glob];exact I.mod.glob.keeps I.bk) hm (by rw [I.ok.blt];exact h1.keeps I.bk) ((h2 x hn).trans hv) h) hd
theorem z7x {x:Str} {v:V} {u:Value} {pos:Pos} (hg:Gl X x) (hm:X.mg x=none) (hv:bootBuiltins x=some u) (r:RelV v u) (hn:x≠"__name__":=by decide) (hd:(x==("__debug__":Str))=false:=by decide):PE X (.Name x pos) (tC v):=
 fun _ _ _ H _ I h=>z8y I hg hm hv ⟨v,H,I,r,h⟩ hn hd
variable {a b:Expr} {ta tb:TE} {pos:Pos}
variable {tA tB':TT} {rest:List Expr}
noncomputable def zw3 (t u:TT):TT:=fun σ H Q=>t σ H fun c H1=>if c=true then u σ H1 Q else Q false H1
noncomputable def tOr (t u:TT):TT:=fun σ H Q=>t σ H fun c H1=>if c=true then Q true H1 else u σ H1 Q
noncomputable def zw4 (t:TT):TT:=fun σ H Q=>t σ H fun c H1=>Q (!c) H1
theorem zkn (ha:PT X a tA):PW X (.BoolOp .And [a] pos) tA:=by
 intro wh pins s σ H Q I h
 refine isTrue_and (thn (ha pins s σ H Q I h) fun c s1 e=>?_)
 cases c with
 | true=>exact isTrue_and_nil e
 | false=>exact e
theorem znz (ha:PT X a tA):PW X (.BoolOp .Or [a] pos) tA:=by
 intro wh pins s σ H Q I h
 refine isTrue_or (thn (ha pins s σ H Q I h) fun c s1 e=>?_)
 cases c with
 | false=>exact isTrue_or_nil e
 | true=>exact e
theorem zo0 (ha:PT X a tA) (hb:PW X (.BoolOp .And (b::rest) pos) tB'):PW X (.BoolOp .And (a::b::rest) pos) (zw3 tA tB'):=by
 intro wh pins s σ H Q I h
 refine isTrue_and (thn (ha pins s σ H _ I h) fun c s1 ⟨H1,I1,q1⟩=>?_)
 cases c with
 | true=>exact hb wh pins s1 σ H1 Q I1 q1
 | false=>exact ⟨H1,I1,q1⟩
theorem ztg (ha:PT X a tA) (hb:PW X (.BoolOp .Or (b::rest) pos) tB'):PW X (.BoolOp .Or (a::b::rest) pos) (tOr tA tB'):=by
 intro wh pins s σ H Q I h
 refine isTrue_or (thn (ha pins s σ H _ I h) fun c s1 ⟨H1,I1,q1⟩=>?_)
 cases c with
 | true=>exact ⟨H1,I1,q1⟩
 | false=>exact hb wh pins s1 σ H1 Q I1 q1
theorem zo1 (ha:PT X a tA):PT X (.UnaryOp .Not a pos) (zw4 tA):=by
 intro pins s σ H Q I h
 exact isTrue_not (ha pins s σ H (fun c H1=>Q (!c) H1) I h)
theorem zo2 {op} {t:TE} (h:PE X a t):PE X (.BoolOp op [a] pos) t:=fun pins s σ H Q I hw=>BoolOp_one (h pins s σ H Q I hw)
noncomputable def tIf (t:TT) (ta tb:TE):TE:=fun σ H Q=>t σ H fun c H1=>if c=true then ta σ H1 Q else tb σ H1 Q
theorem zhb {c:Expr} (hc:PT X c tA) (ha:PE X a ta) (hb:PE X b tb):PE X (.IfExp c a b pos) (tIf tA ta tb):=by
 intro pins s σ H Q I h
 refine wpAny_IfExp (thn (hc pins s σ H _ I h) fun d s1 ⟨H1,I1,q1⟩=>?_)
 cases d with
 | true=>exact ha pins s1 σ H1 Q I1 q1
 | false=>exact hb pins s1 σ H1 Q I1 q1
end
def SqL (K:Frag) (H:Hp) (a:Addr) (xs:List V):Prop:=
 Rd H a (.lst xs) \/
  ∃(o:Obj) (its:Array Value) (n:Nat),K.lookup a=some o/\o.cls=.type "list"/\o.dict=none/\o.data=.seq its n/\its.size<=sizeLine/\Vals xs its.toList
def SqT (K:Frag) (H:Hp) (a:Addr) (xs:List V):Prop:=
 Rd H a (.tup xs) \/
  ∃(o:Obj) (its:Array Value) (n:Nat),K.lookup a=some o/\o.cls=.type "tuple"/\o.data=.seq its n/\its.size<=sizeLine/\Vals xs its.toList
noncomputable def zw5:Value->Option V
 | .none=>some .non
 | .bool b=>some (.bl b)
 | .int i _=>some (.int i)
 | .str x _=>some (.str x)
 | .bytes b _=>some (.byt b)
 | .float b _=>some (.flt b)
 | .ref a=>some (.ref a)
 | .type n=>some (.ty n)
 | _=>none
theorem RelV.abs {x:V} {u:Value} (r:RelV x u):zw5 u=some x:=by
 cases x with
 | non=>cases r;rfl
 | bl _=>cases r;rfl
 | int _=>obtain ⟨t,rfl⟩:=r;rfl
 | str _=>obtain ⟨t,rfl⟩:=r;rfl
 | byt _=>obtain ⟨t,rfl⟩:=r;rfl
 | flt _=>obtain ⟨t,rfl⟩:=r;rfl
 | ref _=>cases r;rfl
 | ty _=>cases r;rfl
theorem RelV.inj {x y:V} {u:Value} (r:RelV x u) (q:RelV y u):x=y:=Option.some.inj (r.abs.symm.trans q.abs)
theorem Vals.inj:∀{xs ys:List V} {us:List Value},Vals xs us->Vals ys us->xs=ys
 | _,_,_,.nil,.nil=>rfl
 | _,_,_,.cons r t,.cons r' t'=>by rw [r.inj r',Vals.inj t t']
section
variable {X:Cx} {pins:List (Addr×Obj)} {σ:St} {H:Hp} {s:Shared} {a:Addr} {xs ys:List V}
theorem SqL.of {K:Frag} (h:H a=some (.lst xs)):SqL K H a xs:=.inl (.inl h)
theorem SqT.of {K:Frag} (h:H a=some (.tup xs)):SqT K H a xs:=.inl (.inl h)
theorem Inv.list (I:Inv X pins σ H s) (h:SqL X.K H a xs):∃its:List Value,Vals xs its/\PlainL s.heap a its.toArray/\xs.length<=sizeLine:=by
 rcases h with h | ⟨o,its,n,hk,hc,hd,hs,hz,r⟩
 . obtain ⟨z,its,n,r,e⟩:=h.ok I.hok
   exact ⟨its,r,⟨_,n,e,rfl,rfl,rfl⟩,z⟩
 . refine ⟨its.toList,r,⟨o,n,I.kIn a o hk,hc,hd,by simpa using hs⟩,?_⟩
   have e:=r.length
   simp only [Array.length_toList] at e
   omega
theorem Inv.tuple (I:Inv X pins σ H s) (h:SqT X.K H a xs):∃its:List Value,Vals xs its/\IsTup s.heap a its.toArray/\xs.length<=sizeLine:=by
 rcases h with h | ⟨o,its,n,hk,hc,hs,hz,r⟩
 . obtain ⟨z,its,r,p⟩:=h.ok I.hok
   exact ⟨its,r,p,z⟩
 . refine ⟨its.toList,r,⟨o,I.kIn a o hk,hc,n,by simpa using hs⟩,?_⟩
   have e:=r.length
   simp only [Array.length_toList] at e
   omega
theorem Inv.list_inj (I:Inv X pins σ H s) (h:SqL X.K H a xs) (h':SqL X.K H a ys):xs=ys:=by
 obtain ⟨its,r,⟨o,n,e,_,_,d⟩,_⟩:=I.list h
 obtain ⟨its',r',⟨o',n',e',_,_,d'⟩,_⟩:=I.list h'
 rw [e] at e';cases e'
 rw [d] at d'
 injection d' with d1 _
 have:its=its':=by simpa using congrArg Array.toList d1
 subst this
 exact r.inj r'
theorem Inv.tuple_inj (I:Inv X pins σ H s) (h:SqT X.K H a xs) (h':SqT X.K H a ys):xs=ys:=by
 obtain ⟨its,r,⟨o,e,_,n,d⟩,_⟩:=I.tuple h
 obtain ⟨its',r',⟨o',e',_,n',d'⟩,_⟩:=I.tuple h'
 rw [e] at e';cases e'
 rw [d] at d'
 injection d' with d1 _
 have:its=its':=by simpa using congrArg Array.toList d1
 subst this
 exact r.inj r'
end
abbrev Cx.wish (X:Cx) (E:Value->Shared->Prop):Cx:={ X with xe:=E }
abbrev Cx.nox (X:Cx):Cx:=X.wish fun _ _=>False
theorem Cx.Ok.wish {X:Cx} (ok:X.Ok) (E:Value->Shared->Prop):(X.wish E).Ok:=
 ⟨ok.mod,ok.kind,ok.glob,ok.blt,ok.above,ok.inj,ok.has,ok.cab,ok.hd,ok.frames,ok.stk,ok.exf,ok.bs,ok.bsz,ok.noex,ok.exfs,ok.funs,ok.frf⟩
theorem Cx.Ok.unwish {X:Cx} {E:Value->Shared->Prop} (ok:(X.wish E).Ok):X.Ok:=
 ⟨ok.mod,ok.kind,ok.glob,ok.blt,ok.above,ok.inj,ok.has,ok.cab,ok.hd,ok.frames,ok.stk,ok.exf,ok.bs,ok.bsz,ok.noex,ok.exfs,ok.funs,ok.frf⟩
section
variable {X:Cx} {pins:List (Addr×Obj)} {σ:St} {H:Hp} {s:Shared} {E:Value->Shared->Prop}
theorem Inv.wish (I:Inv X pins σ H s) (E:Value->Shared->Prop):Inv (X.wish E) pins σ H s:=⟨I.ok.wish E,I.os,I.bare,I.base,I.loc,I.cell,I.free,I.freeC,I.pin,I.hok,I.len⟩
theorem Inv.unwish (I:Inv (X.wish E) pins σ H s):Inv X pins σ H s:=⟨I.ok.unwish,I.os,I.bare,I.base,I.loc,I.cell,I.free,I.freeC,I.pin,I.hok,I.len⟩
theorem SP.unwish {D:Ends} {f:Flow} {s':Shared} (h:SP (X.wish E) pins D f s'):SP X pins D f s':=by
 cases f with
 | next=>obtain ⟨σ',H',I,q⟩:=h;exact ⟨σ',H',I.unwish,q⟩
 | brk=>obtain ⟨σ',H',I,q⟩:=h;exact ⟨σ',H',I.unwish,q⟩
 | cont=>obtain ⟨σ',H',I,q⟩:=h;exact ⟨σ',H',I.unwish,q⟩
 | ret u=>obtain ⟨v,σ',H',I,r,q⟩:=h;exact ⟨v,σ',H',I.unwish,r,q⟩
theorem PE.nox {e:Expr} {t:TE} (h:PE X.nox e t):PE X e t:=fun pins s σ H Q I hw=>
 wpAny_mono (h pins s σ H Q (I.wish _) hw) (fun _ _ ⟨v,H',I',r,q⟩=>⟨v,H',I'.unwish,r,q⟩) fun _ _ z=>False.elim z
theorem PT.nox {e:Expr} {t:TT} (h:PT X.nox e t):PT X e t:=fun pins s σ H Q I hw=>
 wpAny_mono (h pins s σ H Q (I.wish _) hw) (fun _ _ ⟨H',I',q⟩=>⟨H',I'.unwish,q⟩) fun _ _ z=>False.elim z
theorem PSs.nox {st:List Stmt} {t:TS} (h:PSs X.nox st t):PSs X st t:=fun pins s σ H D I hw=>
 wpAny_mono (h pins s σ H D (I.wish _) hw) (fun _ _ q=>q.unwish) fun _ _ z=>False.elim z
end
section
variable {X:Cx} {st:Stmt} {rest:List Stmt} {t u:TS} {e:Expr} {te:TE} {pos:Pos}
noncomputable def zo3:TS:=fun D σ H=>D.nx σ H
noncomputable def zw6 (t u:TS):TS:=fun D σ H=>t { D with nx:=u D } σ H
theorem pss_nil:PSs X [] zo3:=fun _ _ σ H _ I h=>wpAny_execs_nil ⟨σ,H,I,h⟩
theorem zhc (h1:PS X st t) (h2:PSs X rest u):PSs X (st::rest) (zw6 t u):=by
 intro pins s σ H D I h
 refine wpAny_execs_cons (thn (h1 pins s σ H { D with nx:=u D } I h) fun f s1 q=>?_)
 cases f with
 | next=>
  obtain ⟨σ',H',I',q⟩:=q
  exact h2 pins s1 σ' H' D I' q
 | ret v=>exact q
 | brk=>exact q
 | cont=>exact q
theorem zdu (h1:PS X st t):PSs X [st] t:=by
 intro pins s σ H D I h
 refine wpAny_execs_cons (thn (h1 pins s σ H D I h) fun f s1 q=>?_)
 cases f with
 | next=>exact wpAny_execs_nil q
 | ret v=>exact q
 | brk=>exact q
 | cont=>exact q
theorem Inv.quiet {pins:List (Addr×Obj)} {σ:St} {H:Hp} {s:Shared} (I:Inv X pins σ H s):interactive X.env=false:=by simp [interactive,I.ok.kind]
noncomputable def zdv (te:TE):TS:=fun D σ H=>te σ H fun _ H1=>D.nx σ H1
theorem zdw (he:PE X e te) (hs:swapsWith e none pos.line X.env=pure false:=by rfl):PS X (.Expr e pos) (zdv te):=by
 intro pins s σ H D I h
 exact wpAny_Expr_any (thn (he pins s σ H _ I h) fun v s1 ⟨x,H1,I1,r1,q1⟩=>⟨σ,H1,I1,q1⟩) I.quiet hs
noncomputable def zth (te:TE):TS:=fun D σ H=>te σ H D.rt
theorem zj3 (he:PE X e te):PS X (.Return (some e) pos) (zth te):=by
 intro pins s σ H D I h
 exact wpAny_Return_some (thn (he pins s σ H _ I h) fun v s1 ⟨x,H1,I1,r1,q1⟩=>⟨x,σ,H1,I1,r1,q1⟩)
noncomputable def zw7 (c:TT) (t u:TS):TS:=fun D σ H=>c σ H fun b H1=>if b=true then t D σ H1 else u D σ H1
theorem zo4 {c:Expr} {a b:List Stmt} {tc:TT} (hc:PT X c tc) (ha:PSs X a t) (hb:PSs X b u):PS X (.If c a b pos) (zw7 tc t u):=by
 intro pins s σ H D I h
 refine wpAny_If (thn (hc pins s σ H _ I h) fun d s1 ⟨H1,I1,q1⟩=>?_)
 cases d with
 | true=>exact ha pins s1 σ H1 D I1 q1
 | false=>exact hb pins s1 σ H1 D I1 q1
end
abbrev TG:=V->St->Hp->(St->Hp->Prop)->Prop
abbrev TGs:=List V->St->Hp->(St->Hp->Prop)->Prop
def PG (X:Cx) (target:Expr) (t:TG):Prop:=
 ∀(pins:List (Addr×Obj)) (s:Shared) (σ:St) (H:Hp) (v:V) (u:Value) (Q:St->Hp->Prop),Inv X pins σ H s->RelV v u->t v σ H Q ->
  wpAny (model X.prog X.w) X.A (assign target X.env u) (fun _ s'=>∃σ' H',Inv X pins σ' H' s'/\Q σ' H') X.xe s
def PGs (X:Cx) (ts:List Expr) (t:TGs):Prop:=
 ∀(pins:List (Addr×Obj)) (s:Shared) (σ:St) (H:Hp) (vs:List V) (us:List Value) (Q:St->Hp->Prop),Inv X pins σ H s->Vals vs us->t vs σ H Q ->
  wpAny (model X.prog X.w) X.A (assignInOrder ((assignEach ts X.env).map (·.2)) us) (fun _ s'=>∃σ' H',Inv X pins σ' H' s'/\Q σ' H') X.xe s
abbrev zng:=V->V->V->Hp->(Hp->Prop)->Prop
def zw8 (X:Cx) (t:zng):Prop:=
 ∀(pins:List (Addr×Obj)) (s:Shared) (σ:St) (H:Hp) (o i v:V) (ov iv u:Value) (Q:Hp->Prop),Inv X pins σ H s->RelV o ov->RelV i iv->RelV v u->t o i v H Q ->
  wpAny (model X.prog X.w) X.A (setItem ov iv u) (fun _ s'=>∃H',Inv X pins σ H' s'/\Q H') X.xe s
section
variable {X:Cx} {pos:Pos}
noncomputable def z34 (i:Nat):TG:=fun v σ H Q=>Q (σ.set i (some v)) H
theorem zab {i:Nat} {x:Str} (hN:X.N.Nodup) (hi:X.N[i]?=some x) (hx:Loc X.env.scope x) (hf:X.fn x=true\/X.env.scope.names.lookup x=some .local:=by first | exact .inl rfl | exact .inr rfl | assumption):PG X (.Name x pos) (z34 i):=by
 intro pins s σ H v u Q I r h
 exact wpAny_assign_Name (zb8 I hN hi hx r (fun s' I'=>⟨_,H,I',h⟩) hf)
noncomputable def zo5:TGs:=fun vs σ H Q=>vs=[]/\Q σ H
noncomputable def z64 (t:TG) (u:TGs):TGs:=fun vs σ H Q=>∃v r,vs=v::r/\t v σ H fun σ' H'=>u r σ' H' Q
theorem pgs_nil:PGs X [] zo5:=by
 intro pins s σ H vs us Q I r h
 obtain ⟨e,h⟩:=h
 subst e
 cases r
 exact assignInOrder_nil ⟨σ,H,I,h⟩
theorem z3t {e:Expr} {es:List Expr} {t:TG} {u:TGs} (h1:PG X e t) (h2:PGs X es u)
  (hs:(assignEach (e::es) X.env).map (·.2)=assign e X.env::(assignEach es X.env).map (·.2):=by rfl):PGs X (e::es) (z64 t u):=by
 intro pins s σ H vs us Q I r h
 obtain ⟨v,vr,e1,h⟩:=h
 subst e1
 cases r with
 | cons r rr=>
  rw [hs]
  refine assignInOrder_cons (thn (h1 pins s σ H _ _ _ I r h) fun _ s1 ⟨σ1,H1,I1,q1⟩=>?_)
  exact h2 pins s1 σ1 H1 _ _ Q I1 rr q1
noncomputable def zo6 (K:Frag) (n:Nat) (t:TGs):TG:=fun v σ H Q=>∃a xs,v=.ref a/\SqT K H a xs/\xs.length=n/\t xs σ H Q
theorem zdx {es:List Expr} {k:Nat} {t:TGs} {n:Nat} (hc:X.calm=true) (h:PGs X es t)
  (hn:(assignEach es X.env).length=n:=by rfl) (hst:(assignEach es X.env).findIdx? (·.1)=none:=by rfl):PG X (.Tuple es k pos) (zo6 X.K n t):=by
 intro pins s σ H v u Q I r hw
 obtain ⟨a,xs,e1,hq,hl,hw⟩:=hw
 subst e1
 cases r
 obtain ⟨its,rv,ht,hz⟩:=I.tuple hq
 refine assign_Tuple_tuple (I.ok.hd hc) ht (by simp [hn,<-hl,rv.length]) hst fun h' hx=>?_
 have I1:Inv X pins σ H { s with heap:=h' }:=I.kept (t':=s.toks) fun b o e=>hx b o (Nat.ne_of_lt (Heap.lt_size e)) e
 exact h pins _ σ H xs _ Q I1 (by simpa using rv) hw
noncomputable def zt2 (to ti:TE) (t:zng):TG:=fun v σ H Q=>to σ H fun o H1=>ti σ H1 fun i H2=>t o i v H2 fun H3=>Q σ H3
theorem zj4 {o i:Expr} {to ti:TE} {t:zng} (ho:PE X o to) (hi:PE X i ti) (hs:zw8 X t)
  (ha:∀v,assign (.Subscript o i pos) X.env v=(do
   let ov <-holding [v] (eval o X.env)
   let iv <-holding [v,ov] (eval i X.env)
   standAt pos
   holding [v,ov,iv] (setItem ov iv v)
   release [v,ov,iv] []):=by intro _;rfl):PG X (.Subscript o i pos) (zt2 to ti t):=by
 intro pins s σ H v u Q I r h
 rw [ha]
 refine wpAny_bind (wpAny_holding (thn (ho pins s σ H _ I h) fun ov s1 ⟨x,H1,I1,r1,q1⟩=>?_))
 refine wpAny_bind (wpAny_holding (thn (hi pins s1 σ H1 _ I1 q1) fun iv s2 ⟨y,H2,I2,r2,q2⟩=>?_))
 refine wpAny_bind (wpAny_standAt (wpAny_bind (wpAny_holding (thn (hs pins s2 σ H2 x y v ov iv u _ I2 r1 r2 r q2) fun _ s3 ⟨H3,I3,q3⟩=>?_))))
 exact wpAny_release ⟨σ,H3,I3,q3⟩
noncomputable def zhd (te:TE) (g:TG):TS:=fun D σ H=>te σ H fun x H1=>g x σ H1 D.nx
theorem zj5 {tg e:Expr} {te:TE} {g:TG} (he:PE X e te) (hg:PG X tg g) (hs:swapsWithSole [tg] e pos.line X.env=pure false:=by rfl) (hw:swappedStores [tg] e X.env=pure none:=by rfl)
  (h1:(assignEach [tg] X.env).map (·.2)=[assign tg X.env]:=by rfl):PS X (.Assign [tg] e pos) (zhd te g):=by
 intro pins s σ H D I h
 refine wpAny_Assign_stores (thn (he pins s σ H _ I h) fun v s1 ⟨x,H1,I1,r1,q1⟩=>?_) hs hw
 rw [h1]
 exact thn (hg pins s1 σ H1 x v _ I1 r1 q1) fun _ s2 q=>q
theorem zo7 {i:Nat} {x:Str} {e:Expr} {te:TE} {pos':Pos} (hN:X.N.Nodup) (hi:X.N[i]?=some x) (hx:Loc X.env.scope x) (he:PE X e te) (hs:swapsWith e (some (.Name x pos')) pos.line X.env=pure false:=by rfl) (hf:X.fn x=true\/X.env.scope.names.lookup x=some .local:=by first | exact .inl rfl | exact .inr rfl | assumption) :
  PS X (.Assign [.Name x pos'] e pos) (zhd te (z34 i)):=by
 intro pins s σ H D I h
 refine wpAny_Assign_Name (thn (he pins s σ H _ I h) fun v s1 ⟨y,H1,I1,r1,q1⟩=>?_) hs
 exact zb8 I1 hN hi hx r1 (fun s2 I2=>⟨_,H1,I2,q1⟩) hf
end
structure It where
 go:Nat->Hp->Prop
 yld:Nat->Hp->V->Hp->Prop
 stop:Nat->Hp->Prop
def zac (X:Cx) (pins:List (Addr×Obj)) (H:Hp) (b:Addr):Prop:=
 H b=none/\b≠X.env.locals/\b∉X.fs/\(b∈X.ex\/X.s₀.heap.objs.size<=b)/\(∀x c,X.env.cells.lookup x=some c->c≠b)/\∀p∈X.pn++pins,p.1≠b
theorem Inv.fpOk {X:Cx} {pins:List (Addr×Obj)} {σ:St} {H H':Hp} {s:Shared} {b:Addr} (I:Inv X pins σ H s) (hb:s.heap.objs.size<=b) (hn:H' b=none):zac X pins H' b:=by
 refine ⟨hn,Nat.ne_of_gt (Nat.lt_of_lt_of_le I.lt hb),I.nofs hb,.inr (Nat.le_trans I.sz hb),fun x c e z=>?_,fun p hp z=>?_⟩
 . obtain ⟨v,q⟩:=I.cell x c e
   exact absurd (Nat.lt_of_lt_of_le q.lt (by rw [z];exact hb)) (Nat.lt_irrefl _)
 . exact absurd (Nat.lt_of_lt_of_le (Heap.lt_size (I.pin p hp).1) (by rw [z];exact hb)) (Nat.lt_irrefl _)
structure Turn (P:Program) (w:World) (K:Frag) (tg:Expr) (J:It) (fp:List Addr) (it:Addr) (tn:Nat->Heap->Prop):Prop where
 mem:it∈fp
 obj:∀i h,tn i h->∀b∈fp,∃o,h.get? b=some o/\∀v,o.data≠.cell v
 keep:∀i h h',tn i h->(∀b∈fp,∀o,h.get? b=some o->h'.get? b=some o)->tn i h'
 item:∀(X:Cx),X.prog=P->X.w=w->X.K=K->X.calm=true->∀(i:Nat) (pins:List (Addr×Obj)) (s:Shared) (σ:St) (H:Hp) (E:Value->Shared->Prop),Inv X pins σ H s->(∀b∈fp,zac X pins H b)->tn i s.heap->J.go i H ->
  wpAny (model P w) X.A (pyNext (.ref it)) (fun r s1=>∃u,r=some u /\
   wpAny (model P w) X.A (letOwnedTupleGo tg (.ref it) u) (fun _ s2=>∃x H',Inv X pins σ H' s2/\RelV x u/\J.yld i H x H'/\tn (i+1) s2.heap/\∀b∈fp,H' b=none) E s1) E s
 done:∀(X:Cx),X.prog=P->X.w=w->X.K=K->X.calm=true->∀(i:Nat) (pins:List (Addr×Obj)) (s:Shared) (σ:St) (H:Hp) (E:Value->Shared->Prop),Inv X pins σ H s->(∀b∈fp,zac X pins H b)->tn i s.heap->J.stop i H ->
  wpAny (model P w) X.A (pyNext (.ref it)) (fun r s1=>r=none/\Inv X pins σ H s1) E s
 self:∀(A:Around) (i:Nat) (s:Shared) (Q:Value->Shared->Prop) (E:Value->Shared->Prop),tn i s.heap->Q (.ref it) s->wpAny (model P w) A (pyIter (.ref it)) Q E s
abbrev TI:=St->Hp->(It->Hp->Prop)->Prop
def PIE (X:Cx) (pins:List (Addr×Obj)) (σ:St) (tg:Expr) (R:It->Hp->Prop) (itv:Value) (s2:Shared):Prop:=
 ∃(it:Addr) (fp:List Addr) (tn:Nat->Heap->Prop) (J:It) (H':Hp),itv=.ref it/\Inv X pins σ H' s2/\Turn X.prog X.w X.K tg J fp it tn/\tn 0 s2.heap/\(∀b∈fp,zac X pins H' b)/\R J H'
def PI (X:Cx) (tg iter:Expr) (wi:TI):Prop:=
 ∀(pins:List (Addr×Obj)) (s:Shared) (σ:St) (H:Hp) (R:It->Hp->Prop),Inv X pins σ H s->wi σ H R ->
  wpAny (model X.prog X.w) X.A (eval iter X.env) (fun v s1=>wpAny (model X.prog X.w) X.A (pyIter v) (PIE X pins σ tg R) X.xe s1) X.xe s
theorem zko {M:Model} {A:Around} {E:Value->Shared->Prop} {s:Shared} {tg:Expr} {it:Addr} {u:Value} {o:Obj} {n:String} {vs:Array Value} {Q:Unit->Shared->Prop} (ho:s.heap.get? it=some o) (hc:o.cls=.type n) (hd:o.data=.fields vs)
  (hn:["enumerate","zip","dict_itemiterator","dict_reverseitemiterator","odict_iterator","itertools.zip_longest","itertools.pairwise"].contains n=false) (hQ:Q () s):wpAny M A (letOwnedTupleGo tg (.ref it) u) Q E s:=by
 unfold letOwnedTupleGo
 cases tg<;>first
  | exact wpAny_pure hQ
  | (cases u<;>first
   | exact wpAny_pure hQ
   | (refine wpAny_bind (wpAny_load ho ?_)
      rw [hc,hd]
      show wpAny M A (if (["enumerate","zip","dict_itemiterator","dict_reverseitemiterator","odict_iterator","itertools.zip_longest","itertools.pairwise"].contains n&&vs[0]?==some (rawInt _))=true then _ else _) Q E s
      rw [if_neg (by intro h;rw [hn,Bool.false_and] at h;cases h)]
      exact wpAny_pure hQ))
noncomputable def Itl (K:Frag) (a:Addr):It:=
 ⟨fun i H=>∃xs x,SqL K H a xs/\xs[i]?=some x,fun i H x H'=>H'=H/\∀xs,SqL K H a xs->xs[i]?=some x,fun i H=>∃xs,SqL K H a xs/\xs.length<=i⟩
noncomputable def Itt (K:Frag) (a:Addr):It:=
 ⟨fun i H=>∃xs x,SqT K H a xs/\xs[i]?=some x,fun i H x H'=>H'=H/\∀xs,SqT K H a xs->xs[i]?=some x,fun i H=>∃xs,SqT K H a xs/\xs.length<=i⟩
noncomputable def Itr (lo:Int) (n:Nat):It:=⟨fun i _=>i<n,fun i H x H'=>H'=H/\x=.int (lo+i),fun i _=>n<=i⟩
theorem zdy {P:Program} {w:World} {K:Frag} {tg:Expr} (a it:Addr):Turn P w K tg (Itl K a) [it] it (fun i h=>h.IsListIter it a i) where
 mem:=by simp
 obj:=fun i h st b hb=>by
  have e:b=it:=by simpa using hb
  subst e
  obtain ⟨o,e,c,d⟩:=st
  exact ⟨o,e,fun v z=>by rw [d] at z;cases z⟩
 keep:=fun i h h' st k=>st.at fun o e=>k it (by simp) o e
 item:=by
  intro X hP hw hK hc i pins s σ H E I hf st hg
  subst hP hw hK
  obtain ⟨xs,x,hq,hx⟩:=hg
  obtain ⟨its,rv,p,hz⟩:=I.list hq
  obtain ⟨u,hu,ru⟩:=rv.get hx
  obtain ⟨f0,f1,f2,f3,f4,f5⟩:=hf it (by simp)
  refine wpAny_pyNext_list_item st p.isList (x:=u) (by simpa using hu) fun h' st' sb=>?_
  have I1:Inv X pins σ H { s with heap:=h' }:=I.turned (t':=s.toks) (fun b o hb e=>(sb.2 b hb).trans e) f0 f1 f3 f4 f5
  obtain ⟨o,e,c,d⟩:=id st'
  exact ⟨u,rfl,zko (s:={ s with heap:=h' }) e c d (by decide) ⟨x,H,I1,ru,⟨rfl,fun ys hy=>by rw [I.list_inj hy hq];exact hx⟩,st',fun b hb=>(hf b hb).1⟩⟩
 done:=by
  intro X hP hw hK hc i pins s σ H E I hf st hg
  subst hP hw hK
  obtain ⟨xs,hq,hx⟩:=hg
  obtain ⟨its,rv,p,hz⟩:=I.list hq
  obtain ⟨f0,f1,f2,f3,f4,f5⟩:=hf it (by simp)
  have hl:=rv.length
  exact wpAny_pyNext_list_end (I.ok.hd hc) st p.isList (by simp;omega) fun h' eb=>⟨rfl,I.turned (t':=s.toks) (fun b o hb e=>eb b o hb e) f0 f1 f3 f4 f5⟩
 self:=fun _ _ _ _ _ st h=>wpAny_pyIter_listiter st h
theorem zcn {P:Program} {w:World} {K:Frag} {tg:Expr} (a it:Addr):Turn P w K tg (Itt K a) [it] it (fun i h=>h.IsTupleIter it a i) where
 mem:=by simp
 obj:=fun i h st b hb=>by
  have e:b=it:=by simpa using hb
  subst e
  obtain ⟨o,e,c,d⟩:=st
  exact ⟨o,e,fun v z=>by rw [d] at z;cases z⟩
 keep:=fun i h h' st k=>st.at fun o e=>k it (by simp) o e
 item:=by
  intro X hP hw hK hc i pins s σ H E I hf st hg
  subst hP hw hK
  obtain ⟨xs,x,hq,hx⟩:=hg
  obtain ⟨its,rv,p,hz⟩:=I.tuple hq
  obtain ⟨u,hu,ru⟩:=rv.get hx
  obtain ⟨f0,f1,f2,f3,f4,f5⟩:=hf it (by simp)
  refine wpAny_pyNext_tuple_item st (show s.heap.IsTuple a its.toArray from p) (x:=u) (by simpa using hu) fun h' st' sb=>?_
  have I1:Inv X pins σ H { s with heap:=h' }:=I.turned (t':=s.toks) (fun b o hb e=>(sb.2 b hb).trans e) f0 f1 f3 f4 f5
  obtain ⟨o,e,c,d⟩:=id st'
  exact ⟨u,rfl,zko (s:={ s with heap:=h' }) e c d (by decide) ⟨x,H,I1,ru,⟨rfl,fun ys hy=>by rw [I.tuple_inj hy hq];exact hx⟩,st',fun b hb=>(hf b hb).1⟩⟩
 done:=by
  intro X hP hw hK hc i pins s σ H E I hf st hg
  subst hP hw hK
  obtain ⟨xs,hq,hx⟩:=hg
  obtain ⟨its,rv,p,hz⟩:=I.tuple hq
  obtain ⟨f0,f1,f2,f3,f4,f5⟩:=hf it (by simp)
  have hl:=rv.length
  exact wpAny_pyNext_tuple_end (I.ok.hd hc) st (show s.heap.IsTuple a its.toArray from p) (by simp;omega) fun h' eb=>⟨rfl,I.turned (t':=s.toks) (fun b o hb e=>eb b o hb e) f0 f1 f3 f4 f5⟩
 self:=fun _ _ _ _ _ st h=>wpAny_pyIter_tupleiter st h
theorem zco {P:Program} {w:World} {K:Frag} {tg:Expr} (it:Addr) (lo:Int) (n:Nat):Turn P w K tg (Itr lo n) [it] it (fun i h=>IsRangeIter h it (lo+(i:Nat) * 1) ((n:Int) - (i:Nat)) 1) where
 mem:=by simp
 obj:=fun i h st b hb=>by
  have e:b=it:=by simpa using hb
  subst e
  exact ⟨_,st,fun v z=>by
   have z':Data.fields _=Data.cell v:=z
   cases z'⟩
 keep:=fun i h h' st k=>k it (by simp) _ st
 item:=by
  intro X hP hw hK hc i pins s σ H E I hf st hg
  subst hP hw hK
  obtain ⟨f0,f1,f2,f3,f4,f5⟩:=hf it (by simp)
  have W:=Walks.range (prog:=X.prog) (w:=X.w) (I.ok.hd hc) it lo 1 n
  refine W.item i s _ _ hg st fun v h' tk hv st' kk=>?_
  obtain ⟨t,rfl⟩:=hv
  have I1:Inv X pins σ H { s with heap:=h',toks:=tk }:=I.turned (fun b o hb e=>kk b o (by simpa using hb) e) f0 f1 f3 f4 f5
  refine ⟨_,rfl,zko (s:={ s with heap:=h',toks:=tk }) (n:="range_iterator") st' rfl rfl (by decide) ⟨.int (lo+i),H,I1,⟨t,?_⟩,⟨rfl,rfl⟩,st',fun b hb=>(hf b hb).1⟩⟩
  rw [Int.mul_one]
 done:=by
  intro X hP hw hK hc i pins s σ H E I hf st hg
  subst hP hw hK
  obtain ⟨f0,f1,f2,f3,f4,f5⟩:=hf it (by simp)
  exact wpAny_pyNext_range_end (I.ok.hd hc) st (by have:n<=i:=hg;omega) fun h' eb=>⟨rfl,I.turned (t':=s.toks) (fun b o hb e=>eb b o hb e) f0 f1 f3 f4 f5⟩
 self:=fun _ _ _ _ _ st h=>wpAny_pyIter_rangeiter st h
section
variable {X:Cx} {tg:Expr}
theorem zhe {pins:List (Addr×Obj)} {σ:St} {H:Hp} {s:Shared} {R:It->Hp->Prop} {E:Value->Shared->Prop} {lo hi:Int} {t u v:Tok} {tk:Nat} (I:Inv X pins σ H s) (h1:-(2 ^ 62)<=lo) (h2:lo<2 ^ 62) (h3:-(2 ^ 62)<=hi) (h4:hi<2 ^ 62)
  (q:R (Itr lo (hi - lo).toNat) H):wpAny (model X.prog X.w) X.A (pyIter (.ref s.heap.objs.size)) (PIE X pins σ tg R) E { s with heap:=s.heap.push { cls:=.type "range",data:=.fields #[.int lo t,.int hi u,.int 1 v] },toks:=tk }:=by
 refine wpAny_pyIter_range (IsRange.new ..) (small_one h1 h2 h3 h4) ?_
 have I1:Inv X pins σ H { s with heap:=s.heap.push { cls:=.type "range",data:=.fields #[.int lo t,.int hi u,.int 1 v] },toks:=tk }:=I.kept fun b o e=>Heap.get?_push_of_some _ e
 refine ⟨(s.heap.push { cls:=.type "range",data:=.fields #[.int lo t,.int hi u,.int 1 v] }).objs.size,[(s.heap.push { cls:=.type "range",data:=.fields #[.int lo t,.int hi u,.int 1 v] }).objs.size],_,_,H,rfl,
  I1.kept (t':=tk) fun b o e=>Heap.get?_push_of_some _ e,zco _ lo (hi - lo).toNat,?_,fun b hb=>?_,q⟩
 . have e1:lo+((0:Nat):Int) * 1=lo:=by simp
   have e2:(((hi - lo).toNat:Nat):Int) - ((0:Nat):Int)=Builtin.Range.rangeSize lo hi 1:=by rw [rangeSize_one];split<;>omega
   show IsRangeIter _ _ (lo+((0:Nat):Int) * 1) ((((hi - lo).toNat:Nat):Int) - ((0:Nat):Int)) 1
   rw [e1,e2]
   exact Heap.get?_push_size _ rfl
 . have e:b=(s.heap.push { cls:=.type "range",data:=.fields #[.int lo t,.int hi u,.int 1 v] }).objs.size:=by simpa using hb
   subst e
   exact I1.fpOk (Nat.le_refl _) (I1.hok.fresh (Nat.le_refl _))
noncomputable def zx4 (wi:TI) (g:TG) (tb:TS):TS:=fun D σ H=>wi σ H fun J H1=>∃W:Nat->Nat->St->Hp->Prop,(∃m,W 0 m σ H1)/\∀i m σ H,W i m σ H ->
 (J.stop i H/\D.nx σ H)\/(J.go i H/\∃N:St->Hp->Prop,(∀σ' H',N σ' H'->∃m',m'<m/\W (i+1) m' σ' H')/\∀x H',J.yld i H x H'->g x σ H' fun σ2 H2=>tb { D with nx:=N,ct:=N,bk:=D.nx } σ2 H2)
noncomputable def z8z (fp:List Addr) (h:Heap):List (Addr×Obj):=fp.filterMap fun b=>(h.get? b).map fun o=>(b,o)
theorem z3u {fp:List Addr} {h:Heap} {b:Addr} {o:Obj} (hb:b∈fp) (e:h.get? b=some o):(b,o)∈z8z fp h:=List.mem_filterMap.mpr ⟨b,hb,by rw [e];rfl⟩
theorem zdz {fp:List Addr} {h:Heap} {p:Addr×Obj} (hp:p∈z8z fp h):p.1∈fp/\h.get? p.1=some p.2:=by
 obtain ⟨b,hb,e⟩:=List.mem_filterMap.mp hp
 cases q:h.get? b with
 | none=>rw [q] at e;cases e
 | some o=>
  rw [q] at e
  have e':(b,o)=p:=Option.some.inj e
  subst e'
  exact ⟨hb,q⟩
theorem Inv.pinned {pins:List (Addr×Obj)} {σ:St} {H:Hp} {s:Shared} {fp:List Addr} (I:Inv X pins σ H s) (hf:∀b∈fp,zac X pins H b) (ho:∀b∈fp,∃o,s.heap.get? b=some o/\∀v,o.data≠.cell v):Inv X (pins++z8z fp s.heap) σ H s:=
 I.pins_of fun p hp=>(List.mem_append.mp hp).elim (fun z=>I.pin p (List.mem_append_right _ z)) fun z=>by
  obtain ⟨hb,e⟩:=zdz z
  obtain ⟨f0,f1,f2,_⟩:=hf p.1 hb
  obtain ⟨o,e',d⟩:=ho p.1 hb
  rw [e] at e';cases e'
  exact ⟨e,f0,f1,f2,d⟩
theorem Inv.unpinned {pins pl:List (Addr×Obj)} {σ:St} {H:Hp} {s:Shared} (I:Inv X (pins++pl) σ H s):Inv X pins σ H s:=I.pins_of fun p hp=>I.pin p (List.mem_append_right _ (List.mem_append_left _ hp))
theorem zo8 {iter:Expr} {body:List Stmt} {wi:TI} {g:TG} {tb:TS} {pos:Pos} (hp:PassesOwn (model X.prog X.w) X.A X.env X.xe) (hc:X.calm=true) (hi:PI X tg iter wi) (hg:PG X tg g) (hb:PSs X body tb)
  (hs:∀x,foldedSetIterable iter X.env x=pure x:=by intro _;rfl):PS X (.For tg iter body [] pos) (zx4 wi g tb):=by
 intro pins s σ H D I h
 refine wpAny_For (thn (hi pins s σ H _ I h) fun v s1 h1=>thn h1 fun itv s2 h2=>?_) hs
 obtain ⟨it,fp,tn,J,H2,e,I2,T,st2,f2,W,⟨m0,w0⟩,turn⟩:=h2
 subst e
 have stat:∀{H':Hp},(∀b∈fp,H' b=none)->∀b∈fp,zac X pins H' b:=fun hn b hb=>⟨hn b hb,(f2 b hb).2⟩
 refine codeAny_forLoop_any (fun n s'=>∃i σ' H',Inv X pins σ' H' s'/\tn i s'.heap/\(∀b∈fp,H' b=none)/\W i n σ' H') ?_ m0 ⟨0,σ,H2,I2,st2,fun b hb=>(f2 b hb).1,w0⟩
 rintro n s3 ⟨i,σ3,H3,I3,st3,fr3,w3⟩
 rcases turn i n σ3 H3 w3 with ⟨stop,qn⟩ | ⟨go,N,hN,step⟩
 . refine wpAny_passesOwn hp (thn (T.done X rfl rfl rfl hc i pins s3 σ3 H3 X.xe I3 (stat fr3) st3 stop) fun r s4 ⟨hr,I4⟩=>?_)
   subst hr
   exact wpAny_execs_nil ⟨σ3,H3,I4,qn⟩
 . refine wpAny_passesOwn hp (thn (T.item X rfl rfl rfl hc i pins s3 σ3 H3 X.xe I3 (stat fr3) st3 go) fun r s4 ⟨u,hr,h4⟩=>?_)
   subst hr
   refine wpAny_passesOwn hp (thn h4 fun _ s5 ⟨x,H5,I5,r5,y5,st5,fr5⟩=>?_)
   have I5':=I5.pinned (stat fr5) (T.obj _ _ st5)
   refine wpAny_passesOwn hp (thn (hg _ s5 σ3 H5 x u _ I5' r5 (step x H5 y5)) fun _ s6 ⟨σ6,H6,I6,q6⟩=>?_)
   refine wpAny_passesOwn hp (thn (hb _ s6 σ6 H6 _ I6 q6) fun f s7 q7=>?_)
   have again:∀{σ7:St} {H7:Hp},Inv X (pins++z8z fp s5.heap) σ7 H7 s7->N σ7 H7->∃m,m<n/\∃i σ' H',Inv X pins σ' H' s7/\tn i s7.heap/\(∀b∈fp,H' b=none)/\W i m σ' H':=fun {σ7 H7} I7 n7=>by
    obtain ⟨m',hm,w7⟩:=hN σ7 H7 n7
    refine ⟨m',hm,i+1,σ7,H7,I7.unpinned,T.keep _ _ _ st5 fun b hb o e=>(I7.pin (b,o) (List.mem_append_right _ (List.mem_append_right _ (z3u hb e)))).1,fun b hb=>?_,w7⟩
    obtain ⟨o,e,d⟩:=T.obj _ _ st5 b hb
    exact (I7.pin (b,o) (List.mem_append_right _ (List.mem_append_right _ (z3u hb e)))).2.1
   cases f with
   | next=>obtain ⟨σ7,H7,I7,n7⟩:=q7;exact again I7 n7
   | cont=>obtain ⟨σ7,H7,I7,n7⟩:=q7;exact again I7 n7
   | brk=>obtain ⟨σ7,H7,I7,q7⟩:=q7;exact ⟨σ7,H7,I7.unpinned,q7⟩
   | ret v=>obtain ⟨x7,σ7,H7,I7,r7,q7⟩:=q7;exact ⟨x7,σ7,H7,I7.unpinned,r7,q7⟩
end
abbrev R2:=V->V->Hp->VK->Prop
def OpR (X:Cx) (f:Value->Value->Sem Value) (r:R2):Prop:=
 ∀(pins:List (Addr×Obj)) (s:Shared) (σ:St) (H:Hp) (x y:V) (v u:Value) (Q:VK),Inv X pins σ H s->RelV x v->RelV y u->r x y H Q ->
  wpAny (model X.prog X.w) X.A (f v u) (EP X pins σ Q) X.xe s
def UnR (X:Cx) (f:Value->Sem Value) (r:V->Hp->VK->Prop):Prop:=
 ∀(pins:List (Addr×Obj)) (s:Shared) (σ:St) (H:Hp) (x:V) (v:Value) (Q:VK),Inv X pins σ H s->RelV x v->r x H Q ->
  wpAny (model X.prog X.w) X.A (f v) (EP X pins σ Q) X.xe s
def CallR (X:Cx) (f:Value) (r:List V->Hp->VK->Prop):Prop:=
 ∀(pins:List (Addr×Obj)) (s:Shared) (σ:St) (H:Hp) (xs:List V) (us:List Value) (Q:VK),Inv X pins σ H s->Vals xs us->r xs H Q ->
  wpAny (model X.prog X.w) X.A (call f us) (EP X pins σ Q) X.xe s
def zx5 (X:Cx) (r:V->Hp->(Bool->Hp->Prop)->Prop):Prop:=
 ∀(pins:List (Addr×Obj)) (s:Shared) (σ:St) (H:Hp) (x:V) (v:Value) (Q:Bool->Hp->Prop),Inv X pins σ H s->RelV x v->r x H Q ->
  wpAny (model X.prog X.w) X.A (truthy v) (TP X pins σ Q) X.xe s
noncomputable def tOp (r:R2) (ta tb:TE):TE:=fun σ H Q=>ta σ H fun x H1=>tb σ H1 fun y H2=>r x y H2 Q
noncomputable def tUn (r:V->Hp->VK->Prop) (ta:TE):TE:=fun σ H Q=>ta σ H fun x H1=>r x H1 Q
noncomputable def rI (C:Int->Int->Prop) (g:Int->Int->V):R2:=fun x y H Q=>∃i j,x=.int i/\y=.int j/\C i j/\Q (g i j) H
noncomputable def rI0 (g:Int->Int->V):R2:=fun x y H Q=>∃i j,x=.int i/\y=.int j/\Q (g i j) H
def rU (g:Int->V):V->Hp->VK->Prop:=fun x H Q=>∃i,x=.int i/\Q (g i) H
section
variable {X:Cx} {a b c:Expr} {ta tb tc:TE} {pos:Pos}
theorem zti (ha:PE X a ta) (hb:PE X b tb) {pins:List (Addr×Obj)} {s:Shared} {σ:St} {H:Hp} {R:V->V->Hp->Prop} (I:Inv X pins σ H s)
  (h:ta σ H fun x H1=>tb σ H1 fun y H2=>R x y H2) {Q:Value->Shared->Prop} {f:Value->Value->Sem Value}
  (hf:∀v u s2 x y H2,Inv X pins σ H2 s2->RelV x v->RelV y u->R x y H2->wpAny (model X.prog X.w) X.A (f v u) Q X.xe s2) :
  wpAny (model X.prog X.w) X.A (eval a X.env) (fun v s₁=>wpAny (model X.prog X.w) X.A (eval b X.env) (fun u s₂=>wpAny (model X.prog X.w) X.A (f v u) Q X.xe s₂) X.xe s₁) X.xe s:=by
 refine thn (ha pins s σ H _ I h) fun v s1 ⟨x,H1,I1,r1,q1⟩=>?_
 refine thn (hb pins s1 σ H1 _ I1 q1) fun u s2 ⟨y,H2,I2,r2,q2⟩=>?_
 exact hf v u s2 x y H2 I2 r1 r2 q2
theorem ztj {op:Operator} {r:R2} (ho:OpR X (binaryOp op) r) (ha:PE X a ta) (hb:PE X b tb):PE X (.BinOp a op b pos) (tOp r ta tb):=by
 intro pins s σ H Q I h
 exact wpAny_BinOp (zti ha hb I h fun v u s2 x y H2 I2 rx ry q=>ho pins s2 σ H2 x y v u Q I2 rx ry q)
theorem ztk {op:UnaryOp} {r:V->Hp->VK->Prop} (ho:UnR X (unaryOp op) r) (ha:PE X a ta):PE X (.UnaryOp op a pos) (tUn r ta):=by
 intro pins s σ H Q I h
 exact UnaryOp_ (thn (ha pins s σ H _ I h) fun v s1 ⟨x,H1,I1,r1,q1⟩=>ho pins s1 σ H1 x v Q I1 r1 q1)
theorem opI {f:Value->Value->Sem Value} {C:Int->Int->Prop} {g:Int->Int->Int}
  (rule:∀(i j:Int) (t u:Tok) (s:Shared) (Q:Value->Shared->Prop) (E:Value->Shared->Prop),C i j->Q (.int (g i j) s.toks) { s with toks:=s.toks+1 }->wpAny (model X.prog X.w) X.A (f (.int i t) (.int j u)) Q E s) :
  OpR X f (rI C fun i j=>.int (g i j)):=by
 intro pins s σ H x y v u Q I rx ry h
 obtain ⟨i,j,rfl,rfl,hc,q⟩:=h
 obtain ⟨t,rfl⟩:=rx
 obtain ⟨t',rfl⟩:=ry
 exact rule i j t t' s _ _ hc ⟨.int (g i j),H,I.tok _,⟨_,rfl⟩,q⟩
theorem zw9 {f:Value->Value->Sem Value} {g:Int->Int->Int}
  (rule:∀(i j:Int) (t u:Tok) (s:Shared) (Q:Value->Shared->Prop) (E:Value->Shared->Prop),Q (.int (g i j) s.toks) { s with toks:=s.toks+1 }->wpAny (model X.prog X.w) X.A (f (.int i t) (.int j u)) Q E s) :
  OpR X f (rI0 fun i j=>.int (g i j)):=by
 intro pins s σ H x y v u Q I rx ry h
 obtain ⟨i,j,rfl,rfl,q⟩:=h
 obtain ⟨t,rfl⟩:=rx
 obtain ⟨t',rfl⟩:=ry
 exact rule i j t t' s _ _ ⟨.int (g i j),H,I.tok _,⟨_,rfl⟩,q⟩
theorem zwa {f:Value->Value->Sem Value} {g:Int->Int->Bool}
  (rule:∀(i j:Int) (t u:Tok) (s:Shared) (Q:Value->Shared->Prop) (E:Value->Shared->Prop),Q (.bool (g i j)) s->wpAny (model X.prog X.w) X.A (f (.int i t) (.int j u)) Q E s) :
  OpR X f (rI0 fun i j=>.bl (g i j)):=by
 intro pins s σ H x y v u Q I rx ry h
 obtain ⟨i,j,rfl,rfl,q⟩:=h
 obtain ⟨t,rfl⟩:=rx
 obtain ⟨t',rfl⟩:=ry
 exact rule i j t t' s _ _ ⟨.bl (g i j),H,I,rfl,q⟩
def zkp (i j:Int):Prop:=0<j/\j<1073741824
def ze0 (i j:Int):Prop:=0<=j/\j<=1000000/\i.natAbs<2 ^ 64
def CMul (i j:Int):Prop:=(-(2 ^ 64)<i/\i<2 ^ 64)\/(-(2 ^ 64)<j/\j<2 ^ 64)
theorem CMul.ok {i j:Int} (h:CMul i j):IntMulOk i j:=by
 rcases h with ⟨h1,h2⟩ | ⟨h1,h2⟩
 . exact .of_left (intBits_le_64 h1 h2)
 . exact .of_right (intBits_le_64 h1 h2)
theorem op_add:OpR X (binaryOp .Add) (rI0 fun i j=>.int (i+j)):=zw9 fun _ _ _ _ _ _ _ q=>add_int q
theorem op_sub:OpR X (binaryOp .Sub) (rI0 fun i j=>.int (i - j)):=zw9 fun _ _ _ _ _ _ _ q=>sub_int q
theorem op_mul:OpR X (binaryOp .Mult) (rI CMul fun i j=>.int (i * j)):=opI fun _ _ _ _ _ _ _ hc q=>mul_int q hc.ok
theorem op_fdiv:OpR X (binaryOp .FloorDiv) (rI zkp fun i j=>.int (i / j)):=opI fun i j _ _ _ _ _ hc q=>by
 have h1:(0:Int)<j:=hc.1
 have h2:j<1073741824:=hc.2
 exact floordiv_int (by omega) (by rw [Int.fdiv_eq_ediv_of_nonneg i (by omega)];exact q) (.inl (PyProof.noPylong_small (by omega)))
theorem op_mod:OpR X (binaryOp .Mod) (rI (fun _ j=>0<j) fun i j=>.int (i % j)):=opI fun i j _ _ _ _ _ hc q=>by
 have h1:(0:Int)<j:=hc
 exact mod_int' (by omega) (by rw [Int.fmod_eq_emod_of_nonneg i (by omega)];exact q)
theorem op_pow:OpR X (binaryOp .Pow) (rI ze0 fun i j=>.int (i ^ j.toNat)):=opI fun _ _ _ _ _ _ _ hc q=>pow_int_small hc.1 hc.2.1 hc.2.2 q
theorem unI {f:Value->Sem Value} {g:Int->Int}
  (rule:∀(i:Int) (t:Tok) (s:Shared) (Q:Value->Shared->Prop) (E:Value->Shared->Prop),Q (.int (g i) s.toks) { s with toks:=s.toks+1 }->wpAny (model X.prog X.w) X.A (f (.int i t)) Q E s) :
  UnR X f (rU fun i=>.int (g i)):=by
 intro pins s σ H x v Q I rx h
 obtain ⟨i,rfl,q⟩:=h
 obtain ⟨t,rfl⟩:=rx
 exact rule i t s _ _ ⟨.int (g i),H,I.tok _,⟨_,rfl⟩,q⟩
theorem un_neg:UnR X (unaryOp .USub) (rU fun i=>.int (-i)):=unI fun _ _ _ _ _ q=>neg_int q
end
section
variable {X:Cx} {a b c:Expr} {ta tb tc:TE} {pos:Pos}
theorem zo9 {pins:List (Addr×Obj)} {σ:St} {H:Hp} {s:Shared} {Q:VK} {k k':Bool} (I:Inv X pins σ H s) (q:Q (.bl k) H) (e:k=k'):EP X pins σ Q (.bool k') s:=by
 subst e
 exact ⟨.bl k,H,I,rfl,q⟩
theorem op_lt:OpR X (compareOp .Lt) (rI0 fun i j=>.bl (decide (i<j))):=zwa fun _ _ _ _ _ _ _ q=>lt_int q
theorem op_gt:OpR X (compareOp .Gt) (rI0 fun i j=>.bl (decide (j<i))):=zwa fun _ _ _ _ _ _ _ q=>gt_int q
theorem zj6:OpR X (compareOp .Is) (fun x y H Q=>y=.non/\Q (.bl (decide (x=.non))) H):=by
 intro pins s σ H x y v u Q I rx ry h
 obtain ⟨rfl,q⟩:=h
 cases ry
 refine is_none_gen (zo9 I q ?_)
 cases x<;>first
  | (cases rx;rfl)
  | (obtain ⟨t,rfl⟩:=rx;rfl)
theorem OpR.or {f:Value->Value->Sem Value} {r r':R2} (h:OpR X f r) (h':OpR X f r'):OpR X f (fun x y H Q=>r x y H Q\/r' x y H Q):=by
 intro pins s σ H x y v u Q I rx ry q
 rcases q with q | q
 . exact h pins s σ H x y v u Q I rx ry q
 . exact h' pins s σ H x y v u Q I rx ry q
theorem z0g (b:Expr) {op:CmpOp} (h:op≠.In:=by decide) (h2:op≠.NotIn:=by decide):behindInMarks op b=false:=by
 have e1:(op==CmpOp.In)=false:=by cases op<;>first | rfl | exact absurd rfl h
 have e2:(op==CmpOp.NotIn)=false:=by cases op<;>first | rfl | exact absurd rfl h2
 cases b<;>simp [behindInMarks,e1,e2]
theorem zkq {op:CmpOp} {r:R2} (ho:OpR X (compareOp op) r) (ha:PE X a ta) (hb:PE X b tb) (hm:behindInMarks op b=false):PE X (.Compare a [op] [b] pos) (tOp r ta tb):=by
 intro pins s σ H Q I h
 exact wpAny_Compare1 (zti ha hb I h fun v u s2 x y H2 I2 rx ry q=>ho pins s2 σ H2 x y v u Q I2 rx ry q) hm
def zwb (K:Frag) (x:V) (H:Hp) (k:Bool):Prop:=
 match x with
 | .non=>k=false
 | .bl b=>k=b
 | .int i=>k=(i != 0)
 | .str y=>y.length<=sizeLine/\k=((y.length:Int) != 0)
 | .byt y=>y.size<=sizeLine/\k=((y.size:Int) != 0)
 | .ref p=>(∃xs,SqL K H p xs/\k=!xs.isEmpty)\/(∃xs,SqT K H p xs/\k=!xs.isEmpty)\/∃kvs,H p=some (.dK kvs)/\k=!kvs.isEmpty
 | _=>False
theorem zcp {κ:Type} {kvs:List (κ×V)} {vs:List (κ×Value)} (r:KV kvs vs):(!vs.isEmpty)=!kvs.isEmpty:=by
 cases r<;>rfl
theorem z76 {xs:List V} {its:List Value} (r:Vals xs its):(!its.toArray.isEmpty)=!xs.isEmpty:=by
 cases r<;>simp
theorem z77:(sizeLine:Nat)<2 ^ 63:=by rw [sizeLine_eq];decide
theorem zj7:zx5 X (fun x H Q=>∃k,zwb X.K x H k/\Q k H):=by
 intro pins s σ H x v Q I rx h
 obtain ⟨k,e,q⟩:=h
 have hl:=z77
 have hs:sizeLine=16777216:=sizeLine_eq
 cases x with
 | non=>
  cases rx
  have e':k=false:=e
  subst e'
  exact truthy_none ⟨H,I,q⟩
 | bl b=>
  cases rx
  have e':k=b:=e
  subst e'
  exact wpAny_truthy_bool ⟨H,I,q⟩
 | int i=>
  obtain ⟨t,rfl⟩:=rx
  have e':k=(i != 0):=e
  subst e'
  exact PySem.P.truthy_int ⟨H,I,q⟩
 | str y=>
  obtain ⟨t,rfl⟩:=rx
  obtain ⟨hy,e'⟩:y.length<=sizeLine/\k=((y.length:Int) != 0):=e
  subst e'
  exact PySem.P.truthy_str (by omega) ⟨H,I.tok _,q⟩
 | byt y=>
  obtain ⟨t,rfl⟩:=rx
  obtain ⟨hy,e'⟩:y.size<=sizeLine/\k=((y.size:Int) != 0):=e
  subst e'
  exact PySem.W.truthy_bytes (by omega) ⟨H,I.tok _,q⟩
 | ref p=>
  cases rx
  have e':(∃xs,SqL X.K H p xs/\k=!xs.isEmpty)\/(∃xs,SqT X.K H p xs/\k=!xs.isEmpty)\/∃kvs,H p=some (.dK kvs)/\k=!kvs.isEmpty:=e
  rcases e' with ⟨xs,hx,e'⟩ | ⟨xs,hx,e'⟩ | ⟨kvs,hx,e'⟩
  . subst e'
    obtain ⟨its,r,pl,hz⟩:=I.list hx
    have hlen:=r.length
    exact wpAny_truthy_list pl.isList (by simp only [List.size_toArray];omega) ⟨H,I.tok _,by rw [z76 r];exact q⟩
  . subst e'
    obtain ⟨its,r,pl,hz⟩:=I.tuple hx
    have hlen:=r.length
    exact truthy_tuple pl (by simp only [List.size_toArray];omega) ⟨H,I.tok _,by rw [z76 r];exact q⟩
  . subst e'
    obtain ⟨hz,hS,vs,r,m⟩:kvs.length<=sizeLine/\(p==sysModules)=false/\∃vs,KV kvs vs/\s.heap.DictOf (z2j X.prog X.w) p vs:=I.hok p _ hx
    have hlen:kvs.length=vs.length:=Paired.length r
    exact wpAny_truthy_dict hS m (by omega) ⟨H,I.tok _,by rw [zcp r];exact q⟩
 | _=>exact (show False from e).elim
theorem z5w {x:V} {us:List Value} (r:Vals [x] us):∃u,us=[u]/\RelV x u:=by
 cases r with
 | cons r1 r2=>cases r2;exact ⟨_,rfl,r1⟩
theorem ze1 {x y:V} {us:List Value} (r:Vals [x,y] us):∃u w',us=[u,w']/\RelV x u/\RelV y w':=by
 cases r with
 | cons r1 r2=>
  cases r2 with
  | cons r3 r4=>cases r4;exact ⟨_,_,rfl,r1,r3⟩
theorem ze2 (hc:X.calm=true):CallR X (.builtin "max") (fun xs H Q=>∃i j,xs=[.int i,.int j]/\Q (.int (if j > i then j else i)) H):=by
 intro pins s σ H xs us Q I r h
 obtain ⟨i,j,rfl,q⟩:=h
 obtain ⟨u,w',rfl,⟨t,rfl⟩,⟨t',rfl⟩⟩:=ze1 r
 refine max_two_ints (I.ok.hd hc) fun h' tk k=>⟨_,H,I.kept k,?_,q⟩
 by_cases hj:j > i
 . rw [if_pos hj,if_pos hj];exact ⟨_,rfl⟩
 . rw [if_neg hj,if_neg hj];exact ⟨_,rfl⟩
theorem ze3 (hc:X.calm=true):CallR X (.builtin "min") (fun xs H Q=>∃i j,xs=[.int i,.int j]/\Q (.int (if j<i then j else i)) H):=by
 intro pins s σ H xs us Q I r h
 obtain ⟨i,j,rfl,q⟩:=h
 obtain ⟨u,w',rfl,⟨t,rfl⟩,⟨t',rfl⟩⟩:=ze1 r
 refine min_two_ints (I.ok.hd hc) fun h' tk k=>⟨_,H,I.kept k,?_,q⟩
 by_cases hj:j<i
 . rw [if_pos hj,if_pos hj];exact ⟨_,rfl⟩
 . rw [if_neg hj,if_neg hj];exact ⟨_,rfl⟩
theorem call_int1:CallR X (.type "int") (fun xs H Q=>(∃i,xs=[.int i]/\Q (.int i) H)\/∃k,xs=[.bl k]/\Q (.int (if k then 1 else 0)) H):=by
 intro pins s σ H xs us Q I r h
 rcases h with ⟨i,rfl,q⟩ | ⟨k,rfl,q⟩
 . obtain ⟨u,rfl,t,rfl⟩:=z5w r
   exact call_int_int ⟨.int i,H,I,⟨_,rfl⟩,q⟩
 . obtain ⟨u,rfl,r1⟩:=z5w r
   cases r1
   exact call_int_bool ⟨.int (if k then 1 else 0),H,I.tok _,⟨_,rfl⟩,q⟩
end
structure ObjM (h:Heap) (x dx C:Addr) (mA:Str->Option Value):Prop where
 obj:h.get? x=some (PySem.W.instObj C dx)
 ns:h.Ns1 dx mA
 ne:dx≠x
theorem ze4 {h:Heap} {dx:Addr} {mA:Str->Option Value} (n:h.Ns1 dx mA):∃od,h.get? dx=some od/\∀name,PySem.W.lookIn name od=some (mA name):=by
 obtain ⟨o,es,ep,ho,hd,hk,_,hm⟩:=n
 refine ⟨o,ho,fun name=>?_⟩
 have e:=hm name
 unfold nsFind findBy at e
 rw [<-Array.find?_toList] at e
 unfold PySem.W.lookIn
 rw [hd]
 dsimp only
 split
 . rename_i y q
   rw [q] at e
   exact congrArg some e
 . rename_i q
   rw [q] at e
   have a:es.toList.any (·.refKey)=false:=by
    rw [List.any_eq_false]
    intro y hy
    obtain ⟨z,t,hkey⟩:=hk y (Array.mem_toList_iff.mp hy)
    simp [DictEntry.refKey,hkey]
   have a':¬es.toList.any (·.refKey)=true:=by rw [a];exact Bool.false_ne_true
   rw [if_neg a']
   exact congrArg some e
theorem ObjM.look {h:Heap} {x dx C:Addr} {mA:Str->Option Value} (I:ObjM h x dx C mA):∃od,PySem.W.InstAt h x (PySem.W.instObj C dx) C (some od)/\∀name,PySem.W.lookIn name od=some (mA name):=
 let ⟨od,ho,hl⟩:=ze4 I.ns
 ⟨od,⟨I.obj,rfl,rfl,ho⟩,hl⟩
theorem RelO.some_of {v:V} {o:Option Value} (r:RelO (some v) o):∃u,o=some u/\RelV v u:=by
 cases o with
 | none=>exact (show False from r).elim
 | some u=>exact ⟨u,rfl,r⟩
section
variable {P:Program} {w:World} {H H':Hp} {h h':Heap} {a C dx:Addr} {fs fs':List (Str×V)}
theorem zkr (hok:HOk P w H h) (e:H a=some (.ins C dx fs)):∃mA,ObjM h a dx C mA/\(∀f,RelO (fs.lookup f) (mA f))/\PySem.Within mA (fs.map (·.1))/\fs.length<=1000/\H dx=some (.own a):=by
 obtain ⟨d,z,ne,ob,mA,n,r,q⟩:=(show ObjOk P w H h a (.ins C dx fs) from hok a _ e)
 exact ⟨mA,⟨ob,n,ne⟩,r,q,z,d⟩
end
structure Cls (K:Frag) (C:Addr):Prop where
 pg:PySem.W.plainGet K C Str.empty=true
 hd:PySem.W.hasDictIn K C=true
 po:PySem.W.plainOver K C=true
 sa:PySem.W.findIn K (.ref C) "__setattr__"=some (some (.builtin "object.__setattr__"))
theorem Cls.get {K:Frag} {C:Addr} (c:Cls K C) (f:Str):PySem.W.plainGet K C f=true:=c.pg
section
variable {X:Cx} {pins:List (Addr×Obj)} {σ:St} {H:Hp} {s:Shared} {A:Around} {E:Value->Shared->Prop} {Q:Value->Shared->Prop} {c:Value} {b:Bool}
inductive TyOf (K:Frag) (H:Hp):V->Value->Prop where
 | non:TyOf K H .non (.type "NoneType")
 | bl (x:Bool):TyOf K H (.bl x) (.type "bool")
 | int (i:Int):TyOf K H (.int i) (.type "int")
 | str (x:Str):TyOf K H (.str x) (.type "str")
 | flt (x:UInt64):TyOf K H (.flt x) (.type "float")
 | lst {a:Addr} {xs:List V} (e:H a=some (.lst xs)):TyOf K H (.ref a) (.type "list")
 | frz {a:Addr} {o:Obj} {xs:List V} (e:H a=some (.frz o (.lst xs))):TyOf K H (.ref a) (.type "list")
 | tup {a:Addr} {xs:List V} (e:H a=some (.tup xs)):TyOf K H (.ref a) (.type "tuple")
 | dK {a:Addr} {kvs:List (Key×V)} (e:H a=some (.dK kvs)):TyOf K H (.ref a) (.type "dict")
 | dT {a:Addr} {kvs:List (List Key×V)} (e:H a=some (.dT kvs)):TyOf K H (.ref a) (.type "dict")
 | ins {a C dx:Addr} {fs:List (Str×V)} (e:H a=some (.ins C dx fs)) (cl:Cls K C) (ha:PySem.W.findIn K (.ref C) "__class__"=some (some (.builtin "object.__class__")))
  (hn:PySem.W.specialIn K (.builtin "object.__class__") "__get__"=some (some (.builtin "getset_descriptor.__get__"))) (htk:PySem.W.takesIn K (.builtin "object.__class__")=some true)
  (hm:PySem.W.mroIn K C (.type "object")=some true):TyOf K H (.ref a) (.ref C)
theorem z1n {x:V} {u t:Value} (I:Inv X pins σ H s) (rx:RelV x u) (ty:TyOf X.K H x t) (e:PySem.W.kitOne X.K t c=some b) (h:∀tk,Q (.bool b) { s with toks:=tk }) :
  wpAny (model X.prog X.w) A (call (.builtin "isinstance") [u,c]) Q E s:=by
 cases ty with
 | non=>cases (show u=Value.none from rx);exact kia_one PySem.W.kitx_none I.kIn True.intro e (fun z=>nomatch z) h
 | bl y=>cases (show u=Value.bool y from rx);exact kia_one PySem.W.kitx_bool I.kIn True.intro e (fun z=>nomatch z) h
 | int i=>obtain ⟨t,q⟩:=(show ∃t,u=Value.int i t from rx);cases q;exact kia_one PySem.W.kitx_int I.kIn True.intro e (fun z=>nomatch z) h
 | str y=>obtain ⟨t,q⟩:=(show ∃t,u=Value.str y t from rx);cases q;exact kia_one PySem.W.kitx_str I.kIn True.intro e (fun z=>nomatch z) h
 | flt y=>obtain ⟨t,q⟩:=(show ∃t,u=Value.float y t from rx);cases q;exact kia_one PySem.W.kitx_float I.kIn True.intro e (fun z=>nomatch z) h
 | @lst a xs ea=>
  cases (show u=Value.ref a from rx)
  obtain ⟨_,_,n,_,h1⟩:=(show ObjOk X.prog X.w H s.heap a (.lst xs) from I.hok a _ ea)
  exact kia_one PySem.W.kitx_list I.kIn ⟨_,h1,rfl⟩ e (fun z=>nomatch z) h
 | @frz a ob xs ea=>
  cases (show u=Value.ref a from rx)
  obtain ⟨_,_,_,n,_,h1⟩:=(show ObjOk X.prog X.w H s.heap a (.frz ob (.lst xs)) from I.hok a _ ea)
  exact kia_one PySem.W.kitx_list I.kIn ⟨_,h1,rfl⟩ e (fun z=>nomatch z) h
 | @tup a xs ea=>
  cases (show u=Value.ref a from rx)
  obtain ⟨_,_,_,p⟩:=(show ObjOk X.prog X.w H s.heap a (.tup xs) from I.hok a _ ea)
  obtain ⟨o,h1,h2,_⟩:=p
  exact kia_one PySem.W.kitx_tuple I.kIn ⟨o,h1,h2⟩ e (fun z=>nomatch z) h
 | @dK a kvs ea=>
  cases (show u=Value.ref a from rx)
  obtain ⟨_,_,vs,_,p⟩:=(show ObjOk X.prog X.w H s.heap a (.dK kvs) from I.hok a _ ea)
  obtain ⟨o,es,ep,h1,h2,_⟩:=p
  exact kia_one PySem.W.kitx_dict I.kIn ⟨o,h1,h2.1⟩ e (fun z=>nomatch z) h
 | @dT a kvs ea=>
  cases (show u=Value.ref a from rx)
  obtain ⟨_,_,xs,_,o,es,ep,h1,h2,_⟩:=(show ObjOk X.prog X.w H s.heap a (.dT kvs) from I.hok a _ ea)
  exact kia_one PySem.W.kitx_dict I.kIn ⟨o,h1,h2.1⟩ e (fun z=>nomatch z) h
 | @ins a C dx fs ea cl ha hn htk hm=>
  cases (show u=Value.ref a from rx)
  obtain ⟨mA,O,_⟩:=zkr I.hok ea
  obtain ⟨od,J,_⟩:=O.look
  exact kia_one (PySem.W.kitx_own (cl.get _) cl.hd ha hn htk hm) I.kIn J e (fun z=>nomatch z) h
end
structure Room (k:Nat) (A:Around):Prop where
 hd:A.handled=none
 dp:A.depth+3 * k+5<recursionLimit
 un:A.units+16 * k+200<cLine
theorem Room.mono {j k:Nat} {A:Around} (r:Room k A) (h:j<=k):Room j A:=⟨r.hd,by have:=r.dp;omega,by have:=r.un;omega⟩
theorem Room.deeper {k:Nat} {A:Around} (r:Room (k+1) A) (env:Env):Room k (A.deeper env):=
 ⟨r.hd,by have:=r.dp;show A.depth+1+3 * k+5<_;omega,by have:=r.un;show A.units+3+16 * k+200<_;omega⟩
theorem Room.depth {k:Nat} {A:Around} (r:Room k A):A.depth<recursionLimit:=by have:=r.dp;omega
theorem Room.units {k:Nat} {A:Around} (r:Room k A):A.units+64<cLine:=by have:=r.un;omega
noncomputable def ztl:TA:=fun _ H Q=>Q [] H
noncomputable def zcq (ta:TE) (tr:TA):TA:=fun σ H Q=>ta σ H fun x H1=>tr σ H1 fun xs H2=>Q (x::xs) H2
section
variable {X:Cx} {e:Expr} {es:List Expr} {te:TE} {t:TA} {pos:Pos}
theorem pa_nil:PA X [] ztl:=fun _ _ _ _ H Q I h=>Calls.spliced_nil ⟨[],H,I,.nil,h⟩
theorem z65 (ha:PE X e te) (hr:PA X es t) (hs:starEach (e::es) X.env=(false,eval e X.env)::starEach es X.env:=by rfl):PA X (e::es) (zcq te t):=by
 intro pos pins s σ H Q I h
 rw [hs]
 show wpAny _ _ (spliced ((false,eval e X.env)::backTo pos (starEach es X.env))) _ _ s
 refine Calls.spliced_cons (thn (ha pins s σ H _ I h) fun u s1 ⟨x,H1,I1,r1,q1⟩=>?_)
 exact thn (hr pos pins s1 σ H1 _ I1 q1) fun us s2 ⟨xs,H2,I2,r2,q2⟩=>⟨x::xs,H2,I2,.cons r1 r2,q2⟩
noncomputable def zwc (t:TA):TE:=fun σ H Q=>t σ H fun xs H1=>xs.length<=sizeLine/\∀p,H1 p=none->Q (.ref p) (upd H1 p (.tup xs))
noncomputable def zwd (t:TA):TE:=fun σ H Q=>t σ H fun xs H1=>xs.length<=sizeLine/\∀p,H1 p=none->Q (.ref p) (upd H1 p (.lst xs))
theorem zoa {x1} (h:PA X es t):PE X (.Tuple es x1 pos) (zwc t):=by
 intro pins s σ H Q I hq
 refine wpAny_Tuple_spliced (thn (h pos pins s σ H _ I hq) fun us s1 ⟨xs,H1,I1,r,z,q⟩=>⟨by rw [<-r.length];exact z,?_⟩)
 have hf:H1 s1.heap.objs.size=none:=I1.hok.fresh (Nat.le_refl _)
 refine ⟨.ref s1.heap.objs.size,upd H1 s1.heap.objs.size (.tup xs),I1.laid (t':=s1.toks) (fun b u e=>Heap.get?_push_of_some _ e) (Nat.le_refl _) ?_,rfl,q _ hf⟩
 exact ⟨z,us,r,⟨_,Heap.get?_push_size _ rfl,rfl,_,rfl⟩⟩
theorem zob (h:PA X es t):PE X (.List es pos) (zwd t):=by
 intro pins s σ H Q I hq
 refine wpAny_List_spliced (thn (h pos pins s σ H _ I hq) fun us s1 ⟨xs,H1,I1,r,z,q⟩=>⟨by rw [<-r.length];exact z,?_⟩)
 have hf:H1 s1.heap.objs.size=none:=I1.hok.fresh (Nat.le_refl _)
 refine ⟨.ref s1.heap.objs.size,upd H1 s1.heap.objs.size (.lst xs),I1.laid (t':=s1.toks) (fun b u e=>Heap.get?_push_of_some _ e) (Nat.le_refl _) ?_,rfl,q _ hf⟩
 exact ⟨z,us,0,r,Heap.get?_push_size _ rfl⟩
end
abbrev Sp:=List V->Hp->VK->XK->Prop
abbrev CXT:=List Env->Hp->Shared->XK->Value->Shared->Prop
structure Env0 (P:Program) (w:World) (K:Frag) (mg:Str->Option Value) (base:Heap) (A:Around) (outer:List Env) (s:Shared) (H:Hp):Prop where
 frames:A.frames=some outer
 mod:Mod K mg base
 bs:∀b o,base.get? b=some o->s.heap.get? b=some o/\H b=none
 bsz:base.objs.size<=s.heap.objs.size
 funs:s.heap.FunFrames base outer
 frf:∀b∈frs outer,H b=none
 hok:HOk P w H s.heap
 bare:AllBare s.gens
def CE (outer:List Env) (P:Program) (w:World) (H:Hp) (s:Shared) (Q:VK) (u:Value) (s':Shared):Prop:=
 ∃v H',s'.os=s.os/\AllBare s'.gens/\Un (frs outer) [] H H' s.heap s'.heap/\HOk P w H' s'.heap/\RelV v u/\Q v H'
def CR (CX:CXT) (outer:List Env) (P:Program) (w:World) (H:Hp) (s:Shared) (Q:VK) (E:XK) (r:Result) (s':Shared):Prop:=
 match r with
 | .ok (.ret u)=>CE outer P w H s Q u s'
 | .ok _=>False
 | .error e=>CX outer H s E e s'
structure FnOk (P:Program) (w:World) (K:Frag) (mg:Str->Option Value) (base:Heap) (CX:CXT) (k:Nat) (f:Addr) (fd:FuncData) (ps:List Str) (sp:Sp):Prop where
 len:∀vs H Q E,sp vs H Q E->vs.length=ps.length
 run:∀(A:Around) (outer:List Env) (s:Shared) (H:Hp) (args:Args) (us:List Value) (vs:List V) (Q:VK) (E:XK),Room k A->Env0 P w K mg base A outer s H->BindsTo s fd args (ps.zip us)->Vals vs us->sp vs H Q E ->
  codeAny (model P w) A (.call (.ref f) args) (CR CX outer P w H s Q E) s
theorem FnOk.imp {P:Program} {w:World} {K:Frag} {mg:Str->Option Value} {base:Heap} {CX:CXT} {k:Nat} {f:Addr} {fd:FuncData} {ps:List Str} {sp sp':Sp} (F:FnOk P w K mg base CX k f fd ps sp)
  (h:∀vs H Q E,sp' vs H Q E->sp vs H Q E):FnOk P w K mg base CX k f fd ps sp':=
 ⟨fun vs H Q E q=>F.len vs H Q E (h _ _ _ _ q),fun A outer s H args us vs Q E hr he hb hv hs=>F.run A outer s H args us vs Q E hr he hb hv (h _ _ _ _ hs)⟩
section
variable {X:Cx} {pins:List (Addr×Obj)} {σ:St} {H:Hp} {s s':Shared}
theorem Inv.env0 (I:Inv X pins σ H s):Env0 X.prog X.w X.K X.mg X.base X.A X.stack s H:=
 ⟨I.ok.frames,I.ok.mod,I.bs,Nat.le_trans I.ok.bsz I.sz,I.stack,I.stkFree,I.hok,I.bare⟩
theorem Inv.after {Q:VK} {u:Value} (I:Inv X pins σ H s) (h:CE X.stack X.prog X.w H s Q u s'):EP X pins σ Q u s':=by
 obtain ⟨v,H',os,bare,un,hok,r,q⟩:=h
 obtain ⟨hh,g,d,t,os'⟩:=s'
 obtain rfl:os'=s.os:=os
 exact ⟨v,H',I.call (h':=hh) (g':=g) (d':=d) (t':=t) (ch:=[]) un hok bare (fun b z=>absurd z (by simp)),r,q⟩
end
noncomputable def zoc (sp:Sp) (dvs:List V) (E:XK) (t:TA):TE:=fun σ H Q=>t σ H fun vs H1=>sp (vs++dvs) H1 Q E
def Binds (K:Frag) (fd:FuncData) (ps:List Str) (ds:List Value):Prop:=
 ∀(s:Shared) (us:List Value),K.In s.heap->(us++ds).length=ps.length->BindsTo s fd ⟨us,[]⟩ (ps.zip (us++ds))
theorem Binds.all {K:Frag} {fd:FuncData} {ps:List Str} (h:∀us:List Value,us.length=ps.length->bindArgs fd ⟨us,[]⟩=pure (ps.zip us)):Binds K fd ps []:=fun s us _ hl=>by
 rw [List.append_nil] at hl ⊢
 exact .of_eq (h us hl)
def zb9 (CX:CXT) (X:Cx) (E:XK):Prop:=∀(pins:List (Addr×Obj)) (σ:St) (H:Hp) (s:Shared) (e:Value) (s':Shared),Inv X pins σ H s->CX X.stack H s E e s'->X.xe e s'
section
variable {X:Cx} {CX:CXT} {k:Nat} {f C:Addr} {fd:FuncData} {ps:List Str} {sp:Sp} {dvs:List V} {ds:List Value} {E:XK} {x m:Str} {p pos apos:Pos} {e o:Expr} {es:List Expr} {ta:TE} {t:TA}
theorem zod {pins:List (Addr×Obj)} {σ:St} {H:Hp} {s:Shared} {Q:VK} {us:List Value} {vs:List V} (F:FnOk X.prog X.w X.K X.mg X.base CX k f fd ps sp) (hr:Room k X.A) (hb:Binds X.K fd ps ds) (hd:Vals dvs ds) (hx:zb9 CX X E)
  (I:Inv X pins σ H s) (r:Vals vs us) (h:sp (vs++dvs) H Q E):wpAny (model X.prog X.w) X.A (call (.ref f) us) (EP X pins σ Q) X.xe s:=by
 have r2:Vals (vs++dvs) (us++ds):=r.append hd
 have hl:(us++ds).length=ps.length:=by rw [<-r2.length];exact F.len _ _ _ _ h
 refine wpAny_call (codeAny_mono (F.run X.A X.stack s H ⟨us,[]⟩ (us++ds) (vs++dvs) Q E hr I.env0 (hb s us I.kIn hl) r2 h) fun r s' hq=>?_)
 cases r with
 | error e=>exact hx pins σ H s e s' I hq
 | ok fl=>
  cases fl with
  | ret u=>exact I.after hq
  | next=>exact False.elim hq
  | brk=>exact False.elim hq
  | cont=>exact False.elim hq
theorem zks (F:FnOk X.prog X.w X.K X.mg X.base CX k f fd ps sp) (hr:Room k X.A) (hg:Gl X x) (hm:X.mg x=some (.ref f)) (hk:keepIn X.K (.ref f)=true) (hb:Binds X.K fd ps ds) (hd:Vals dvs ds) (hx:zb9 CX X E)
  (ha:PA X (e::es) t) (hdb:(x==("__debug__":Str))=false:=by decide) (he:starEach (e::es) X.env=(false,eval e X.env)::starEach es X.env:=by rfl) (hpl:(backTo pos (starEach es X.env)).any (·.1)=false:=by rfl) :
  PE X (.Call (.Name x p) (e::es) [] pos) (zoc sp dvs E t):=by
 intro pins s σ H Q I h
 refine wpAny_Call_Name_kw (zkm I hg hm ?_ hdb)
 refine PySem.W.callWith_K (h₀:=X.base) I.ok.mod.kin hk (thn (ha pos pins s σ H _ I h) fun us s1 ⟨vs,H1,I1,r,q⟩=>⟨I1.kIn,?_⟩) he hpl
 exact zod F hr hb hd hx I1 r q
end
structure FnScope (N P:List Str) (sc:Scope):Prop where
 kind:sc.kind=.function
 co:sc.isCoroutine=false
 gen:sc.isGenerator=false
 nd:N.Nodup
 pre:N.take P.length=P
 par:∀x∈P,sc.names.lookup x=some .local\/sc.names.lookup x=some .cell
 nofree:∀y∈sc.names,y.2≠.free
theorem z90 {kindOf:Str->Option NameKind} {x:Str}:∀{binds:List (Str×Value)} {m:Str->Option Value},(∀v,(x,v)∉binds)->bindL kindOf binds m x=m x
 | [],_,_=>rfl
 | (n,v)::r,m,h=>by
  unfold bindL
  rw [z90 fun w hw=>h w (List.mem_cons_of_mem _ hw)]
  split
  . have:x≠n:=by rintro rfl;exact h v List.mem_cons_self
    simp [this]
  . rfl
theorem z91 {kindOf:Str->Option NameKind} {x:Str}:∀{binds:List (Str×Value)} {m:Str->Option Value},(∀v,(x,v)∉binds)->bindC kindOf binds m x=m x
 | [],_,_=>rfl
 | (n,v)::r,m,h=>by
  unfold bindC
  rw [z91 fun w hw=>h w (List.mem_cons_of_mem _ hw)]
  split
  . rfl
  . have:x≠n:=by rintro rfl;exact h v List.mem_cons_self
    simp [this]
theorem z92 {kindOf:Str->Option NameKind} {x:Str} {v:Value}:∀{P:List Str} {vs:List Value} {i:Nat} {m:Str->Option Value},P.Nodup->P[i]?=some x->vs[i]?=some v->kindOf x=some .local ->
  bindL kindOf (P.zip vs) m x=some v
 | [],_,_,_,_,h,_,_=>by simp at h
 | _::_,[],_,_,_,_,h,_=>by simp at h
 | p::P,w::vs,0,m,nd,h1,h2,hk=>by
  simp at h1 h2;subst h1;subst h2
  show bindL kindOf ((p,w)::P.zip vs) m p=_
  unfold bindL
  rw [z90 fun v hv=>(List.nodup_cons.mp nd).1 (List.of_mem_zip hv).1,if_pos hk]
  simp
 | p::P,w::vs,i+1,m,nd,h1,h2,hk=>by
  show bindL kindOf ((p,w)::P.zip vs) m x=_
  unfold bindL
  exact z92 (i:=i) (List.nodup_cons.mp nd).2 (by simpa using h1) (by simpa using h2) hk
theorem z93 {kindOf:Str->Option NameKind} {x:Str} {v:Value}:∀{P:List Str} {vs:List Value} {i:Nat} {m:Str->Option Value},P.Nodup->P[i]?=some x->vs[i]?=some v->kindOf x≠some .local ->
  bindC kindOf (P.zip vs) m x=some v
 | [],_,_,_,_,h,_,_=>by simp at h
 | _::_,[],_,_,_,_,h,_=>by simp at h
 | p::P,w::vs,0,m,nd,h1,h2,hk=>by
  simp at h1 h2;subst h1;subst h2
  show bindC kindOf ((p,w)::P.zip vs) m p=_
  unfold bindC
  rw [z91 fun v hv=>(List.nodup_cons.mp nd).1 (List.of_mem_zip hv).1,if_neg hk]
  simp
 | p::P,w::vs,i+1,m,nd,h1,h2,hk=>by
  show bindC kindOf ((p,w)::P.zip vs) m x=_
  unfold bindC
  exact z93 (i:=i) (List.nodup_cons.mp nd).2 (by simpa using h1) (by simpa using h2) hk
noncomputable def start (N:List Str) (vs:List V):St:=vs.map some++List.replicate (N.length - vs.length) none
noncomputable def zh3 (CX:CXT) (P:Program) (w:World) (K:Frag) (mg:Str->Option Value) (base:Heap) (N:List Str) (qual:Str) (scope:Scope) (f:Addr) (cd:Value) (A:Around) (outer:List Env) (s:Shared) (H:Hp) (E:XK):Cx where
 prog:=P
 w:=w
 K:=K
 mg:=mg
 base:=base
 A:=A.deeper (envOfC qual scope s.heap.objs.size f cd)
 N:=N
 s₀:=s
 H₀:=H
 env:=envOfC qual scope s.heap.objs.size f cd
 outer:=outer
 stack:=envOfC qual scope s.heap.objs.size f cd::outer
 ex:=[]
 calm:=true
 fn:=fun _=>true
 pn:=[]
 xe:=fun e s'=>wpAny (model P w) (A.deeper (envOfC qual scope s.heap.objs.size f cd)) (leaving (envOfC qual scope s.heap.objs.size f cd) e) (fun _ s''=>CX outer H s E e s'') (fun e' s''=>CX outer H s E e' s'') s'
theorem zba {sc:Scope} {n:Nat} {x:Str} (h:sc.names.lookup x=some .cell):∃c,(cellsFrom n sc.names []).lookup x=some c:=by
 have q:=PySem.W.cellsFrom_some sc.names n [] (.inl h)
 exact Option.isSome_iff_exists.mp q
theorem ze5 {CX:CXT} {P:Program} {w:World} {K:Frag} {mg:Str->Option Value} {base:Heap} {N ps:List Str} {qual:Str} {scope:Scope} {f:Addr} {cd:Value} {A:Around} {outer:List Env} {s s1:Shared} {H:Hp} {E:XK} {us:List Value} {vs:List V}
  (S:FnScope N ps scope) (hd:A.handled=none) (e0:Env0 P w K mg base A outer s H) (hl:vs.length=ps.length) (r:Vals vs us)
  (x:InCallC s s.heap.objs.size (bindL (envOfC qual scope s.heap.objs.size f cd).kindOf (ps.zip us) fun _=>none) (cellsFrom (s.heap.objs.size+1) scope.names []) (bindC (envOfC qual scope s.heap.objs.size f cd).kindOf (ps.zip us) fun _=>none) s1) :
  Inv (zh3 CX P w K mg base N qual scope f cd A outer s H E) [] (start N vs) H s1:=by
 have hpl:ps.length<=N.length:=by have:=congrArg List.length S.pre;rw [List.length_take] at this;omega
 obtain ⟨h1,tk,rfl,hk⟩:=x.done
 have noA:∀b:Addr,b∉(zh3 CX P w K mg base N qual scope f cd A outer s H E).ex:=fun b z=>absurd (show b∈([]:List Addr) from z) (by simp)
 refine ⟨⟨e0.mod,S.kind,rfl,rfl,Nat.le_refl _,fun y z c h1 h2=>?_,fun y hy=>?_,fun y c _ h=>?_,fun _=>hd,Around.frames_deeper e0.frames,.inr ⟨rfl,rfl⟩,fun b z=>absurd z (noA b),e0.bs,e0.bsz,fun b _ _=>noA b,fun b z=>absurd z (noA b),e0.funs,e0.frf⟩,
  rfl,e0.bare,Un.kept hk,⟨_,x.toInCall.ns,fun i y v h1 h2 h3=>?_⟩,fun y c h=>⟨_,x.cell y c h⟩,e0.hok.fresh (Nat.le_refl _),fun y c h=>?_,fun p hp=>absurd (show p∈([]:List (Addr×Obj)) from hp) (by simp),e0.hok.kept hk,?_⟩
 . exact name_of_addr x.apart (PySem.mem_of_lookup h1) (PySem.mem_of_lookup h2)
 . have hy:scope.names.lookup y=some .cell\/scope.names.lookup y=some .free:=hy
   rcases hy with hy | hy
   . exact zba hy
   . exact absurd rfl (S.nofree _ (PySem.mem_of_lookup hy))
 . exact Nat.le_of_lt (x.above y c (PySem.mem_of_lookup h))
 . have hi:i<vs.length:=by
    unfold start at h2
    by_cases hi:i<vs.length
    . exact hi
    . rw [List.getElem?_append_right (by simpa using hi)] at h2
      rw [List.getElem?_replicate] at h2
      split at h2<;>cases h2
   have ha:vs[i]?=some v:=by
    unfold start at h2
    rw [List.getElem?_append_left (by simpa using hi),List.getElem?_map] at h2
    cases e:vs[i]? with
    | none=>rw [e] at h2;cases h2
    | some a=>rw [e] at h2;cases h2;rfl
   obtain ⟨u,hu,rv⟩:=r.get ha
   have hp:ps[i]?=some y:=by
    rw [<-S.pre,List.getElem?_take_of_lt (by omega)];exact h1
   have ndP:ps.Nodup:=by rw [<-S.pre];exact S.nd.sublist (List.take_sublist _ _)
   refine ⟨u,rv,?_⟩
   rcases S.par y (List.mem_of_getElem? hp) with k | k
   . exact .inl ⟨k,z92 ndP hp hu k⟩
   . obtain ⟨c,e⟩:=zba (n:=s.heap.objs.size+1) k
     refine .inr ⟨.inl k,c,e,?_⟩
     have q:=x.cell y c e
     rw [z93 ndP hp hu (by show scope.names.lookup y≠_;rw [k];decide)] at q
     exact q
 . exact e0.hok.fresh (Nat.le_of_lt (x.above y c (PySem.mem_of_lookup h)))
 . unfold start
   show _=N.length
   rw [List.length_append,List.length_map,List.length_replicate]
   omega
theorem zoe {CX:CXT} {P:Program} {w:World} {K:Frag} {mg:Str->Option Value} {base:Heap} {k:Nat} {f:Addr} {name qual:Str} {params:Arguments} {body:List Stmt} {scope:Scope} {dV kV doc pm cdv ct oc:Value} {an od:Option Addr}
  {osl:Array (Option Value)} {N ps:List Str} {sp:Sp} (lk:K.lookup f=some ⟨oc,od,.func (PySem.W.fnOf name qual params body scope dV kV doc pm an cdv ct),osl⟩) (hcd:codeIn K cdv qual=true) (S:FnScope N ps scope)
  (len:∀vs H Q E,sp vs H Q E->vs.length=ps.length)
  (hbody:∀(A:Around) (outer:List Env) (s:Shared) (H:Hp) (vs:List V) (Q:VK) (E:XK),Room k (A.deeper (envOfC qual scope s.heap.objs.size f cdv))->sp vs H Q E ->
   ∃t,PSs (zh3 CX P w K mg base N qual scope f cdv A outer s H E) body t/\t { nx:=fun _ H'=>Q .non H',rt:=Q } (start N vs) H) :
  FnOk P w K mg base CX (k+1) f (PySem.W.fnOf name qual params body scope dV kV doc pm an cdv ct) ps sp:=by
 refine ⟨len,fun A outer s H args us vs Q E hr e0 hb r hsp=>?_⟩
 have hl:=len _ _ _ _ hsp
 have KX:K.In s.heap:=e0.mod.kin.keeps fun b o e=>(e0.bs b o e).1
 have lim:s.heap.NoLimit:=e0.mod.nolimit.keeps fun b o e=>(e0.bs b o e).1
 have hkind:∀y∈ps.zip us,scope.names.lookup y.1=some .local\/(scope.names.lookup y.1=some .cell/\((cellsFrom (s.heap.objs.size+1) scope.names []).lookup y.1).isSome=true):=fun ⟨n,v⟩ hy=>by
  rcases S.par n (List.of_mem_zip hy).1 with q | q
  . exact .inl q
  . exact .inr ⟨q,PySem.W.cellsFrom_some _ _ _ (.inl q)⟩
 refine codeAny_call_function hr.depth (KX _ _ lk) rfl S.co S.gen rfl (PySem.W.codeRec_of KX hcd) (hb _ _ _ _ ?_)
 refine wpAny_newFunctionEnv_cells S.kind hkind fun env he s1 x=>?_
 subst he
 refine ⟨lim.keeps x.toInCall.keep,codeAny_func ?_⟩
 obtain ⟨t,ht,hq⟩:=hbody A outer s H vs Q E (hr.deeper _) hsp
 have I:Inv (zh3 CX P w K mg base N qual scope f cdv A outer s H E) [] (start N vs) H s1:=ze5 S hr.hd e0 hl r x
 refine wpAny_mono (ht [] s1 (start N vs) H _ I hq) (fun fl s' hs=>?_) fun e s' hs=>hs
 have fin:∀{σ':St} {H':Hp} {v:V} {u:Value},Inv (zh3 CX P w K mg base N qual scope f cdv A outer s H E) [] σ' H' s'->RelV v u->Q v H'->CE outer P w H s Q u s':=
  fun {σ' H' v u} J rv q=>⟨v,H',J.os,J.bare,J.base,J.hok,rv,q⟩
 cases fl with
 | ret u=>
  obtain ⟨v,σ',H',J,rv,q⟩:=hs
  exact fin J rv q
 | next=>
  obtain ⟨σ',H',J,q⟩:=hs
  exact fin (v:=V.non) (u:=Value.none) J rfl q
 | brk=>
  obtain ⟨_,_,_,q⟩:=hs
  exact False.elim q
 | cont=>
  obtain ⟨_,_,_,q⟩:=hs
  exact False.elim q
section
variable {X:Cx} {x:Str} {p pos:Pos} {e:Expr} {es:List Expr} {t:TA} {id T:String} {r:List V->Hp->VK->Prop}
noncomputable def tCB (r:List V->Hp->VK->Prop) (t:TA):TE:=fun σ H Q=>t σ H fun vs H1=>r vs H1 Q
theorem z7y (hc:CallR X (.builtin id) r) (hg:Gl X x) (hm:X.mg x=none) (hv:bootBuiltins x=some (.builtin id)) (ha:PA X (e::es) t) (hn:x≠"__name__":=by decide) (hdb:(x==("__debug__":Str))=false:=by decide)
  (he:starEach (e::es) X.env=(false,eval e X.env)::starEach es X.env:=by rfl) (hpl:(backTo pos (starEach es X.env)).any (·.1)=false:=by rfl):PE X (.Call (.Name x p) (e::es) [] pos) (tCB r t):=by
 intro pins s σ H Q I h
 refine wpAny_Call_Name_kw (z8y I hg hm hv ?_ hn hdb)
 exact PyProof.Rows.callWith_builtin1 (thn (ha pos pins s σ H _ I h) fun us s1 ⟨vs,H1,I1,r1,q1⟩=>hc pins s1 σ H1 vs us Q I1 r1 q1) he hpl
theorem ze6 (hc:CallR X (.type T) r) (hg:Gl X x) (hm:X.mg x=none) (hv:bootBuiltins x=some (.type T)) (ha:PA X (e::es) t) (hn:x≠"__name__":=by decide) (hdb:(x==("__debug__":Str))=false:=by decide)
  (he:starEach (e::es) X.env=(false,eval e X.env)::starEach es X.env:=by rfl) (hpl:(backTo pos (starEach es X.env)).any (·.1)=false:=by rfl):PE X (.Call (.Name x p) (e::es) [] pos) (tCB r t):=by
 intro pins s σ H Q I h
 refine wpAny_Call_Name_kw (z8y I hg hm hv ?_ hn hdb)
 exact PyProof.Rows.callWith_type1 (thn (ha pos pins s σ H _ I h) fun us s1 ⟨vs,H1,I1,r1,q1⟩=>hc pins s1 σ H1 vs us Q I1 r1 q1) he hpl
end
end L2
namespace HT
open PySem PyProof.Rows
def lexLt:List Int->List Int->Bool
 | [],[]=>false
 | [],_::_=>true
 | _::_,[]=>false
 | x::xs,y::ys=>if x=y then lexLt xs ys else decide (x<y)
theorem lexLt_cons (x y:Int) (xs ys:List Int):lexLt (x::xs) (y::ys)=if x=y then lexLt xs ys else decide (x<y):=rfl
theorem z7z:lexLt [] []=false:=rfl
theorem z6z (y:Int) (ys:List Int):lexLt [] (y::ys)=true:=rfl
theorem z70 (x:Int) (xs:List Int):lexLt (x::xs) []=false:=rfl
theorem zbb (A:Around) (s:Shared) (a:Int) (t:Tok) (c:Int) (u:Tok):∃e,SeqAt.EqAt A s (.int a t) (.int c u) e/\(e=true↔a=c):=
 ⟨(a==c),SeqAt.EqAt.int_int a t c u,by simp⟩
theorem rcLt_int (A:Around) (s:Shared) (a:Int) (t:Tok) (c:Int) (u:Tok) (prog:Program) (w:World) (E:Value->Shared->Prop) (Q:Value->Shared->Prop) (h:Q (.bool (decide (a<c))) s) :
  wpAny (model prog w) A (richCompare .Lt (.int a t) (.int c u)) Q E s:=
 (PyProof.Rows.lt_int h:wpAny (model prog w) A (compareOp .Lt (.int a t) (.int c u)) Q E s)
section
open PySem.SeqAt
open PySem.AutoSeq1 (wpAny_loadPart')
open PySem.MeetsSeq PySem.MeetsSeq2 PySem.MeetsSeq3
theorem z80 (l b:Addr) (items items2:Array Value) (n n2:Nat) (dd dd2:Option Addr) (sl sl2:Array (Option Value)) (ns ms:List Int) (hi:IntsAre items.toList ns) (hj:IntsAre items2.toList ms) :
  Meets (Builtin.«tuple.__lt__» ⟨[.ref l,.ref b],[]⟩)
   (fun _ R s=>s.heap.get? l=some { cls:=.type "tuple",dict:=dd,data:=.seq items n,slots:=sl }/\s.heap.get? b=some { cls:=.type "tuple",dict:=dd2,data:=.seq items2 n2,slots:=sl2 } /\
    R (.ok (.ret (.bool (lexLt ns ms)))) s):=
 .of_wp fun prog w A R s h=>by
  obtain ⟨hp,g,d,tk,os⟩:=s;obtain ⟨hl,hb,h⟩:=h
  have f2:=AutoSeq1.sub_tuple_tuple
  have z1:items.size=ns.length:=by rw [<-hi.length];simp
  have z2:items2.size=ms.length:=by rw [<-hj.length];simp
  wp_walk using wpAny_loadPart' hl,wpAny_loadPart' hb,wpAny_forIn_list _ (fun rest b s'=>b.1=none/\s'=⟨hp,g,d,tk,os⟩/\∃(vs ws:List Value) (ns' ms':List Int),rest=vs.zip ws /\
   IntsAre vs ns'/\IntsAre ws ms'/\ns'.length+items2.size=ms'.length+items.size/\R (.ok (.ret (.bool (lexLt ns' ms')))) ⟨hp,g,d,tk,os⟩) _
  case turn=>
   rintro ⟨y,x⟩ rest b s' ⟨hb',rfl,vs,ws,ns',ms',hz,hvi,hwi,hlen,hR⟩
   cases hvi with
   | nil=>rw [List.zip_nil_left] at hz;cases hz
   | cons a t hvi'=>
    cases hwi with
    | nil=>rw [List.zip_nil_right] at hz;cases hz
    | cons c u hwi'=>
     rw [List.zip_cons_cons] at hz
     injection hz with hyx hrest
     injection hyx with hy hx
     subst hy hx
     rw [lexLt_cons] at hR
     simp only [List.length_cons] at hlen
     obtain ⟨e,he,hiff⟩:=zbb A.in1 ⟨hp,g,d,tk,os⟩ a t c u
     refine wpAny_bind (he prog w _ _ ?_)
     cases e with
     | true=>
      rw [if_pos (hiff.mp rfl)] at hR
      wp_walk
      exact ⟨rfl,rfl,_,_,_,_,hrest,hvi',hwi',by omega,hR⟩
     | false=>
      rw [if_neg (fun q=>absurd (hiff.mpr q) Bool.false_ne_true)] at hR
      have hri:=rcLt_int A.in1 ⟨hp,g,d,tk,os⟩ a t c u prog w
      wp_walk using hri
      exact ⟨_,rfl,by simpa using hR⟩
  case fin=>
   rintro ⟨b1,b2⟩ s' ⟨hb',rfl,vs,ws,ns',ms',hz,hvi,hwi,hlen,hR⟩
   simp only at hb'
   subst hb'
   have hv:lexLt ns' ms'=decide (items.size<items2.size):=by
    cases hvi with
    | nil=>
     cases hwi with
     | nil=>
      simp only [List.length_nil] at hlen
      rw [z7z]
      exact (decide_eq_false (by omega)).symm
     | cons c u hw=>
      simp only [List.length_nil,List.length_cons] at hlen
      rw [z6z]
      exact (decide_eq_true (by omega)).symm
    | cons a t hv=>
     cases hwi with
     | nil=>
      simp only [List.length_nil,List.length_cons] at hlen
      rw [z70]
      exact (decide_eq_false (by omega)).symm
     | cons c u hw=>
      rw [List.zip_cons_cons] at hz
      cases hz
   rw [hv] at hR
   wp_walk
   exact ⟨_,rfl,by simpa [Builtin.Tuple.tupleCompareSizes] using hR⟩
  case h=>
   exact ⟨rfl,rfl,items.toList,items2.toList,ns,ms,rfl,hi,hj,by omega,h⟩
end
section
variable {prog:Program} {w:World} {A:Around} {E:Value->Shared->Prop} {s:Shared}
theorem lt_tupInts {l b:Addr} {items items2:Array Value} {ns ms:List Int} {Q:Value->Shared->Prop} (hl:IsTup s.heap l items) (hb:IsTup s.heap b items2) (hi:IntsAre items.toList ns) (hj:IntsAre items2.toList ms)
  (hu:A.units<cLine) (h:Q (.bool (lexLt ns ms)) s):wpAny (model prog w) A (compareOp .Lt (.ref l) (.ref b)) Q E s:=by
 obtain ⟨⟨cls,dd,data,sl⟩,ho,hc,n,hd⟩:=id hl
 obtain ⟨⟨cls2,dd2,data2,sl2⟩,ho2,hc2,n2,hd2⟩:=id hb
 simp only at hc hd hc2 hd2
 subst hc hd hc2 hd2
 exact richCompare_meets_room (op:=.Lt) ⟨_,ho,rfl⟩ ⟨_,ho2,rfl⟩ PySem.F.slot_tuple_lt PySem.F.entry_tuple_lt (PySem.F.args_tuple_lt_2 _ _) (z80 l b items items2 n n2 dd dd2 sl sl2 ns ms hi hj)
  ⟨ho,ho2,show Value.bool (lexLt ns ms)≠Value.notImplemented/\Q (.bool (lexLt ns ms)) s from ⟨(fun x=>nomatch x),h⟩⟩ hu
def sIx (n d:Nat):Option Int->Nat
 | none=>d
 | some v=>if v<0 then (v+(n:Int)).toNat else min v.toNat n
end
end HT
namespace L2
open PySem PySem.Spec PyProof.Rows
abbrev TO:=St->Hp->(Option Int->Hp->Prop)->Prop
def PO (X:Cx) (e:Option Expr) (t:TO):Prop:=
 ∀(pins:List (Addr×Obj)) (s:Shared) (σ:St) (H:Hp) (Q:Option Int->Hp->Prop),Inv X pins σ H s->t σ H Q ->
  wpAny (model X.prog X.w) X.A (evalPart e X.env) (fun u s'=>∃o H',Inv X pins σ H' s'/\IsPart u o/\Q o H') X.xe s
noncomputable def ztm (t:TE):TO:=fun σ H Q=>t σ H fun x H1=>∃i,x=.int i/\Q (some i) H1
theorem z2x {ns:List Int}:∀{us:List Value},Vals (ns.map V.int) us->IntsAre us ns:=by
 induction ns with
 | nil=>intro us r;rw [List.map_nil] at r;cases r;exact .nil
 | cons n ns ih=>
  intro us r
  rw [List.map_cons] at r
  cases r with
  | cons r1 r2=>
   obtain ⟨t,e⟩:=r1
   subst e
   exact .cons n t (ih r2)
section
variable {X:Cx} {e:Expr} {te:TE} {lo hi:Option Expr} {tl th:TO} {pos p2:Pos}
theorem zkt (h:PE X e te):PO X (some e) (ztm te):=by
 intro pins s σ H Q I hw
 rw [evalPart_some]
 refine thn (h pins s σ H _ I hw) fun u s1 ⟨x,H1,I1,r1,q1⟩=>?_
 obtain ⟨i,rfl,q⟩:=q1
 obtain ⟨t,rfl⟩:=r1
 exact ⟨some i,H1,I1,.int i t,q⟩
def SlR (X:Cx) (r:V->Option Int->Option Int->Hp->VK->Prop):Prop:=
 ∀(pins:List (Addr×Obj)) (s:Shared) (σ:St) (H:Hp) (x:V) (v vl vu:Value) (lo hi:Option Int) (sl:Addr) (Q:VK),Inv X pins σ H s->RelV x v->s.heap.IsSliceOf sl vl vu .none->IsPart vl lo->IsPart vu hi->r x lo hi H Q ->
  ∃T id,typeLookup (.type T) "__getitem__"=pure (some (.builtin id))/\s.TypeIs v T/\wpAny (model X.prog X.w) X.A (getItem v (.ref sl)) (EP X pins σ Q) X.xe s
noncomputable def tSl (r:V->Option Int->Option Int->Hp->VK->Prop) (te:TE) (tl th:TO):TE:=fun σ H Q=>te σ H fun x H1=>tl σ H1 fun l H2=>th σ H2 fun u H3=>r x l u H3 Q
theorem zhf {r:V->Option Int->Option Int->Hp->VK->Prop} (hr:SlR X r) (he:PE X e te) (hl:PO X lo tl) (hu:PO X hi th):PE X (.Subscript e (.Slice lo hi none p2) pos) (tSl r te tl th):=by
 intro pins s σ H Q I h
 refine Subscript_ (thn (he pins s σ H _ I h) fun v s1 ⟨x,H1,I1,r1,q1⟩=>?_)
 refine wpAny_Slice (thn (hl pins s1 σ H1 _ I1 q1) fun vl s2 ⟨l,H2,I2,pl,q2⟩=>thn (hu pins s2 σ H2 _ I2 q2) fun vu s3 ⟨u,H3,I3,pu,q3⟩=>?_)
 rw [evalPart_none]
 refine wpAny_pure ?_
 have I4:Inv X pins σ H3 { s3 with heap:=s3.heap.push { cls:=.type "slice",data:=.fields #[vl,vu,.none] } }:=I3.kept (t':=s3.toks) fun b ob q=>Heap.get?_push_of_some _ q
 obtain ⟨T,id,hT,ht,hg⟩:=hr pins { s3 with heap:=s3.heap.push { cls:=.type "slice",data:=.fields #[vl,vu,.none] } } σ H3 x v vl vu l u s3.heap.objs.size Q I4 r1 (Heap.IsSliceOf.new ..) pl pu q3
 show wpAny (model X.prog X.w) X.A (subscriptTail e (.Slice lo hi none p2) v (.ref s3.heap.objs.size)) (EP X pins σ Q) X.xe { s3 with heap:=s3.heap.push { cls:=.type "slice",data:=.fields #[vl,vu,.none] } }
 exact tail_any (ops:=[.ref s3.heap.objs.size,v]) ht hT hg (by with_unfolding_all rfl)
noncomputable def znh (xs:List V) (lo hi:Option Int):List V:=(xs.drop (HT.sIx xs.length 0 lo)).take (HT.sIx xs.length xs.length hi - HT.sIx xs.length 0 lo)
theorem zad (xs:List V) (lo hi:Option Int):(znh xs lo hi).length<=xs.length:=by
 unfold znh
 rw [List.length_take,List.length_drop]
 omega
end
noncomputable def ixN (n:Nat) (i:Int):Option Nat:=if 0<=i then (if i<n then some i.toNat else none) else if -(n:Int)<=i then some (i+n).toNat else none
noncomputable def atI {α:Type} (xs:List α) (i:Int):Option α:=(ixN xs.length i).bind fun j=>xs[j]?
theorem zku {n:Nat} {i:Int} {j:Nat} (h:ixN n i=some j):seqIndex? i n=some j/\j<n/\-(n:Int)<=i/\i<n:=by
 unfold ixN at h
 by_cases h0:0<=i
 . rw [if_pos h0] at h
   by_cases h1:i<n
   . rw [if_pos h1] at h
     have e:i.toNat=j:=Option.some.inj h
     exact ⟨by rw [seqIndex_of h0 h1,e],by omega,by omega,h1⟩
   . rw [if_neg h1] at h;cases h
 . rw [if_neg h0] at h
   by_cases h1:-(n:Int)<=i
   . rw [if_pos h1] at h
     have e:(i+n).toNat=j:=Option.some.inj h
     exact ⟨by rw [seqIndex_neg (by omega) h1,e],by omega,h1,by omega⟩
   . rw [if_neg h1] at h;cases h
theorem zae {α:Type} {xs:List α} {i:Int} {v:α} (h:atI xs i=some v):∃j,seqIndex? i xs.length=some j/\xs[j]?=some v/\j<xs.length/\-(xs.length:Int)<=i/\i<xs.length:=by
 unfold atI at h
 cases e:ixN xs.length i with
 | none=>rw [e] at h;cases h
 | some j=>
  rw [e] at h
  obtain ⟨h1,h2,h3,h4⟩:=zku e
  exact ⟨j,h1,h,h2,h3,h4⟩
theorem z66 {α:Type} {xs:List α} {j:Nat} {v:α} (h:xs[j]?=some v):atI xs (j:Int)=some v:=by
 have hj:j<xs.length:=(List.getElem?_eq_some_iff.mp h).1
 have e:ixN xs.length (j:Int)=some j:=by
  unfold ixN
  rw [if_pos (by omega),if_pos (by omega)];simp
 unfold atI;rw [e];exact h
def ze7 (b:Expr):Prop:=∀o i,subscripted b false o i=operate [o,i] (getItem o i)
def IxR (X:Cx) (r:R2):Prop:=
 ∀(value slice:Expr) (pins:List (Addr×Obj)) (s:Shared) (σ:St) (H:Hp) (x y:V) (v u:Value) (Q:VK),Inv X pins σ H s->RelV x v->RelV y u->r x y H Q ->
  subscripted slice false v u=operate [v,u] (getItem v u)->wpAny (model X.prog X.w) X.A (subscriptTail value slice v u) (EP X pins σ Q) X.xe s
def MtR (X:Cx) (id:String) (r:V->List V->Hp->VK->Prop):Prop:=
 ∀(pins:List (Addr×Obj)) (s:Shared) (σ:St) (H:Hp) (x:V) (xs:List V) (v:Value) (us:List Value) (Q:VK),Inv X pins σ H s->RelV x v->Vals xs us->r x xs H Q ->
  wpAny (model X.prog X.w) X.A (call (.builtin id) (v::us)) (EP X pins σ Q) X.xe s
section
variable {X:Cx} {a b:Expr} {ta tb:TE} {pos:Pos}
theorem IxR.or {r r':R2} (h:IxR X r) (h':IxR X r'):IxR X (fun x y H Q=>r x y H Q\/r' x y H Q):=by
 intro value slice pins s σ H x y v u Q I rx ry q hs
 rcases q with q | q
 . exact h value slice pins s σ H x y v u Q I rx ry q hs
 . exact h' value slice pins s σ H x y v u Q I rx ry q hs
theorem ztn {r:R2} (hr:IxR X r) (ha:PE X a ta) (hb:PE X b tb) (hs:ze7 b):PE X (.Subscript a b pos) (tOp r ta tb):=by
 intro pins s σ H Q I h
 exact Subscript_ (zti ha hb I h fun v u s2 x y H2 I2 rx ry q=>hr a b pins s2 σ H2 x y v u Q I2 rx ry q (hs _ _))
noncomputable def zwe (K:Frag):R2:=fun x y H Q=>∃p xs i v,x=.ref p/\y=.int i/\SqL K H p xs/\atI xs i=some v/\Q v H
noncomputable def zwf (K:Frag):R2:=fun x y H Q=>∃p xs i v,x=.ref p/\y=.int i/\SqT K H p xs/\atI xs i=some v/\Q v H
noncomputable def zwg:R2:=fun x y H Q=>∃z i c,x=.str z/\y=.int i/\z.length<=sizeLine/\atI z.cps.toList i=some c/\Q (.str ⟨#[c]⟩) H
theorem ix_list:IxR X (zwe X.K):=by
 intro value slice pins s σ H x y v u Q I rx ry h hs
 obtain ⟨p,xs,i,z,rfl,rfl,hq,he,q⟩:=h
 cases rx
 obtain ⟨t,rfl⟩:=ry
 obtain ⟨its,r,pl,hz⟩:=I.list hq
 obtain ⟨j,h1,h2,h3,h4,h5⟩:=zae he
 obtain ⟨w,ew,rw'⟩:=r.get h2
 have hl:=r.length
 have hn:=z77
 have fin:EP X pins σ Q w s:=⟨z,H,I,rw',q⟩
 by_cases h0:0<=i
 . have hj:i.toNat=j:=by
    rw [seqIndex_of h0 h5] at h1
    exact Option.some.inj h1
   exact item_listR pl.isList h0 (by omega) (by rw [hj];simpa using ew) fin hs
 . have hj:(i+(its.toArray.size:Int)).toNat=j:=by
    rw [seqIndex_neg (by omega) h4] at h1
    rw [List.size_toArray,<-hl]
    exact Option.some.inj h1
   exact subscriptTail_builtinR (x:=w) pl.isList.typeIs slot_list_getitem.lookup
    (wpAny_getItem_list_neg (Q:=fun r s'=>r=w/\EP X pins σ Q r s') pl.isList (by omega) (by rw [List.size_toArray]<;>omega) (by omega) (by rw [hj];simpa using ew) ⟨rfl,fin⟩) hs
theorem ix_tup:IxR X (zwf X.K):=by
 intro value slice pins s σ H x y v u Q I rx ry h hs
 obtain ⟨p,xs,i,z,rfl,rfl,hq,he,q⟩:=h
 cases rx
 obtain ⟨t,rfl⟩:=ry
 obtain ⟨its,r,pl,hz⟩:=I.tuple hq
 obtain ⟨j,h1,h2,h3,h4,h5⟩:=zae he
 obtain ⟨w,ew,rw'⟩:=r.get h2
 have hl:=r.length
 have hn:=z77
 have fin:EP X pins σ Q w s:=⟨z,H,I,rw',q⟩
 exact subscriptTail_builtinR (x:=w) pl.typeIs slot_tuple_getitem.lookup
  (getItem_tuple (j:=j) (Q:=fun r s'=>r=w/\EP X pins σ Q r s') pl (by omega) (by omega) (by rw [List.size_toArray,<-hl];exact h1) (by simpa using ew) ⟨rfl,fin⟩) hs
theorem zof:IxR X zwg:=by
 intro value slice pins s σ H x y v u Q I rx ry h hs
 obtain ⟨z,i,c,rfl,rfl,hz,he,q⟩:=h
 obtain ⟨t,rfl⟩:=rx
 obtain ⟨t',rfl⟩:=ry
 obtain ⟨j,h1,h2,h3,h4,h5⟩:=zae he
 have hl:z.cps.toList.length=z.length:=by simp [Str.length]
 rw [hl] at h1 h4 h5
 have hn:=z77
 exact tail_any (typeIs_str s z t) slot_str_getitem.lookup (getItem_str (c:=c) (by
  have e1:decide (i < -(2 ^ 63:Int))=false:=decide_eq_false (by omega)
  have e2:decide (i ≥ 2 ^ 63)=false:=decide_eq_false (by omega)
  rw [e1,e2,Bool.or_false]) (by rw [h1];simpa using h2) ⟨.str ⟨#[c]⟩,H,I.tok _,⟨_,rfl⟩,q⟩) hs
noncomputable def rIx (K:Frag):R2:=fun x y H Q=>zwe K x y H Q\/zwf K x y H Q\/zwg x y H Q
theorem ix_seq:IxR X (rIx X.K):=ix_list.or (ix_tup.or zof)
theorem Inv.lst {pins:List (Addr×Obj)} {σ:St} {H:Hp} {s:Shared} {p:Addr} {xs:List V} (I:Inv X pins σ H s) (h:H p=some (.lst xs)) :
  ∃(its:List Value) (n:Nat),Vals xs its/\s.heap.get? p=some { cls:=.type "list",data:=.seq its.toArray n }/\xs.length<=sizeLine:=by
 obtain ⟨z,its,n,r,e⟩:=I.hok p _ h
 exact ⟨its,n,r,e,z⟩
theorem z94 (lo hi:Option Int) (n:Nat):(sliceBounds lo hi none n).1=((HT.sIx n 0 lo:Nat):Int)/\(sliceBounds lo hi none n).2.1=((HT.sIx n n hi:Nat):Int)/\(sliceBounds lo hi none n).2.2=1:=by
 refine ⟨?_,?_,rfl⟩
 . cases lo with
   | none=>simp [sliceBounds,HT.sIx]
   | some i=>
    simp only [sliceBounds,HT.sIx,Option.getD_none,show (1:Int) > 0 by decide,if_true]
    by_cases h:i<0
    . simp only [h,if_true]<;>omega
    . simp only [h,if_false]<;>omega
 . cases hi with
   | none=>simp [sliceBounds,HT.sIx]
   | some i=>
    simp only [sliceBounds,HT.sIx,Option.getD_none,show (1:Int) > 0 by decide,if_true]
    by_cases h:i<0
    . simp only [h,if_true]<;>omega
    . simp only [h,if_false]<;>omega
theorem z81 (its:List Value) (lo hi:Option Int):slicePick its.toArray lo hi none=((its.drop (HT.sIx its.length 0 lo)).take (HT.sIx its.length its.length hi - HT.sIx its.length 0 lo)).toArray:=by
 obtain ⟨h1,h2,h3⟩:=z94 lo hi its.toArray.size
 unfold slicePick
 rw [h1,h2,h3]
 simp only [sliceRange_one,pick_run,List.size_toArray]<;>rfl
def zwh (K:Frag):V->Option Int->Option Int->Hp->VK->Prop:=fun x lo hi H Q=>∃a xs,x=.ref a/\SqL K H a xs/\∀p,H p=none->Q (.ref p) (upd H p (.lst (znh xs lo hi)))
theorem zkv:SlR X (zwh X.K):=by
 intro pins s σ H x v vl vu lo hi sl Q I rx hs pl pu h
 obtain ⟨a,xs,rfl,hx,q⟩:=h
 cases rx
 obtain ⟨its,r,ht,hz⟩:=I.list hx
 have hlen:=r.length
 refine ⟨"list",_,slot_list_getitem.lookup,ht.isList.typeIs,?_⟩
 refine wpAny_getItem_list_slice ht.isList hs pl pu .none (by simp) ?_ (by rw [List.size_toArray]<;>omega)
 rw [z81,<-hlen]
 refine ⟨.ref s.heap.objs.size,_,I.laid (t':=s.toks) (o:=.lst (znh xs lo hi)) (fun b ob q=>Heap.get?_push_of_some _ q) (Nat.le_refl _) ?_,rfl,q _ (I.hok.fresh (Nat.le_refl _))⟩
 exact ⟨Nat.le_trans (zad xs lo hi) hz,_,0,(r.drop (HT.sIx xs.length 0 lo)).take (HT.sIx xs.length xs.length hi - HT.sIx xs.length 0 lo),Heap.get?_push_size _ rfl⟩
theorem call_len_seq:CallR X (.builtin "len") (fun xs H Q=>∃p ys,xs=[.ref p]/\(SqL X.K H p ys\/SqT X.K H p ys)/\Q (.int ys.length) H):=by
 intro pins s σ H xs us Q I r h
 obtain ⟨p,ys,rfl,hq,q⟩:=h
 obtain ⟨u,rfl,rx⟩:=z5w r
 cases rx
 have hn:=z77
 rcases hq with hq | hq
 . obtain ⟨its,r',pl,hz⟩:=I.list hq
   have hlen:=r'.length
   exact Calls.call_len_list pl.isList (by simp only [List.size_toArray]<;>omega) ⟨.int ys.length,H,I.tok _,⟨s.toks+1,by rw [List.size_toArray,hlen]⟩,q⟩
 . obtain ⟨its,r',pl,hz⟩:=I.tuple hq
   have hlen:=r'.length
   exact len_tuple pl (by simp only [List.size_toArray]<;>omega) ⟨.int ys.length,H,I.tok _,⟨s.toks+1,by rw [List.size_toArray,hlen]⟩,q⟩
theorem z95:CallR X (.builtin "len") (fun xs H Q=>∃z,xs=[.str z]/\z.length<=sizeLine/\Q (.int z.length) H):=by
 intro pins s σ H xs us Q I r h
 obtain ⟨z,rfl,hz,q⟩:=h
 obtain ⟨u,rfl,t,rfl⟩:=z5w r
 have hn:=z77
 exact len_str (by omega) ⟨.int z.length,H,I.tok _,⟨_,rfl⟩,q⟩
theorem CallR.or {f:Value} {r r':List V->Hp->VK->Prop} (h:CallR X f r) (h':CallR X f r'):CallR X f (fun xs H Q=>r xs H Q\/r' xs H Q):=by
 intro pins s σ H xs us Q I rs q
 rcases q with q | q
 . exact h pins s σ H xs us Q I rs q
 . exact h' pins s σ H xs us Q I rs q
theorem z96:CallR X (.type "list") (fun xs H Q=>∃p ys,xs=[.ref p]/\(SqL X.K H p ys\/SqT X.K H p ys)/\∀l,H l=none->Q (.ref l) (upd H l (.lst ys))):=by
 intro pins s σ H xs us Q I r h
 obtain ⟨p,ys,rfl,hq,q⟩:=h
 obtain ⟨u,rfl,rx⟩:=z5w r
 cases rx
 have fin:∀(its:List Value),Vals ys its->ys.length<=sizeLine->∀(h':Heap) (c':Nat),(∀b o',s.heap.get? b=some o'->h'.get? b=some o') ->
   h'.get? s.heap.objs.size=some { cls:=.type "list",dict:=none,data:=.seq its.toArray c',slots:=#[] }->EP X pins σ Q (.ref s.heap.objs.size) { s with heap:=h' }:=fun its r' hz h' c' kp e=>
  ⟨.ref s.heap.objs.size,_,I.laid (t':=s.toks) kp (Nat.le_refl _) (show ObjOk X.prog X.w _ h' _ (.lst ys) from ⟨hz,its,c',r',e⟩),rfl,q _ (I.hok.fresh (Nat.le_refl _))⟩
 rcases hq with hq | hq
 . obtain ⟨its,r',pl,hz⟩:=I.list hq
   have hlen:=r'.length
   obtain ⟨o,ho,hc,n,hd⟩:=pl.isList
   exact call_list_seq p (.inl rfl) ho hc hd (fun h' c' kp e=>fin its r' hz h' c' kp e) (by simp only [List.size_toArray]<;>omega)
 . obtain ⟨its,r',pl,hz⟩:=I.tuple hq
   have hlen:=r'.length
   obtain ⟨o,ho,hc,n,hd⟩:=pl
   exact call_list_seq p (.inr rfl) ho hc hd (fun h' c' kp e=>fin its r' hz h' c' kp e) (by simp only [List.size_toArray]<;>omega)
def tyV (K:Frag) (T:String) (x:V) (H:Hp):Prop:=match x with
 | .str _=>T="str"
 | .int _=>T="int"
 | .ref p=>(T="list"/\∃xs,SqL K H p xs)\/(T="tuple"/\∃o,K.lookup p=some o/\o.cls=.type "tuple"/\o.dict=none) \/
  (T="dict"/\((∃kvs,H p=some (.dK kvs))\/∃kvs,H p=some (.dT kvs)))\/(T="set"/\∃S n,H p=some (.set S n))
 | _=>False
theorem zog {pins:List (Addr×Obj)} {σ:St} {H:Hp} {s:Shared} {T:String} {x:V} {v:Value} (I:Inv X pins σ H s) (r:RelV x v) (ty:tyV X.K T x H) :
  s.TypeIs v T/\∀a,v=.ref a->∃ob,s.heap.get? a=some ob/\ob.dict=none:=by
 cases x with
 | str z=>
  obtain ⟨t,rfl⟩:=r
  cases (show T="str" from ty)
  exact ⟨typeIs_str s z t,fun _ e=>nomatch e⟩
 | int i=>
  obtain ⟨t,rfl⟩:=r
  cases (show T="int" from ty)
  exact ⟨typeIs_int s i t,fun _ e=>nomatch e⟩
 | ref p=>
  cases r
  rcases ty with ⟨rfl,xs,hq⟩ | ⟨rfl,o,hk,hc,hd⟩ | ⟨rfl,hk⟩ | ⟨rfl,S,n,hk⟩
  . obtain ⟨its,_,pl,_⟩:=I.list hq
    refine ⟨pl.isList.typeIs,fun a e=>?_⟩
    cases e
    obtain ⟨o,n,e,c,hd,_⟩:=pl
    exact ⟨o,e,hd⟩
  . refine ⟨⟨o,I.kIn p o hk,hc⟩,fun a e=>?_⟩
    cases e
    exact ⟨o,I.kIn _ o hk,hd⟩
  . have z:∃o,s.heap.get? p=some o/\o.ExactDict:=by
     rcases hk with ⟨kvs,hk⟩ | ⟨kvs,hk⟩
     . obtain ⟨_,_,_,_,o,_,_,e,ex,_⟩:=I.hok p _ hk
       exact ⟨o,e,ex⟩
     . obtain ⟨_,_,_,_,o,_,_,e,ex,_⟩:=I.hok p _ hk
       exact ⟨o,e,ex⟩
    obtain ⟨o,e,ex⟩:=z
    refine ⟨⟨o,e,ex.1⟩,fun a e2=>?_⟩
    cases e2
    exact ⟨o,e,ex.2.1⟩
  . obtain ⟨o,_,_,_,e,ex,_⟩:=I.hok p _ hk
    refine ⟨⟨o,e,ex.1⟩,fun a e2=>?_⟩
    cases e2
    exact ⟨o,e,ex.2.1⟩
 | _=>exact False.elim ty
noncomputable def tBM (K:Frag) (T:String) (r:V->List V->Hp->VK->Prop) (to:TE) (t:TA):TE:=fun σ H Q=>to σ H fun x H1=>tyV K T x H1/\t σ H1 fun xs H2=>r x xs H2 Q
variable {o e:Expr} {es:List Expr} {to:TE} {t:TA} {name:Str} {apos cpos:Pos} {T id:String} {r:V->List V->Hp->VK->Prop}
theorem zto (pa:PlainAttrs T) (slot:Slot T name id) (hty:typeOf (.builtin id)=pure (.type "method_descriptor")) (hm:MtR X id r) (ho:PE X o to) (ha:PA X (e::es) t)
  (hbase:attributeBase o name X.env (eval o X.env)=eval o X.env:=by rfl)
  (hfew:((backTo cpos (starEach (e::es) X.env)).all (fun x=>!x.1)&&(backToKw cpos (keywordEach [] X.env)).all (fun x=>x.1.isSome)
   && decide ((e::es).length+([]:List Keyword).length+(if ([]:List Keyword).isEmpty then 0 else 1)<30))=true:=by rfl)
  (hline:(apos.endLine==cpos.line)=true:=by rfl) (hs:starEach (e::es) X.env=(false,eval e X.env)::starEach es X.env:=by rfl) (hplain:(backTo cpos (starEach es X.env)).any (·.1)=false:=by rfl) :
  PE X (.Call (.Attribute o name apos) (e::es) [] cpos) (tBM X.K T r to t):=by
 intro pins s σ H Q I h
 refine wpAny_Call_method_late hbase hfew hline rfl (thn (ho pins s σ H _ I h) fun v s1 ⟨x,H1,I1,r1,ty,q1⟩=>?_)
 obtain ⟨h1,h2⟩:=zog I1 r1 ty
 refine ⟨T,id,pa,slot,hty,h1,h2,?_⟩
 have hA:=ha cpos pins s1 σ H1 _ I1 q1
 rw [hs] at hA ⊢
 refine Calls.callWith_builtin (by show (false||(backTo cpos (starEach es X.env)).any (·.1))=false;rw [hplain]<;>rfl) (Calls.evalArgs_plain ?_)
 exact thn hA fun us s2 ⟨vs,H2,I2,r2,q2⟩=>hm pins s2 σ H2 x vs v us Q I2 r1 r2 q2
end
def MtM (X:Cx) (id:String) (r:V->List V->Hp->VK->Prop):Prop:=
 ∀(pins:List (Addr×Obj)) (s:Shared) (σ:St) (H:Hp) (x:V) (xs:List V) (v:Value) (us:List Value) (Q:VK),Inv X pins σ H s->RelV x v->Vals xs us->r x xs H Q ->
  wpAny (model X.prog X.w) X.A (call (.builtin id) (v::us)) (EP X pins σ Q) X.xe s
theorem Vals.one:∀{x:V} {us:List Value},Vals [x] us->∃u,us=[u]/\RelV x u
 | _,_,.cons r .nil=>⟨_,rfl,r⟩
section
variable {X:Cx} {pins:List (Addr×Obj)} {σ:St} {H:Hp} {s:Shared} {l b:Addr} {xs ys zs:List V}
theorem Inv.lset {its its':List Value} {n:Nat} {f:Array Value->Array Value} {t':Nat} (I:Inv X pins σ H s) (hH:H l=some (.lst xs))
  (e:s.heap.get? l=some { cls:=.type "list",data:=.seq its.toArray n }) (hf:f its.toArray=its'.toArray) (hv:Vals ys its') (hz:ys.length<=sizeLine) :
  Inv X pins σ (upd H l (.lst ys)) { s with heap:=s.heap.update l (Obj.mapSeq f),toks:=t' }:=by
 have q:=PySem.IsL.update e f
 rw [hf] at q
 refine I.write (x:=l) (e:=l) (by rw [hH];exact trivial) (.inl rfl) (fun b' u hb hu=>(Heap.get?_update_other s.heap (Obj.mapSeq f) (Ne.symm hb)).trans hu) ⟨_,q⟩ ?_
 exact ⟨hz,its',_,hv,q⟩
theorem Inv.lnew {its:List Value} {t':Nat} (I:Inv X pins σ H s) (hv:Vals ys its) (hz:ys.length<=sizeLine) :
  Inv X pins σ (upd H s.heap.objs.size (.lst ys)) { s with heap:=s.heap.push { cls:=.type "list",data:=.seq its.toArray },toks:=t' }:=
 I.laid (fun _ _ q=>Heap.get?_push_of_some _ q) (Nat.le_refl _) ⟨hz,its,0,hv,Heap.get?_push_size _ rfl⟩
theorem Inv.fresh (I:Inv X pins σ H s):H s.heap.objs.size=none:=I.hok.fresh (Nat.le_refl _)
theorem Inv.lstM (I:Inv X pins σ H s) (hH:H l=some (.lst xs)):xs.length<=sizeLine/\∃(its:List Value) (n:Nat),Vals xs its/\xs.length=its.length/\s.heap.get? l=some { cls:=.type "list",data:=.seq its.toArray n }:=by
 obtain ⟨z,its,n,r,e⟩:=I.hok l _ hH
 exact ⟨z,its,n,r,r.length,e⟩
theorem zhg {n:Nat} (h:n<=sizeLine):Builtin.List.listTooLong n=false:=by
 unfold Builtin.List.listTooLong
 exact decide_eq_false (by omega)
end
section
variable {X:Cx}
def ze8:V->List V->Hp->VK->Prop:=fun x vs H Q=>∃l xs y,x=.ref l/\vs=[y]/\H l=some (.lst xs)/\xs.length<sizeLine/\Q .non (upd H l (.lst (xs++[y])))
theorem z24:MtM X "list.append" ze8:=by
 intro pins s σ H x vs v us Q I rx rv h
 obtain ⟨l,xs,y,rfl,rfl,hH,hz,q⟩:=h
 cases rx
 obtain ⟨u,rfl,ru⟩:=rv.one
 obtain ⟨z,its,n,r,hl,e⟩:=I.lstM hH
 refine call_meets F.slot_list_append ⟨_,e,rfl⟩ F.entry_list_append (F.args_list_append_2 _ _) (PySem.list_append l its.toArray n u (by rw [List.size_toArray];omega)) ⟨e,?_⟩
 refine ⟨.non,_,I.lset (its':=its++[u]) hH e (by simp) (r.append (.cons ru .nil)) ?_,rfl,q⟩
 rw [List.length_append,List.length_singleton]
 omega
def zkw:V->List V->Hp->VK->Prop:=fun x vs H Q=>∃l b xs zs,x=.ref l/\vs=[.ref b]/\H l=some (.lst xs)/\H b=some (.lst zs)/\xs.length+zs.length<=sizeLine/\Q .non (upd H l (.lst (xs++zs)))
theorem zoh:MtM X "list.extend" zkw:=by
 intro pins s σ H x vs v us Q I rx rv h
 obtain ⟨l,b,xs,zs,rfl,rfl,hH,hB,hz,q⟩:=h
 cases rx
 obtain ⟨u,rfl,ru⟩:=rv.one
 cases ru
 obtain ⟨z,its,n,r,hl,e⟩:=I.lstM hH
 obtain ⟨z2,its2,n2,r2,hl2,e2⟩:=I.lstM hB
 have hsz:its.toArray.size+its2.toArray.size<=sizeLine:=by rw [List.size_toArray,List.size_toArray];omega
 have hlong:¬(!its.toArray.isEmpty&&Builtin.List.listTooLong (its.toArray.size+its2.toArray.size))=true:=by
  rw [zhg hsz,Bool.and_false]
  exact Bool.false_ne_true
 refine call_meets F.slot_list_extend ⟨_,e,rfl⟩ F.entry_list_extend (F.args_list_extend_2 _ _)
  (AutoSeq1.list_extend_list_list_0 l its.toArray n b its2.toArray n2 hlong (by rw [List.size_toArray];omega) (by omega)) ⟨e,e2,?_⟩
 refine ⟨.non,_,I.lset (its':=its++its2) hH e (by simp) (r.append r2) ?_,rfl,q⟩
 rw [List.length_append]
 omega
noncomputable def zwi:R2:=fun x y H Q=>∃l b xs zs,x=.ref l/\y=.ref b/\H l=some (.lst xs)/\H b=some (.lst zs)/\xs.length+zs.length<=sizeLine/\∀p,H p=none->Q (.ref p) (upd H p (.lst (xs++zs)))
theorem zoi:OpR X (binaryOp .Add) zwi:=by
 intro pins s σ H x y v u Q I rx ry h
 obtain ⟨l,b,xs,zs,rfl,rfl,hH,hB,hz,q⟩:=h
 cases rx
 cases ry
 obtain ⟨z,its,n,r,hl,e⟩:=I.lstM hH
 obtain ⟨z2,its2,n2,r2,hl2,e2⟩:=I.lstM hB
 refine PySem.P.add_list e e2 ?_ (by rw [List.size_toArray,List.size_toArray];omega)
 have ea:its.toArray++its2.toArray=(its++its2).toArray:=by simp
 rw [ea]
 exact ⟨.ref _,_,I.lnew (t':=s.toks) (r.append r2) (by rw [List.length_append];omega),rfl,q _ I.fresh⟩
end
section
variable {κ:Type} [DecidableEq κ]
noncomputable def zbc (kvs:List (κ×V)) (k:κ):Option V:=(kvs.find? fun kv=>decide (kv.1=k)).map (·.2)
theorem zbd {p:κ×V} {r:List (κ×V)} {k:κ} (e:p.1=k):zbc (p::r) k=some p.2:=by simp [zbc,List.find?_cons,e]
theorem zbe {p:κ×V} {r:List (κ×V)} {k:κ} (e:¬p.1=k):zbc (p::r) k=zbc r k:=by simp [zbc,List.find?_cons,e]
theorem RelO.isSome_eq {o:Option V} {u:Option Value} (r:RelO o u):o.isSome=u.isSome:=by
 cases o with
 | none=>cases u with
  | none=>rfl
  | some _=>exact (show False from r).elim
 | some _=>cases u with
  | none=>exact (show False from r).elim
  | some _=>rfl
theorem RelO.getD {o:Option V} {u:Option Value} {d:V} {d':Value} (r:RelO o u) (rd:RelV d d'):RelV (o.getD d) (u.getD d'):=by
 cases o with
 | none=>cases u with
  | none=>exact rd
  | some _=>exact (show False from r).elim
 | some _=>cases u with
  | none=>exact (show False from r).elim
  | some _=>exact r
theorem KV.val {kvs:List (κ×V)} {vs:List (κ×Value)} (r:KV kvs vs) (k:κ):RelO (zbc kvs k) (valueAt vs k):=by
 unfold KV at r
 induction r with
 | nil=>exact True.intro
 | @cons p q ps qs h t ih=>
  obtain ⟨h1,h2⟩:=h
  by_cases e:p.1=k
  . have e':q.1=k:=h1.symm.trans e
    have b:valueAt (q::qs) k=some q.2:=by simp [valueAt,List.find?_cons,e']
    rw [zbd e,b];exact h2
  . have e':¬q.1=k:=fun z=>e (h1.trans z)
    have b:valueAt (q::qs) k=valueAt qs k:=by simp [valueAt,List.find?_cons,e']
    rw [zbe e,b];exact ih
theorem KV.length {kvs:List (κ×V)} {vs:List (κ×Value)} (r:KV kvs vs):kvs.length=vs.length:=Paired.length r
end
theorem zhh {P:Program} {w:World} {k:Key} {u:Value} (r:RelV (kV k) u):(z2j P w).is k u=true:=by
 cases k with
 | inl i=>obtain ⟨t,e⟩:=(show ∃t,u=Value.int i t from r);subst e;exact za8 P w i t
 | inr x=>obtain ⟨t,e⟩:=(show ∃t,u=Value.str x t from r);subst e;exact za9 P w x t
theorem z97 {P:Program} {w:World}:∀{ks:List Key} {us:List Value},Vals (ks.map kV) us->ItemsAre (z2j P w) ks us
 | [],_,r=>by rw [List.map_nil] at r;cases r;exact .nil
 | k::ks,_,r=>by
  rw [List.map_cons] at r
  cases r with
  | cons h t=>exact .cons (zhh h) (z97 t)
abbrev KT (H:Hp):List (List Key×V)->List (List Key×Addr×Value)->Prop:=Paired fun p q=>p.1=q.1/\H q.2.1=some (.tup (p.1.map kV))/\RelV p.2 q.2.2
theorem KT.val {H:Hp} {kvs:List (List Key×V)} {xs:List (List Key×Addr×Value)} (r:KT H kvs xs) (k:List Key):RelO (zbc kvs k) ((atKey xs k).map (·.2)):=by
 induction r with
 | nil=>exact True.intro
 | @cons p q ps qs h t ih=>
  obtain ⟨h1,_,h2⟩:=h
  by_cases e:p.1=k
  . have e':q.1=k:=h1.symm.trans e
    have b:atKey (q::qs) k=some q.2:=by simp [atKey,List.find?_cons,e']
    rw [zbd e,b];exact h2
  . have e':¬q.1=k:=fun z=>e (h1.trans z)
    have b:atKey (q::qs) k=atKey qs k:=by simp [atKey,List.find?_cons,e']
    rw [zbe e,b];exact ih
section
variable {P:Program} {w:World} {H:Hp} {h:Heap} {a:Addr}
theorem zoj {u:HO} (ok:HOk P w H h) (e:Rd H a u):ObjOk P w H h a u:=e.ok ok
theorem ze9 {kvs:List (Key×V)} (ok:HOk P w H h) (e:Rd H a (.dK kvs)):kvs.length<=sizeLine/\(a==sysModules)=false/\∃vs,KV kvs vs/\h.DictOf (z2j P w) a vs:=
 show ObjOk P w H h a (.dK kvs) from zoj ok e
theorem zbf {ks:List Key} (ok:HOk P w H h) (e:H a=some (.tup (ks.map kV))):(tupleKind (z2j P w)).is h ks a:=by
 obtain ⟨_,its,r,o,h1,h2,n,h3⟩:=(show ObjOk P w H h a (.tup (ks.map kV)) from ok a _ e)
 exact ⟨o,its.toArray,n,h1,h2,h3,by simpa using z97 r⟩
theorem zhi {kvs:List (List Key×V)} (ok:HOk P w H h) (e:Rd H a (.dT kvs)):kvs.length<=sizeLine/\(a==sysModules)=false /\
  ∃xs,KT H kvs xs/\h.DictOfH (tupleKind (z2j P w)) a xs:=by
 obtain ⟨z,y,xs,r,o,es,ep,h1,h2,h3,h4,h5⟩:=(show ObjOk P w H h a (.dT kvs) from zoj ok e)
 refine ⟨z,y,xs,r,o,es,ep,h1,h2,h3,h4,fun x hx=>?_,h5⟩
 have all:∀{l:List (List Key×V)} {m:List (List Key×Addr×Value)},KT H l m->∀x∈m,(tupleKind (z2j P w)).is h x.1 x.2.1:=by
  intro l m q
  induction q with
  | nil=>intro x hx;exact nomatch hx
  | @cons p q ps qs hq t ih=>
   intro x hx
   rcases List.mem_cons.mp hx with e | hx
   . subst e
     exact zbf ok (by rw [<-hq.1];exact hq.2.1)
   . exact ih x hx
 exact all r x hx
end
def DGet (H:Hp) (a:Addr) (y:V) (r:Option V):Prop:=
 (∃kvs k,Rd H a (.dK kvs)/\y=kV k/\r=zbc kvs k)\/∃kvs k b,Rd H a (.dT kvs)/\y=.ref b/\H b=some (.tup (k.map kV))/\r=zbc kvs k
theorem DGet.k {H:Hp} {a:Addr} {kvs:List (Key×V)} {k:Key} (e:H a=some (.dK kvs)):DGet H a (kV k) (zbc kvs k):=.inl ⟨kvs,k,.inl e,rfl,rfl⟩
theorem DGet.t {H:Hp} {a b:Addr} {kvs:List (List Key×V)} {k:List Key} (e:H a=some (.dT kvs)) (eb:H b=some (.tup (k.map kV))):DGet H a (.ref b) (zbc kvs k):=.inr ⟨kvs,k,b,.inl e,rfl,eb,rfl⟩
section
variable {X:Cx} {pins:List (Addr×Obj)} {σ:St} {H:Hp} {s:Shared} {a:Addr} {y v:V} {u r:Value} {o:Option V} {A:Around} {E:Value->Shared->Prop}
theorem Inv.big (I:Inv X pins σ H s):sysModules<s.heap.objs.size:=by
 have h:mainGlobals<s.heap.objs.size:=(I.mod.glob.keeps I.bk).lt
 exact Nat.lt_trans (by decide) h
theorem zea {Q:Value->Shared->Prop} (hu:A.units+1<cLine) (I:Inv X pins σ H s) (g:DGet H a y (some v)) (ry:RelV y u) (h:∀w' s',Inv X pins σ H s'->RelV v w'->Q w' s') :
  wpAny (model X.prog X.w) A (getItem (.ref a) u) Q E s:=by
 rcases g with ⟨kvs,k,e,ey,l⟩ | ⟨kvs,k,b,e,ey,eb,l⟩
 . subst ey
   obtain ⟨z,hd,vs,rel,dd⟩:=ze9 I.hok e
   obtain ⟨w',hw,rw'⟩:=RelO.some_of (v:=v) (o:=valueAt vs k) (by rw [l];exact rel.val k)
   exact wpAny_getItem_of (zhh ry) dd.mapOf hw (h w' _ (I.tok _) rw')
 . subst ey
   cases (show u=Value.ref b from ry)
   obtain ⟨z,hd,xs,rel,dd⟩:=zhi I.hok e
   obtain ⟨w',hw,rw'⟩:=RelO.some_of (v:=v) (o:=(atKey xs k).map (·.2)) (by rw [l];exact rel.val k)
   obtain ⟨p,hp,hp2⟩:=Option.map_eq_some_iff.mp hw
   refine wpAny_getItem_heap (tupleKind_room_in1 hu) (zbf I.hok eb) dd hp ?_
   rw [hp2]
   exact h w' _ (I.tok _) rw'
theorem zx6 {Q:Value->Shared->Prop} (hu:A.units+1<cLine) (I:Inv X pins σ H s) (g:DGet H a y o) (ry:RelV y u) (h:∀s',Inv X pins σ H s'->Q (.bool o.isSome) s') :
  wpAny (model X.prog X.w) A (compareOp .In u (.ref a)) Q E s:=by
 rcases g with ⟨kvs,k,e,ey,l⟩ | ⟨kvs,k,b,e,ey,eb,l⟩
 . subst ey
   obtain ⟨z,hd,vs,rel,dd⟩:=ze9 I.hok e
   refine wpAny_in_of (zhh ry) hd dd.mapOf ?_
   rw [<-(rel.val k).isSome_eq,<-l]
   exact h _ (I.tok _)
 . subst ey
   cases (show u=Value.ref b from ry)
   obtain ⟨z,hd,xs,rel,dd⟩:=zhi I.hok e
   refine wpAny_in_heap (tupleKind_room_in1 hu) (zbf I.hok eb) hd dd ?_
   have q:=(rel.val k).isSome_eq
   rw [Option.isSome_map] at q
   rw [<-q,<-l]
   exact h _ (I.tok _)
theorem zkx {Q:Value->Shared->Prop} (hu:A.units+1<cLine) (I:Inv X pins σ H s) (g:DGet H a y o) (ry:RelV y u) (h:∀s',Inv X pins σ H s'->Q (.bool (!o.isSome)) s') :
  wpAny (model X.prog X.w) A (compareOp .NotIn u (.ref a)) Q E s:=by
 rcases g with ⟨kvs,k,e,ey,l⟩ | ⟨kvs,k,b,e,ey,eb,l⟩
 . subst ey
   obtain ⟨z,hd,vs,rel,dd⟩:=ze9 I.hok e
   refine wpAny_notIn_of (zhh ry) hd dd.mapOf ?_
   rw [<-(rel.val k).isSome_eq,<-l]
   exact h _ (I.tok _)
 . subst ey
   cases (show u=Value.ref b from ry)
   obtain ⟨z,hd,xs,rel,dd⟩:=zhi I.hok e
   refine wpAny_notIn_heap (tupleKind_room_in1 hu) (zbf I.hok eb) hd dd ?_
   have q:=(rel.val k).isSome_eq
   rw [Option.isSome_map] at q
   rw [<-q,<-l]
   exact h _ (I.tok _)
theorem zky {h':Heap} {t':Nat} {ob:HO} (I:Inv X pins σ H s) (mu:Mut (H a)) (hs:Heap.SameBut a s.heap h') (he:∃q,h'.get? a=some q) (new:ObjOk X.prog X.w (upd H a ob) h' a ob) :
  Inv X pins σ (upd H a ob) { s with heap:=h',toks:=t' }:=
 I.write (x:=a) (e:=a) mu (.inl rfl) (fun b q hb z=>(hs.2 b hb).trans z) he new
end
section
variable {X:Cx} {pins:List (Addr×Obj)} {σ:St} {H:Hp} {s:Shared} {a:Addr} {kvs:List (Key×V)} {k:Key} {u:Value} {A:Around} {E:Value->Shared->Prop}
theorem ztp {Q:Value->Shared->Prop} (I:Inv X pins σ H s) (e:Rd H a (.dK kvs)) (h:∀t s',Inv X pins σ H s'->Q (.int kvs.length t) s'):wpAny (model X.prog X.w) A (call (.builtin "len") [.ref a]) Q E s:=by
 obtain ⟨z,hd,vs,rel,dd⟩:=ze9 I.hok e
 refine call_len_dict hd dd (by rw [<-rel.length];rw [sizeLine_eq] at z;omega) ?_
 rw [<-rel.length]
 exact h _ _ (I.tok _)
end
theorem zaf {X:Cx} {pins:List (Addr×Obj)} {σ:St} {H:Hp} {s:Shared} {a:Addr} {y:V} {o:Option V} (I:Inv X pins σ H s) (g:DGet H a y o):s.TypeIs (.ref a) "dict":=by
 rcases g with ⟨kvs,k,e,_,_⟩ | ⟨kvs,k,b,e,_,_,_⟩
 . obtain ⟨_,_,vs,_,dd⟩:=ze9 I.hok e
   exact dd.typeIs
 . obtain ⟨_,_,xs,_,dd⟩:=zhi I.hok e
   exact dd.typeIs
structure M1 (X:Cx) (o:Expr) (m:Str) (apos:Pos) (e:Expr) (cpos:Pos):Prop where
 base:attributeBase o m X.env (eval o X.env)=eval o X.env
 few:((backTo cpos (starEach [e] X.env)).all (fun x=>!x.1)&&(backToKw cpos (keywordEach [] X.env)).all (fun x=>x.1.isSome)
  && decide (([e]:List Expr).length+([]:List Keyword).length+(if ([]:List Keyword).isEmpty then 0 else 1)<30))=true
 line:(apos.endLine==cpos.line)=true
 trees:backTo cpos (starEach [e] X.env)=[(false,eval e X.env)]
structure M2 (X:Cx) (o:Expr) (m:Str) (apos:Pos) (e f:Expr) (cpos:Pos):Prop where
 base:attributeBase o m X.env (eval o X.env)=eval o X.env
 few:((backTo cpos (starEach [e,f] X.env)).all (fun x=>!x.1)&&(backToKw cpos (keywordEach [] X.env)).all (fun x=>x.1.isSome)
  && decide (([e,f]:List Expr).length+([]:List Keyword).length+(if ([]:List Keyword).isEmpty then 0 else 1)<30))=true
 line:(apos.endLine==cpos.line)=true
 trees:backTo cpos (starEach [e,f] X.env)=[(false,eval e X.env),(false,eval f X.env)]
end L2
namespace Att
open PySem PySem.W PySem.Calls PyProof.Rows
theorem z67 {P:Params} {h:Heap}:∀(ns:List Int) (vs:List Value),WellAll P h vs (ns.map WData.int)->IntsAre vs ns:=by
 intro ns
 induction ns with
 | nil=>
  intro vs w
  rw [List.map_nil] at w
  cases w
  exact .nil
 | cons n ns ih=>
  intro vs w
  rw [List.map_cons] at w
  cases w with
  | cons a b=>
   cases a
   exact .cons _ _ (ih _ b)
theorem zeb {l:OpenLaw} {n:Nat} (hn:l.most=some n) {P:Params} {h:Heap} {args:List WData} {vals:List Value}
  (hpre:l.row.toRowW.claim.pre args=true) (hwl:WellAll P h vals args) :
  ∃a vs ns,vals=[Value.ref a]/\args=[WData.list (ns.map WData.int)]/\h.get? a=some { cls:=.type "list",data:=.seq vs.toArray }/\IntsAre vs ns/\ns.length<=n:=by
 have hsh:WShape.hasAll [] args [.list .int]=true:=(pre_splitW hpre).1
 have hc:l.pre.holds [] { args:=args }=true:=(pre_splitW hpre).2
 obtain ⟨d,r,rfl,h1,h2⟩:=hasAllW_cons hsh
 obtain rfl:=hasAllW_nil h2
 obtain ⟨xs,rfl,h3⟩:=hasW_list h1
 obtain ⟨ns,rfl⟩:=items_int h3
 have hlen:ns.length<=n:=by
  unfold OpenLaw.pre at hc
  have h4:(WTm.not (.lt (.lit (.int (n:Int))) (.len (.arg 0)))).holds [] { args:=[.list (ns.map .int)] }=true:=by
   have h4:=(holds_andW hc).1
   rw [hn] at h4
   exact h4
  have h5:=condW_of h4 (w_not (w_lt w_lit (w_len_list (w_arg rfl))))
  rw [List.length_map] at h5
  refine Nat.le_of_not_lt fun q=>?_
  have q':(n:Int)<((ns.length:Nat):Int):=by omega
  first
   | (rw [decide_eq_true q'] at h5;exact absurd h5 (by decide))
   | (simp at h5;omega)
 cases hwl with
 | cons w1 w2=>
  cases w2
  cases w1 with
  | list ho hall=>exact ⟨_,_,ns,rfl,rfl,ho,z67 ns _ hall,hlen⟩
theorem zec (l:OpenLaw) (args:List WData):l.row.toRowW.claim.post args (.bool true) args=true:=
 postW_of (r:=l.row.toRowW) (X:=(true==true))
  (show WShape.has [] (.bool true) .bool=true by first | rfl | decide | simp [WShape.has,WShape.arms,WShape.armsAll])
  (show (WTm.eq .res (.lit (.bool true))).value [] { args:=args,res:=some (.bool true),after:=args }=some (.bool (true==true)) from w_eq_bool (w_res rfl) w_lit) rfl
theorem attach_call {l:OpenLaw} {n:Nat} {q:Program} {loose:List Str} {XP:(Str->Option Value)->Heap->Prop} {YP:World->Heap->Prop} {d:DefRec}
  (hn:l.most=some n) (hdf:d.params.defaults=[])
  (call:∀(w:World) (s₀ s₁:Shared) (mg mb:Str->Option Value) (fa:Addr) (o:Obj) (pm cd doc:Value) (a:Addr) (vs:List Value) (ns:List Int),
   Ground q loose [] XP w s₀ mg mb s₁.heap->YP w s₁.heap ->
   s₁.heap.get? fa=some o->o.data=.func (docDef d.name d.params d.body d.scope pm cd doc)->s₁.heap.CodeRec cd d.name->mg d.name=some (.ref fa) ->
   s₁.heap.get? a=some { cls:=.type "list",data:=.seq vs.toArray }->IntsAre vs ns->ns.length<=n->s₁.gens=#[] ->
   codeAny (model l.prog w) callerA (.call (.ref fa) ⟨[.ref a],[]⟩) (fun r s'=>r=.ok (.ret (.bool true))/\OldK s₁.heap s'.heap/\s'.os=s₁.os/\AllBare s'.gens) s₁) :
  WalkO q loose XP YP l.row.toRowW d [] (fun f vs=>PySem.call f vs):=by
 intro w s₀ s₁ mg mb G Y fa o pm cd doc dV kV ho hd hcd hD hmg hg args vals as hpre hlay hrd hwl hlo
 obtain rfl:dV=.none:=Dflts.none hD hdf
 obtain rfl:kV=.none:=Dflts.noKw hD
 obtain ⟨a,vs,ns,rfl,rfl,hobj,hints,hlen⟩:=zeb hn hpre hwl
 refine enter_call (codeAny_mono (call w s₀ s₁ mg mb fa o pm cd doc a vs ns G Y ho (fd_plain hd) hcd hmg hobj hints hlen hg) fun r s' hq=>?_)
 obtain ⟨rfl,h2,h3,h4⟩:=hq
 exact ⟨.inl ⟨.bool true,.bool true,[],rfl,fun _=>rfl,.bool true,zec l _,fun _=>⟨List.Pairwise.nil,fun _ hm=>(nomatch hm)⟩⟩,h2,h3,h4⟩
section
variable {prog:Program} {w:World} {A:Around} {E:Value->Shared->Prop} {s:Shared} {K:Frag}
def noObjs (h:Heap):Heap:={ h with objs:=#[] }
theorem noObjs_get (h:Heap) (b:Addr):(noObjs h).get? b=none:=by
 cases e:(noObjs h).get? b with
 | none=>rfl
 | some o=>exact absurd (Heap.lt_size e) (Nat.not_lt_zero _)
theorem fr_all {h:Heap} {L:Addr} {m:Str->Option Value} (n:h.Ns L m):Fr (noObjs h) L h m:=
 ⟨n,fun b o e=>(by rw [noObjs_get] at e;cases e),Nat.zero_le _⟩
end
end Att
namespace L2
open PySem PySem.Spec PyProof.Rows
theorem z98:∀{vs:List Value} {ns:List Int},IntsAre vs ns->Vals (ns.map V.int) vs
 | _,_,.nil=>.nil
 | _,_,.cons n t h=>.cons ⟨t,rfl⟩ (z98 h)
def zt3 (H:Hp):Prop:=∀b,H b=none\/∃o xs,H b=some (.frz o (.lst xs))
theorem zhj {P:Program} {w:World} {K:Frag} {mg mb:Str->Option Value} {CX:CXT} {k:Nat} {fa a:Addr} {fd:FuncData} {x:Str} {sp:Sp} {s₁:Shared} {vs:List Value} {ns:List Int}
  (KX:K.In s₁.heap) (hns:s₁.heap.Ns mainGlobals mg) (hb:s₁.heap.Ns builtinsNs mb) (hbb:∀x:Str,x≠"__name__"->mb x=bootBuiltins x) (hlim:s₁.heap.NoLimit) (hg:s₁.gens=#[])
  (ha:s₁.heap.get? a=some { cls:=.type "list",data:=.seq vs.toArray }) (hi:IntsAre vs ns) (hl:ns.length<=sizeLine) (hr:Room k callerA)
  (F:∀base:Heap,K.In base->base.Ns mainGlobals mg->FnOk P w K mg base CX k fa fd [x] sp) (hbind:∀(s:Shared) (u:Value),BindsTo s fd ⟨[u],[]⟩ [(x,u)])
  (hsp:∀H:Hp,zt3 H->SqL K H a (ns.map V.int)->sp [.ref a] H (fun v _=>v=.bl true) fun _ _ _=>False)
  (hCX:∀H e s',CX [] H s₁ (fun _ _ _=>False) e s'->False) :
  codeAny (model P w) callerA (.call (.ref fa) ⟨[.ref a],[]⟩) (fun r s'=>r=.ok (.ret (.bool true))/\OldK s₁.heap s'.heap/\s'.os=s₁.os/\AllBare s'.gens) s₁:=by
 have rv:=z98 hi
 have lenV:=hi.length
 have core:∀H:Hp,zt3 H->SqL K H a (ns.map V.int)->HOk P w H s₁.heap->(∀b,H b≠none->b=a)->(H a≠none->K.lookup a=none) ->
   codeAny (model P w) callerA (.call (.ref fa) ⟨[.ref a],[]⟩) (fun r s'=>r=.ok (.ret (.bool true))/\OldK s₁.heap s'.heap/\s'.os=s₁.os/\AllBare s'.gens) s₁:=by
  intro H hO hS hok hA hK
  have base_of:∀{b:Addr} {o:Obj},s₁.heap.get? b=some o->H b=none->(zh9 s₁.heap H).get? b=some o:=fun e n=>zha e n
  have noA:∀{b:Addr} {o:Obj} {es:Array DictEntry} {ep:Nat},s₁.heap.get? b=some o->o.data=.dict es ep->H b=none:=fun {b o es ep} e d=>by
   cases q:H b with
   | none=>rfl
   | some u=>
    have e':b=a:=hA b (by rw [q];simp)
    subst e'
    rw [ha] at e;cases e
    have d':Data.seq vs.toArray _=Data.dict es ep:=d
    cases d'
  have nsK:∀{b:Addr} {m:Str->Option Value},s₁.heap.Ns b m->(zh9 s₁.heap H).Ns b m:=fun {b m} ⟨o,es,ep,e,d,r⟩=>⟨o,es,ep,base_of e (noA e d),d,r⟩
  have hKb:K.In (zh9 s₁.heap H):=fun b o e=>base_of (KX b o e) (by
   cases q:H b with
   | none=>rfl
   | some u=>
    have e':b=a:=hA b (by rw [q];simp)
    subst e'
    rw [hK (by rw [q];simp)] at e;cases e)
  have hM:Mod K mg (zh9 s₁.heap H):=⟨hKb,nsK hns,⟨mb,nsK hb,hbb⟩,let ⟨mc,h1,h2⟩:=hlim;⟨mc,nsK h1,h2⟩⟩
  have e0:Env0 P w K mg (zh9 s₁.heap H) callerA [] s₁ H:=⟨rfl,hM,fun b o e=>zkl e,Nat.le_of_eq (zds _ _),trivial,fun b hb=>absurd (show b∈([]:List Addr) from hb) (by simp),hok,.of_eq hg⟩
  refine codeAny_mono ((F _ hKb (nsK hns)).run callerA [] s₁ H ⟨[.ref a],[]⟩ [.ref a] [.ref a] _ _ hr e0 (hbind s₁ (.ref a)) (.cons rfl .nil) (hsp H hO hS)) fun r s' h=>?_
  cases r with
  | error e=>exact (hCX H e s' h).elim
  | ok fl=>
   cases fl with
   | next=>exact False.elim h
   | brk=>exact False.elim h
   | cont=>exact False.elim h
   | ret u=>
    obtain ⟨v,H',os,bare,un,hok',r',q⟩:=h
    have q':v=.bl true:=q
    subst q'
    obtain rfl:u=Value.bool true:=r'
    refine ⟨rfl,OldK.of_keep fun b o e=>?_,os,bare⟩
    cases q:H b with
    | none=>exact un.keep b o e q (by intro z;exact absurd (show b∈([]:List Addr) from z) (by simp)) (by simp)
    | some u=>
     rcases hO b with z | ⟨ob,xs,z⟩
     . rw [q] at z;cases z
     . have z2:=un.frzs b ob _ z
       obtain ⟨e1,_⟩:=hok b _ z
       obtain ⟨e2,_⟩:=hok' b _ z2
       rw [e] at e1;cases e1
       exact e2
 cases hk:K.lookup a with
 | some o=>
  have e:=KX a o hk
  rw [ha] at e
  cases e
  refine core (fun _=>none) (fun _=>.inl rfl) (.inr ⟨_,vs.toArray,_,hk,rfl,rfl,rfl,by rw [List.size_toArray,lenV];exact hl,by simpa using rv⟩) (fun b u z=>by have z':(none:Option HO)=some u:=z;cases z') (fun b z=>absurd rfl z) fun z=>absurd rfl z
 | none=>
  refine core (fun b=>if b=a then some (.frz { cls:=.type "list",data:=.seq vs.toArray } (.lst (ns.map V.int))) else none) (fun b=>?_) (.inl (.inr ⟨{ cls:=.type "list",data:=.seq vs.toArray },if_pos rfl⟩)) (fun b u z=>?_) (fun b z=>?_) fun _=>hk
  . by_cases hb:b=a
    . exact .inr ⟨_,_,if_pos hb⟩
    . exact .inl (if_neg hb)
  . by_cases hb:b=a
    . have z':=(if_pos hb).symm.trans z
      cases z'
      subst hb
      exact ⟨ha,by rw [List.length_map];exact hl,vs,_,rv,ha⟩
    . have z':=(if_neg hb).symm.trans z
      cases z'
  . by_cases hb:b=a
    . exact hb
    . exact absurd (if_neg hb) z
theorem walk_of {l:PySem.W.OpenLaw} {n k:Nat} {q:Program} {loose:List Str} {XP:(Str->Option Value)->Heap->Prop} {YP:World->Heap->Prop} {d:DefRec} {K:Params->Frag} {CX:World->CXT} {sp:World->Sp} {x:Str}
  (hn:l.most=some n) (hn2:n<=sizeLine) (hdf:d.params.defaults=[]) (hr:Room k callerA)
  (hY:∀(w:World) (h:Heap),YP w h->(K w.params).In h)
  (F:∀(w:World) (mg:Str->Option Value) (fa:Addr) (h:Heap),(K w.params).In h->h.Ns mainGlobals mg->mg d.name=some (.ref fa) ->
   ∃fd:FuncData,(∀(s:Shared) (u:Value),BindsTo s fd ⟨[u],[]⟩ [(x,u)]) /\
    ∀base:Heap,(K w.params).In base->base.Ns mainGlobals mg->FnOk l.prog w (K w.params) mg base (CX w) k fa fd [x] (sp w))
  (hsp:∀(w:World) (H:Hp) (a:Addr) (ns:List Int),ns.length<=n->zt3 H->SqL (K w.params) H a (ns.map V.int)->sp w [.ref a] H (fun v _=>v=.bl true) fun _ _ _=>False)
  (hCX:∀(w:World) (H:Hp) (s:Shared) (e:Value) (s':Shared),CX w [] H s (fun _ _ _=>False) e s'->False) :
  PySem.W.WalkO q loose XP YP l.row.toRowW d [] (fun f vs=>PySem.call f vs):=by
 refine Att.attach_call hn hdf fun w s₀ s₁ mg mb fa o pm cd doc a vs ns G Y ho hd hcd hmg hobj hints hlen hg=>?_
 have KX:=hY w _ Y
 obtain ⟨fd,hb,hF⟩:=F w mg fa _ KX G.T.g hmg
 exact zhj KX G.T.g G.T.b G.T.builtins G.T.nolimit hg hobj hints (Nat.le_trans hlen hn2) hr hF hb (fun H hO hS=>hsp w H a ns hlen hO hS) fun H e s'=>hCX w H s₁ e s'
noncomputable def z0k (s:Stmt):Arguments:=match s with
 | .FunctionDef _ a _ _ _ _ _ _ _ _=>a
 | _=>{ posonlyargs:=[],args:=[],vararg:=none,kwonlyargs:=[],kw_defaults:=[],kwarg:=none,defaults:=[] }
noncomputable def z0e (s:Stmt):List Stmt:=match s with
 | .FunctionDef _ _ b _ _ _ _ _ _ _=>b
 | _=>[]
noncomputable def z03 (s:Stmt):Scope:=match s with
 | .FunctionDef _ _ _ _ _ _ sc _ _ _=>sc
 | _=>{ kind:=.function,names:=[],isGenerator:=false,isCoroutine:=false }
abbrev CX0:CXT:=fun _ _ _ _ _ _=>False
structure Fun (K:Frag) (x qual:Str) (st:Stmt) (f:Addr) (fd:FuncData):Prop where
 ex:∃(oc:Value) (od:Option Addr) (kV doc pm:Value) (an:Option Addr) (cdv ct:Value) (osl:Array (Option Value)),
  fd=PySem.W.fnOf x qual (z0k st) (z0e st) (z03 st) .none kV doc pm an cdv ct/\K.lookup f=some ⟨oc,od,.func fd,osl⟩/\codeIn K cdv qual=true
 kp:keepIn K (.ref f)=true
section
variable {P:Program} {w:World} {K:Frag} {mg:Str->Option Value} {base:Heap}
theorem Fun.ok {x qual:Str} {st:Stmt} {f:Addr} {fd:FuncData} {N ps:List Str} {k:Nat} {sp:Sp} (F:Fun K x qual st f fd) (S:FnScope N ps (z03 st)) (len:∀vs H Q E,sp vs H Q E->vs.length=ps.length)
  (hbody:∀(cdv:Value) (A:Around) (outer:List Env) (s:Shared) (H:Hp) (vs:List V) (Q:VK) (E:XK),Room k (A.deeper (envOfC qual (z03 st) s.heap.objs.size f cdv))->sp vs H Q E ->
   ∃t,PSs (zh3 CX0 P w K mg base N qual (z03 st) f cdv A outer s H E).nox (z0e st) t/\t { nx:=fun _ H'=>Q .non H',rt:=Q } (start N vs) H):FnOk P w K mg base CX0 (k+1) f fd ps sp:=by
 obtain ⟨oc,od,kV,doc,pm,an,cdv,ct,osl,rfl,lk,hcd⟩:=F.ex
 refine zoe lk hcd S len fun A outer s H vs Q E hr hsp=>?_
 obtain ⟨t,h,q⟩:=hbody cdv A outer s H vs Q E hr hsp
 exact ⟨t,h.nox,q⟩
theorem Fun.binds {x qual:Str} {st:Stmt} {f:Addr} {fd:FuncData} {ps:List Str} (F:Fun K x qual st f fd)
  (h:∀(kV doc pm:Value) (an:Option Addr) (cdv ct:Value) (us:List Value),us.length=ps.length->bindArgs (PySem.W.fnOf x qual (z0k st) (z0e st) (z03 st) .none kV doc pm an cdv ct) ⟨us,[]⟩=pure (ps.zip us)):Binds K fd ps []:=by
 obtain ⟨oc,od,kV,doc,pm,an,cdv,ct,osl,rfl,lk,hcd⟩:=F.ex
 exact .all (h kV doc pm an cdv ct)
theorem z2a {x qual:Str} {st:Stmt} {f:Addr} {oc:Value} {od an:Option Addr} {osl:Array (Option Value)} {kV doc pm cdv ct:Value} (l:K.lookup f=some ⟨oc,od,.func (PySem.W.fnOf x qual (z0k st) (z0e st) (z03 st) .none kV doc pm an cdv ct),osl⟩)
 (c:codeIn K cdv qual=true) (k:keepIn K (.ref f)=true):Fun K x qual st f (PySem.W.fnOf x qual (z0k st) (z0e st) (z03 st) .none kV doc pm an cdv ct):=⟨⟨oc,od,kV,doc,pm,an,cdv,ct,osl,rfl,l,c⟩,k⟩
end
theorem zed {n:Nat} (h:n<=1000):n<sizeLine:=Nat.lt_of_le_of_lt h (by decide)
section
variable {X:Cx}
theorem pv (i:Nat) {x:Str} {pos:Pos} (hN:X.N[i]?=some x:=by rfl) (hv:Vis X.env.scope x:=by first | exact Or.inl rfl | exact Or.inr (Or.inl rfl) | exact Or.inr (Or.inr rfl)) (hd:(x==("__debug__":Str))=false:=by decide)
 (hcd:(x==("__classdict__":Str))=false:=by decide):PE X (.Name x pos) (ztf i):=zdt hN hv hd hcd
theorem call_lenD:CallR X (.builtin "len") (fun xs H Q=>∃a kvs,xs=[V.ref a]/\H a=some (.dK kvs)/\Q (.int kvs.length) H):=by
 intro pins s σ H xs us Q I r h
 obtain ⟨a,kvs,rfl,ha,q⟩:=h
 obtain ⟨u,rfl,ru⟩:=z5w r
 cases ru
 exact ztp I (.inl ha) fun t s' I'=>⟨.int kvs.length,H,I',⟨t,rfl⟩,q⟩
end
def Same (H H':Hp):Prop:=∀b o,H b=some o->H' b=some o
theorem Same.refl (H:Hp):Same H H:=fun _ _ h=>h
theorem Same.trans {H H1 H2:Hp} (a:Same H H1) (b:Same H1 H2):Same H H2:=fun c o h=>b c o (a c o h)
theorem Same.free {H H':Hp} (e:Same H H') {l:Addr} (h:H' l=Option.none):H l=Option.none:=by
 cases q:H l with
 | none=>rfl
 | some o=>
  rw [e l o q] at h
  cases h
theorem Same.seq {K:Frag} {H H':Hp} {a:Addr} {xs:List V} (e:Same H H') (h:SqL K H a xs):SqL K H' a xs:=by
 rcases h with (h | ⟨o,h⟩) | h
 . exact .inl (.inl (e _ _ h))
 . exact .inl (.inr ⟨o,e _ _ h⟩)
 . exact .inr h
end L2
set_option maxHeartbeats 4000000
namespace L2
open PySem PySem.Spec PyProof.Rows
noncomputable def z14 (cells:List (Str×Addr)):List (Str×NameKind)->List (Str×Addr)->List (Str×Addr)
 | [],acc=>acc
 | (n,k)::r,acc=>z14 cells r (if k==.free then (n,(cells.lookup n).getD 0)::acc else acc)
theorem z47 {cells:List (Str×Addr)} {x:Str} {c:Addr}:∀{names:List (Str×NameKind)} {acc:List (Str×Addr)},
  (∀y∈names,y.2=.free->∃c,cells.lookup y.1=some c)->(∀y c,acc.lookup y=some c->cells.lookup y=some c)->(z14 cells names acc).lookup x=some c->cells.lookup x=some c
 | [],acc,_,ha,h=>ha x c h
 | (n,k)::r,acc,hf,ha,h=>by
  refine z47 (names:=r) (fun y hy=>hf y (List.mem_cons_of_mem _ hy)) (fun y c'=>?_) h
  by_cases hk:k=.free
  . subst hk
    obtain ⟨c0,e0⟩:=hf (n,.free) List.mem_cons_self rfl
    intro e
    have e1:(if (NameKind.free==NameKind.free)=true then (n,(cells.lookup n).getD 0)::acc else acc)=(n,(cells.lookup n).getD 0)::acc:=if_pos (show (NameKind.free==NameKind.free)=true from rfl)
    rw [e1,List.lookup_cons] at e
    cases hyn:y==n with
    | true=>
     rw [hyn] at e
     have e2:y=n:=by simpa using hyn
     subst e2
     have e3:=Option.some.inj e
     have e0':cells.lookup y=some c0:=e0
     rw [e0'] at e3 ⊢
     exact congrArg some e3
    | false=>rw [hyn] at e;exact ha y c' e
  . have e1:(if (k==NameKind.free)=true then (n,(cells.lookup n).getD 0)::acc else acc)=acc:=if_neg (by simpa using hk)
    rw [e1];exact ha y c'
theorem z4e {cells:List (Str×Addr)} {x:Str}:∀{names:List (Str×NameKind)} {acc:List (Str×Addr)},
  ((∃c,acc.lookup x=some c)\/∃y∈names,y.2=.free/\y.1=x)->∃c,(z14 cells names acc).lookup x=some c
 | [],acc,h=>by
  rcases h with h | ⟨y,hy,_⟩
  . exact h
  . cases hy
 | (n,k)::r,acc,h=>by
  refine z4e (names:=r) ?_
  by_cases hk:k=.free
  . subst hk
    have e1:(if (NameKind.free==NameKind.free)=true then (n,(cells.lookup n).getD 0)::acc else acc)=(n,(cells.lookup n).getD 0)::acc:=if_pos (show (NameKind.free==NameKind.free)=true from rfl)
    rw [e1,List.lookup_cons]
    cases hxn:x==n with
    | true=>exact .inl ⟨_,rfl⟩
    | false=>
     rcases h with h | ⟨y,hy,hf,e⟩
     . exact .inl h
     . rcases List.mem_cons.mp hy with z | z
       . subst z
         have e':n=x:=e
         subst e'
         simp at hxn
       . exact .inr ⟨y,z,hf,e⟩
  . have e1:(if (k==NameKind.free)=true then (n,(cells.lookup n).getD 0)::acc else acc)=acc:=if_neg (by simpa using hk)
    rw [e1]
    rcases h with h | ⟨y,hy,hf,e⟩
    . exact .inl h
    . rcases List.mem_cons.mp hy with z | z
      . subst z;exact absurd hf hk
      . exact .inr ⟨y,z,hf,e⟩
theorem z4m {scope:Scope} {env:Env} (hf:∀y∈scope.names,y.2=.free->∃c,env.cells.lookup y.1=some c):closureFor scope env=pure (z14 env.cells scope.names []):=by
 have go:∀(names:List (Str×NameKind)) (acc:List (Str×Addr)),(∀y∈names,y.2=.free->∃c,env.cells.lookup y.1=some c) ->
   (forIn names acc fun x cs=>if (x.2==NameKind.free)=true then do let a <-cellOf env x.1;pure (ForInStep.yield ((x.1,a)::cs)) else pure (ForInStep.yield cs):Sem (List (Str×Addr)))=pure (z14 env.cells names acc):=by
  intro names
  induction names with
  | nil=>intro acc _;rfl
  | cons p r ih=>
   intro acc h
   obtain ⟨n,k⟩:=p
   rw [List.forIn_cons]
   by_cases hk:k=.free
   . subst hk
     obtain ⟨c,e⟩:=h (n,.free) List.mem_cons_self rfl
     have e':env.cells.lookup n=some c:=e
     have e1:cellOf env n=pure c:=by unfold cellOf;rw [e']
     have e2:z14 env.cells ((n,NameKind.free)::r) acc=z14 env.cells r ((n,c)::acc):=by
      show z14 env.cells r (if (NameKind.free==NameKind.free)=true then (n,(env.cells.lookup n).getD 0)::acc else acc)=_
      rw [if_pos (show (NameKind.free==NameKind.free)=true from rfl),e'];rfl
     rw [e2,<-ih _ fun y hy=>h y (List.mem_cons_of_mem _ hy)]
     show ((if (NameKind.free==NameKind.free)=true then do let a <-cellOf env n;pure (ForInStep.yield ((n,a)::acc)) else pure (ForInStep.yield acc)) >>= _:Sem _)=_
     rw [if_pos (show (NameKind.free==NameKind.free)=true from rfl),e1]
     rfl
   . have hk':(k==NameKind.free)=false:=by simpa using hk
     have e2:z14 env.cells ((n,k)::r) acc=z14 env.cells r acc:=by
      show z14 env.cells r (if (k==NameKind.free)=true then _ else acc)=_
      rw [if_neg (by rw [hk'];exact Bool.false_ne_true)]
     rw [e2,<-ih _ fun y hy=>h y (List.mem_cons_of_mem _ hy)]
     show ((if (k==NameKind.free)=true then do let a <-cellOf env n;pure (ForInStep.yield ((n,a)::acc)) else pure (ForInStep.yield acc)) >>= _:Sem _)=_
     rw [if_neg (by rw [hk'];exact Bool.false_ne_true)]
     rfl
 have:=go scope.names [] hf
 unfold closureFor
 simpa using this
theorem z99 {prog:Program} {w:World} {A:Around} {R:Result->Shared->Prop} {s:Shared} {elt target iter:Expr} {ifs:List Expr} {scope:Scope} {pos:Pos} {it acc:Value} {env:Env} (I:Nat->Shared->Prop)
  (turn:∀n s,I n s->wpAny (model prog w) A (pyNext it) (fun r s₁=>match r with
   | none=>R (.ok .next) s₁
   | some v=>wpAny (model prog w) A (letOwnedTupleGo target it v) (fun _ s₁'=>wpAny (model prog w) A (assign target env v) (fun _ s₂=>
    wpAny (model prog w) A (forIn ifs true fun c r=>if r=true then do let ok <-isTrue c env (eval c env);pure (ForInStep.yield ok) else pure (ForInStep.yield r)) (fun ok s₃=>
     if ok=true then wpAny (model prog w) A (eval elt env) (fun x s₄=>
      wpAny (model prog w) A (call (.builtin "list.append") [acc,x]) (fun _ s₅=>∃m,m<n/\I m s₅) (fun _ _=>False) s₄) (fun _ _=>False) s₃
     else ∃m,m<n/\I m s₃) (fun _ _=>False) s₂) (fun _ _=>False) s₁') (fun _ _=>False) s₁) (fun _ _=>False) s)
  (n:Nat) (h:I n s) :
  codeAny (model prog w) A (.compLoop (.ListComp elt [⟨target,iter,ifs,0⟩] scope pos) 0 it acc env) R s:=by
 refine codeAny_loop rfl I (fun n s hI=>?_) n h
 show wpAny _ A ((compTurn (.ListComp elt [⟨target,iter,ifs,0⟩] scope pos) 0 it acc env).onRaise (fun x=>do noteFrame x env;theTreesLotGoes x)) _ _ s
 refine wpAny_noted ?_
 rw [compTurn_list]
 refine wpAny_bind (wpAny_standAt (wpAny_bind (wpAny_mono (turn n s hI) (fun r s₁ h₁=>?_) fun _ _ h'=>h'.elim)))
 cases r with
 | none=>exact wpAny_pure h₁
 | some v=>
  refine wpAny_bind (wpAny_mono h₁ (fun _ s₁' h₁'=>?_) fun _ _ h'=>h'.elim)
  refine wpAny_bind (wpAny_mono h₁' (fun _ s₂ h₂=>wpAny_bind (wpAny_mono h₂ (fun ok s₃ h₃=>?_) fun _ _ h'=>h'.elim)) fun _ _ h'=>h'.elim)
  cases ok with
  | false=>exact wpAny_pure ⟨rfl,h₃⟩
  | true=>
   exact wpAny_bind (wpAny_bind (wpAny_mono h₃ (fun x s₄ h₄=>wpAny_bind (wpAny_mono h₄ (fun _ s₅ h₅=>wpAny_pure (wpAny_pure ⟨rfl,h₅⟩)) fun _ _ h'=>h'.elim)) fun _ _ h'=>h'.elim))
theorem z2v {env:Env}:∀{names:List (Str×NameKind)} {x:Str},
  (names.map fun (n,k)=>if (k==NameKind.free&&env.scope.kind==.function&&env.kindOf n==some .cell) then (n,NameKind.cell) else (n,k)).lookup x =
   (names.lookup x).map fun k=>if (k==NameKind.free&&env.scope.kind==.function&&env.kindOf x==some .cell) then NameKind.cell else k
 | [],_=>rfl
 | (n,k)::r,x=>by
  have ih:=@z2v env r x
  show List.lookup x ((if (k==NameKind.free&&env.scope.kind==.function&&env.kindOf n==some .cell)=true then (n,NameKind.cell) else (n,k))::_)=_
  cases hx:x==n with
  | true=>
   have e:x=n:=by simpa using hx
   subst e
   by_cases hc:(k==NameKind.free&&env.scope.kind==.function&&env.kindOf x==some .cell)=true
   . rw [if_pos hc];simp only [List.lookup_cons,hx,Option.map_some,hc,if_true]
   . rw [if_neg hc];simp only [List.lookup_cons,hx,Option.map_some,hc,if_false];rfl
  | false=>
   by_cases hc:(k==NameKind.free&&env.scope.kind==.function&&env.kindOf n==some .cell)=true
   . rw [if_pos hc];simp only [List.lookup_cons,hx];exact ih
   . rw [if_neg hc];simp only [List.lookup_cons,hx];exact ih
noncomputable def z0o (X:Cx) (sc:Scope) (N':List Str) (fp:List Addr) (s₃:Shared) (H₃:Hp):Cx:=
 { X with env:=compEnvC sc (z14 X.env.cells sc.names []) s₃.heap.objs.size X.env,N:=N',s₀:=s₃,H₀:=H₃,outer:=X.stack,ex:=fp,fn:=fun _=>false,pn:=[],xe:=fun _ _=>False }
noncomputable def zh4 (ix:List Nat) (σ:St):St:=ix.map fun j=>(σ[j]?).getD none
structure CompOk (X:Cx) (sc:Scope) (caps:List Str) (ix:List Nat):Prop where
 calm:X.calm=true
 kind:sc.kind=.function
 ncell:∀y∈sc.names,y.2≠.cell
 free:∀y∈sc.names,y.2=.free->X.env.kindOf y.1=some .cell\/X.env.kindOf y.1=some .free
 names:∀y∈sc.names,y.2=.local->sc.names.lookup y.1=some .local
 cap:∀(j:Nat) x,caps[j]?=some x->sc.names.lookup x=some .free/\∃i,ix[j]?=some i/\X.N[i]?=some x
 len:ix.length=caps.length
noncomputable def z9a (fsc:Scope) (N:List Str) (sc:Scope) (caps:List Str) (ix:List Nat):Bool:=
 sc.kind==.function&&sc.names.all (fun y=>y.2 != .cell)&&sc.names.all (fun y=>y.2 != .free||(fsc.names.lookup y.1==some .cell||fsc.names.lookup y.1==some .free)) &&
  sc.names.all (fun y=>y.2 != .local||sc.names.lookup y.1==some .local)&&caps.all (fun x=>sc.names.lookup x==some .free)&&(ix.map fun i=>N[i]?)==caps.map some
theorem z2y {X:Cx} {sc:Scope} {caps:List Str} {ix:List Nat} (hc:X.calm=true) (h:z9a X.env.scope X.N sc caps ix=true):CompOk X sc caps ix:=by
 unfold z9a at h
 simp only [Bool.and_eq_true] at h
 obtain ⟨⟨⟨⟨⟨h1,h2⟩,h3⟩,h4⟩,h5⟩,h6⟩:=h
 have e6:(ix.map fun i=>X.N[i]?)=caps.map some:=by simpa using h6
 have elen:ix.length=caps.length:=by simpa using congrArg List.length e6
 refine ⟨hc,by simpa using h1,fun y hy=>?_,fun y hy hf=>?_,fun y hy hl=>?_,fun j x hj=>⟨?_,?_⟩,elen⟩
 . have:=List.all_eq_true.mp h2 y hy
   simpa using this
 . have:=List.all_eq_true.mp h3 y hy
   rw [hf] at this
   simp only [bne_self_eq_false,Bool.false_or,Bool.or_eq_true,beq_iff_eq] at this
   exact this
 . have:=List.all_eq_true.mp h4 y hy
   rw [hl] at this
   simpa using this
 . have:=List.all_eq_true.mp h5 x (List.mem_of_getElem? hj)
   simpa using this
 . have hjl:j<ix.length:=by rw [elen];exact (List.getElem?_eq_some_iff.mp hj).1
   refine ⟨ix[j],List.getElem?_eq_getElem hjl,?_⟩
   have q:=congrArg (fun l=>l[j]?) e6
   simp only [List.getElem?_map,List.getElem?_eq_getElem hjl,hj,Option.map_some] at q
   exact Option.some.inj q
section
variable {X:Cx} {sc:Scope} {tgs caps:List Str} {ix:List Nat} {pins:List (Addr×Obj)} {σ:St} {H:Hp} {s:Shared} {fp:List Addr}
theorem CompOk.free_cell (C:CompOk X sc caps ix) (I:Inv X pins σ H s):∀y∈sc.names,y.2=.free->∃c,X.env.cells.lookup y.1=some c:=fun y hy hf=>I.ok.has y.1 (C.free y hy hf)
theorem CompOk.sub (C:CompOk X sc caps ix) (I:Inv X pins σ H s) {x:Str} {c:Addr} (h:(z14 X.env.cells sc.names []).lookup x=some c):X.env.cells.lookup x=some c:=
 z47 (C.free_cell I) (fun _ _ e=>by cases e) h
theorem zcr (C:CompOk X sc caps ix) (I:Inv X pins σ H s) (hf:∀b∈fp,zac X pins H b) (hl:∀b∈fp,b<s.heap.objs.size) {h':Heap} {t':Nat} {m:Str->Option Value} (hn:h'.Ns s.heap.objs.size m)
  (hk:∀b o,s.heap.get? b=some o->h'.get? b=some o) :
  Inv (z0o X sc (tgs++caps) fp s H) [] (List.replicate tgs.length none++zh4 ix σ) H { s with heap:=h',toks:=t' }:=by
 have sub:∀{x c},(z14 X.env.cells sc.names []).lookup x=some c->X.env.cells.lookup x=some c:=fun h=>C.sub I h
 have clt:∀{x c},X.env.cells.lookup x=some c->c<s.heap.objs.size:=fun {x c} h=>by
  obtain ⟨v,q⟩:=I.cell x c h
  exact q.lt
 refine ⟨⟨I.ok.mod,C.kind,I.ok.glob,I.ok.blt,Nat.le_refl _,fun x y c h1 h2=>I.ok.inj x y c (sub h1) (sub h2),fun x hx=>?_,fun x c hfn _=>?_,I.ok.hd,I.ok.frames,.inl rfl,fun b hb=>⟨?_,fun x c h z=>?_⟩,fun b o e=>I.bs b o e,Nat.le_trans I.ok.bsz I.sz,fun b o e hb=>?_,fun b hb hfs=>?_,I.stack,I.stkFree⟩,
  rfl,I.bare,Un.kept hk,⟨m,hn,fun i x v e1 e2 e3=>?_⟩,fun x c h=>?_,I.hok.fresh (Nat.le_refl _),fun x c h=>I.freeC x c (sub h),fun p hp=>absurd (show p∈([]:List (Addr×Obj)) from hp) (by simp),I.hok.kept hk,?_⟩
 . -- a cell or free name of the block has a cell
   have hx':(relabel sc X.env).names.lookup x=some .cell\/(relabel sc X.env).names.lookup x=some .free:=hx
   have e:(relabel sc X.env).names.lookup x=(sc.names.lookup x).map fun k=>if (k==NameKind.free&&X.env.scope.kind==.function&&X.env.kindOf x==some .cell) then NameKind.cell else k:=z2v
   rw [e] at hx'
   cases q:sc.names.lookup x with
   | none=>rw [q] at hx';rcases hx' with z | z<;>cases z
   | some k=>
    have hm:(x,k)∈sc.names:=PySem.mem_of_lookup q
    have hkf:k=.free:=by
     rw [q] at hx'
     simp only [Option.map_some] at hx'
     by_cases hkk:k=.free
     . exact hkk
     . have:(k==NameKind.free)=false:=by simpa using hkk
       simp only [this,Bool.false_and,Bool.false_eq_true,if_false] at hx'
       rcases hx' with z | z
       . exact absurd (Option.some.inj z) (C.ncell _ hm)
       . exact Option.some.inj z
    subst hkf
    exact z4e (.inr ⟨_,hm,rfl,rfl⟩)
 . exact absurd (show false=true from hfn) Bool.false_ne_true
 . exact Nat.ne_of_lt (hl b hb)
 . exact (hf b hb).2.2.2.2.1 x c (sub h) z
 . obtain ⟨_,_,_,hx,_⟩:=hf b hb
   rcases hx with z | z
   . exact I.ok.noex b o e z
   . exact absurd (Nat.lt_of_lt_of_le (Heap.lt_size e) (Nat.le_trans I.ok.bsz z)) (Nat.lt_irrefl _)
 . obtain ⟨_,h1,h2,_⟩:=hf b hb
   rcases List.mem_cons.mp (I.stkSub b hfs) with z | z
   . exact h1 z
   . exact h2 z
 . -- the captured names' values
   have hi:tgs.length<=i:=by
    by_cases hi:i<tgs.length
    . rw [List.getElem?_append_left (by simpa using hi),List.getElem?_replicate] at e2
      split at e2<;>cases e2
    . omega
   have e1':caps[i - tgs.length]?=some x:=by
    have:(tgs++caps)[i]?=some x:=e1
    rw [List.getElem?_append_right hi] at this
    exact this
   rw [List.getElem?_append_right (by simpa using hi),List.length_replicate] at e2
   obtain ⟨hfr,j,hj,hjN⟩:=C.cap _ x e1'
   have e2':σ[j]?=some (some v):=by
    unfold zh4 at e2
    rw [List.getElem?_map,hj] at e2
    simp only [Option.map_some] at e2
    have e2:=Option.some.inj e2
    cases q:σ[j]? with
    | none=>rw [q] at e2;cases e2
    | some o=>rw [q] at e2;exact congrArg some e2
   have hmem:(x,NameKind.free)∈sc.names:=PySem.mem_of_lookup hfr
   have hkind:=C.free _ hmem rfl
   obtain ⟨m0,hn0,hl0⟩:=I.loc
   have hvis:Vis X.env.scope x:=hkind.elim (fun z=>.inr (.inl z)) fun z=>.inr (.inr z)
   obtain ⟨u,r,look⟩:=hl0 j x v hjN e2' hvis
   refine ⟨u,r,?_⟩
   rcases look with ⟨k,_⟩ | ⟨_,c,hc,z⟩
   . rcases hkind with q | q
     . rw [show X.env.kindOf x=some .cell from q] at k;cases k
     . rw [show X.env.kindOf x=some .free from q] at k;cases k
   . obtain ⟨c',hc'⟩:=z4e (cells:=X.env.cells) (names:=sc.names) (acc:=[]) (x:=x) (.inr ⟨_,hmem,rfl,rfl⟩)
     have hcc:c'=c:=by have:=sub hc';rw [hc] at this;exact (Option.some.inj this).symm
     subst hcc
     refine .inr ⟨?_,c',hc',?_⟩
     . have e:(relabel sc X.env).names.lookup x=(sc.names.lookup x).map fun k=>if (k==NameKind.free&&X.env.scope.kind==.function&&X.env.kindOf x==some .cell) then NameKind.cell else k:=z2v
       show (relabel sc X.env).names.lookup x=some .cell\/(relabel sc X.env).names.lookup x=some .free
       rw [e,hfr]
       simp only [Option.map_some]
       split
       . exact .inl rfl
       . exact .inr rfl
     . obtain ⟨o,ho,hd⟩:=z
       exact ⟨o,hk _ o ho,hd⟩
 . obtain ⟨v,o,ho,hd⟩:=I.cell x c (sub h)
   exact ⟨v,o,hk _ o ho,hd⟩
 . show _=(tgs++caps).length
   unfold zh4
   rw [List.length_append,List.length_replicate,List.length_map,List.length_append,C.len]
inductive PTs (X:Cx):List Expr->TT->Prop where
 | nil:PTs X [] (fun _ H Q=>Q true H)
 | one {c:Expr} {t:TT} (h:PT X c t):PTs X [c] t
theorem PTs.run {X:Cx} {ifs:List Expr} {t:TT} (h:PTs X ifs t) {pins:List (Addr×Obj)} {s:Shared} {σ:St} {H:Hp} {Q:Bool->Hp->Prop} (I:Inv X pins σ H s) (q:t σ H Q) :
  wpAny (model X.prog X.w) X.A (forIn ifs true fun c r=>if r=true then do let ok <-isTrue c X.env (eval c X.env);pure (ForInStep.yield ok) else pure (ForInStep.yield r)) (TP X pins σ Q) X.xe s:=by
 cases h with
 | nil=>exact wpAny_tests_nil ⟨H,I,q⟩
 | one h=>exact wpAny_tests_one (h pins s σ H Q I q)
def zok (J:It) (D:Addr) (B:V->Hp->(List V->Hp->Prop)->Prop) (cs:St) (tt:TT) (te:TE) (Q:VK) (H1:Hp):Prop:=
 ∃W:Nat->Nat->List V->Hp->Prop,(∃m,W 0 m [] (upd H1 D (.lst [])))/\∀i m ys H,W i m ys H ->
  H D=some (.lst ys)/\((J.stop i H/\Q (.ref D) H)\/(J.go i H/\∀x H',J.yld i H x H'->B x H' fun vals H2=>tt (vals.map some++cs) H2 fun b H3=>
   if b=true then te (vals.map some++cs) H3 fun y H4=>H4 D=some (.lst ys)/\ys.length<sizeLine/\∃m',m'<m/\W (i+1) m' (ys++[y]) (upd H4 D (.lst (ys++[y])))
   else ∃m',m'<m/\W (i+1) m' ys H3))
noncomputable def zcs (wi:TI) (B:V->Hp->(List V->Hp->Prop)->Prop) (ix:List Nat) (tt:TT) (te:TE):TE:=fun σ H Q=>wi σ H fun J H1=>∀D,H1 D=none->zok J D B (zh4 ix σ) tt te Q H1
variable {elt tg iter:Expr} {ifs:List Expr} {pos:Pos} {g:TG} {B:V->Hp->(List V->Hp->Prop)->Prop} {tt:TT} {te:TE}
theorem z78 (C:CompOk X sc caps ix) (hg:∀fp s H,PG (z0o X sc (tgs++caps) fp s H) tg g)
  (hB:∀(x:V) (σt cs:St) (H:Hp) (Q:St->Hp->Prop),σt.length=tgs.length->B x H (fun vals H2=>Q (vals.map some++cs) H2)->g x (σt++cs) H fun σ2 H2=>(∃vals:List V,vals.length=tgs.length/\σ2=vals.map some++cs)/\Q σ2 H2)
  (ht:∀fp s H,PTs (z0o X sc (tgs++caps) fp s H) ifs tt) (he:∀fp s H,PE (z0o X sc (tgs++caps) fp s H) elt te)
  {J:It} {it:Addr} {tn:Nat->Heap->Prop} {Q:VK} {E:Value->Shared->Prop} (I2:Inv X pins σ H s) (T:Turn X.prog X.w X.K tg J fp it tn) (st:tn 0 s.heap) (hf:∀b∈fp,zac X pins H b)
  (hw:∀D,H D=none->zok J D B (zh4 ix σ) tt te Q H) {RR:Value->Addr->Result->Shared->Prop}
  (hRR:∀D Cc H' s' m,s'.heap.Ns Cc m->Inv X pins σ H' s'->zac X pins H' Cc->Q (.ref D) H'->RR (.ref D) Cc (.ok .next) s') :
  wpAny (model X.prog X.w) X.A (newList []) (fun acc s₃=>wpAny (model X.prog X.w) X.A (newFunctionEnv sc X.env.globals (z14 X.env.cells sc.names []) [] X.env.qual none .none (some X.env)) (fun cenv s₄=>
   codeAny (model X.prog X.w) X.A (.compStart (.ListComp elt [⟨tg,iter,ifs,0⟩] sc pos) 0 (.ref it) acc { cenv with scope:=relabel sc X.env }) (RR acc cenv.locals) s₄) E s₃) E s:=by
 refine wpAny_newObj_type (wpAny_newFunctionEnv C.ncell (by intro y hy;simp at hy) (fun h₁ hns₁ hsb₁=>?_) C.kind)
 have I3:Inv X pins σ (upd H s.heap.objs.size (.lst [])) { s with heap:=s.heap.push { cls:=.type "list",dict:=none,data:=.seq ([]:List Value).toArray } }:=I2.lnew (t':=s.toks) (its:=[]) .nil (Nat.zero_le _)
 have hD0:H s.heap.objs.size=none:=I2.fresh
 have lt0:∀b∈fp,b<s.heap.objs.size:=fun b hb=>by
  obtain ⟨o,e,_⟩:=T.obj _ _ st b hb
  exact Heap.lt_size e
 have hfD:∀b∈fp,b≠s.heap.objs.size:=fun b hb=>Nat.ne_of_lt (lt0 b hb)
 have hf3:∀b∈fp,zac X pins (upd H s.heap.objs.size (.lst [])) b:=fun b hb=>⟨by rw [z0a (hfD b hb)];exact (hf b hb).1,(hf b hb).2⟩
 generalize hs3:({ s with heap:=s.heap.push { cls:=.type "list",dict:=none,data:=.seq ([]:List Value).toArray } }:Shared)=s₃ at I3 hns₁ hsb₁ ⊢
 have hs3h:s₃.heap=s.heap.push { cls:=.type "list",dict:=none,data:=.seq ([]:List Value).toArray }:=by rw [<-hs3]
 have st3:tn 0 s₃.heap:=T.keep _ _ _ st fun b _ o e=>by rw [hs3h];exact Heap.get?_push_of_some _ e
 have hl3:∀b∈fp,b<s₃.heap.objs.size:=fun b hb=>by rw [hs3h,Heap.size_push];exact Nat.lt_succ_of_lt (lt0 b hb)
 generalize hDD:s.heap.objs.size=D at *
 have hk1:∀b o,s₃.heap.get? b=some o->h₁.get? b=some o:=fun b o e=>hsb₁.extBut b o (Nat.ne_of_lt (Heap.lt_size e)) (Heap.get?_push_of_some _ e)
 have I4:=zcr (tgs:=tgs) (t':=s₃.toks+([]:List (Str×Value)).length) C I3 hf3 hl3 hns₁ hk1
 have st4:tn 0 h₁:=T.keep _ _ _ st3 fun b _ o e=>hk1 b o e
 have fr4:∀b∈fp,(upd H D (.lst [])) b=none:=fun b hb=>(hf3 b hb).1
 generalize hXc:z0o X sc (tgs++caps) fp s₃ (upd H D (.lst []))=Xc at I4
 have hprog:Xc.prog=X.prog:=by rw [<-hXc];rfl
 have hww:Xc.w=X.w:=by rw [<-hXc];rfl
 have hKK:Xc.K=X.K:=by rw [<-hXc];rfl
 have hcalm:Xc.calm=true:=by rw [<-hXc];exact C.calm
 have hA:Xc.A=X.A:=by rw [<-hXc];rfl
 have henv:Xc.env=compEnvC sc (z14 X.env.cells sc.names []) s₃.heap.objs.size X.env:=by rw [<-hXc];rfl
 have hxe:Xc.xe=fun _ _=>False:=by rw [<-hXc];rfl
 have hg':=hg fp s₃ (upd H D (.lst []))
 have ht':=ht fp s₃ (upd H D (.lst []))
 have he':=he fp s₃ (upd H D (.lst []))
 rw [hXc] at hg' ht' he'
 obtain ⟨W,⟨m0,w0⟩,turn⟩:=hw D hD0
 have stat:∀{H':Hp},(∀b∈fp,H' b=none)->∀b∈fp,zac Xc [] H' b:=fun {H'} hn b hb=>by
  refine ⟨hn b hb,?_,?_,.inl ?_,fun x c e z=>?_,fun p hp=>?_⟩
  . rw [henv];exact Nat.ne_of_lt (hl3 b hb)
  . rw [<-hXc]
    intro z
    obtain ⟨_,h1,h2,_⟩:=hf b hb
    rcases List.mem_cons.mp (I3.stkSub b z) with q | q
    . exact h1 q
    . exact h2 q
  . rw [<-hXc];exact hb
  . rw [henv] at e
    exact (hf b hb).2.2.2.2.1 x c (C.sub I2 e) z
  . rw [<-hXc] at hp
    exact absurd (show p∈([]:List (Addr×Obj)) from hp) (by simp)
 have loop:∀s₄:Shared,s₄={ s₃ with heap:=h₁,toks:=s₃.toks+([]:List (Str×Value)).length } ->
   codeAny (model X.prog X.w) X.A (.compLoop (.ListComp elt [⟨tg,iter,ifs,0⟩] sc pos) 0 (.ref it) (.ref D) (compEnvC sc (z14 X.env.cells sc.names []) s₃.heap.objs.size X.env)) (RR (.ref D) s₃.heap.objs.size) s₄:=by
  intro s₄ hs4
  rw [<-hprog,<-hww,<-hA,<-henv]
  refine z99 (fun n s'=>∃(i:Nat) (ys:List V) (σt:St) (H':Hp),σt.length=tgs.length/\Inv Xc [] (σt++zh4 ix σ) H' s'/\tn i s'.heap/\(∀b∈fp,H' b=none)/\W i n ys H') ?_ m0
   ⟨0,[],List.replicate tgs.length none,upd H D (.lst []),by simp,by rw [hs4];exact I4,by rw [hs4];exact st4,fr4,w0⟩
  rintro n s5 ⟨i,ys,σt,H5,hσ,I5,st5,fr5,w5⟩
  obtain ⟨hD5,hturn⟩:=turn i n ys H5 w5
  rcases hturn with ⟨stop,q⟩ | ⟨go,step⟩
  . rw [hprog,hww]
    refine thn (T.done Xc hprog hww hKK hcalm i [] s5 _ H5 _ I5 (stat fr5) st5 stop) fun r s6 ⟨hr,I6⟩=>?_
    subst hr
    obtain ⟨m6,hn6,_⟩:=I6.loc
    rw [henv] at hn6
    have hcb:∀b∈fp,(b∈X.ex\/X.s₀.heap.objs.size<=b)/\b≠X.env.locals/\(∀x c,X.env.cells.lookup x=some c->c≠b)/\∀p∈X.pn++pins,p.1≠b:=fun b hb=>⟨(hf b hb).2.2.2.1,(hf b hb).2.1,(hf b hb).2.2.2.2.1,(hf b hb).2.2.2.2.2⟩
    have hos:s6.os=s₃.os:=by have:=I6.os;rw [<-hXc] at this;exact this
    have un6:Un (frs X.stack) fp (upd H D (.lst [])) H5 s₃.heap s6.heap:=by have:=I6.base;rw [<-hXc] at this;exact this
    have hok6:HOk X.prog X.w H5 s6.heap:=by have:=I6.hok;rw [hprog,hww] at this;exact this
    have I7:Inv X pins σ H5 s6:=I3.call' hos un6 hok6 I6.bare hcb
    refine hRR D _ H5 s6 m6 hn6 I7 ?_ q
    have hCn:H5 s₃.heap.objs.size=none:=by have:=I6.free;rw [henv] at this;exact this
    exact I3.fpOk (Nat.le_refl _) hCn
  . rw [hprog,hww]
    refine thn (T.item Xc hprog hww hKK hcalm i [] s5 _ H5 _ I5 (stat fr5) st5 go) fun r s6 ⟨u,hr,h6⟩=>?_
    subst hr
    refine thn h6 fun _ s7 ⟨x,H7,I7,r7,y7,st7,fr7⟩=>?_
    have I7':=I7.pinned (stat fr7) (T.obj _ _ st7)
    have hst:=hg' _ s7 _ H7 x u _ I7' r7 (hB x σt (zh4 ix σ) H7 (fun σ2 H2=>tt σ2 H2 fun b H3=>if b=true then te σ2 H3 fun y H4=>H4 D=some (.lst ys)/\ys.length<sizeLine/\∃m',m'<n/\W (i+1) m' (ys++[y]) (upd H4 D (.lst (ys++[y]))) else ∃m',m'<n/\W (i+1) m' ys H3) hσ (step x H7 y7))
    rw [hprog,hww,hxe] at hst
    refine thn hst fun _ s8 ⟨σ8,H8,I8,⟨vals,hvl,hσ8⟩,q8⟩=>?_
    have again:∀{H9:Hp} {s9:Shared},Inv Xc ([]++z8z fp s7.heap) σ8 H9 s9->tn (i+1) s9.heap/\∀b∈fp,H9 b=none:=fun {H9 s9} I9=>
     ⟨T.keep _ _ _ st7 fun b hb o e=>(I9.pin (b,o) (List.mem_append_right _ (List.mem_append_right _ (z3u hb e)))).1,fun b hb=>by
      obtain ⟨o,e,d⟩:=T.obj _ _ st7 b hb
      exact (I9.pin (b,o) (List.mem_append_right _ (List.mem_append_right _ (z3u hb e)))).2.1⟩
    subst hσ8
    have hts:=ht'.run I8 q8
    rw [hprog,hww,hxe] at hts
    refine thn hts fun ok s9 ⟨H9,I9,q9⟩=>?_
    cases ok with
    | false=>
     rw [if_neg Bool.false_ne_true] at q9 ⊢
     obtain ⟨m',hm,w9⟩:=q9
     obtain ⟨a1,a2⟩:=again I9
     exact ⟨m',hm,i+1,ys,vals.map some,H9,by simpa using hvl,I9.unpinned,a1,a2,w9⟩
    | true=>
     rw [if_pos rfl] at q9 ⊢
     have hev:=he' _ s9 _ H9 _ I9 q9
     rw [hprog,hww,hxe] at hev
     refine thn hev fun uy s10 ⟨y,H10,I10,r10,hD10,hz10,m',hm,w10⟩=>?_
     have hap:=z24 (X:=Xc) _ s10 _ H10 (.ref D) [y] (.ref D) [uy] (fun v H11=>v=.non/\H11=upd H10 D (.lst (ys++[y]))) I10 rfl (.cons r10 .nil) ⟨D,ys,y,rfl,rfl,hD10,hz10,rfl,rfl⟩
     rw [hprog,hww,hxe] at hap
     refine thn hap fun _ s11 ⟨v,H11,I11,_,_,e11⟩=>?_
     subst e11
     obtain ⟨a1,a2⟩:=again I11
     exact ⟨m',hm,i+1,ys++[y],vals.map some,_,by simpa using hvl,I11.unpinned,a1,a2,w10⟩
 refine codeAny_compStart_list (loop _ rfl) (T.self X.A 0 _ _ _ st4 (loop _ rfl))
theorem zee {wi:TI} (C:CompOk X sc caps ix) (hi:PI X tg iter wi) (hg:∀fp s H,PG (z0o X sc (tgs++caps) fp s H) tg g)
  (hB:∀(x:V) (σt cs:St) (H:Hp) (Q:St->Hp->Prop),σt.length=tgs.length->B x H (fun vals H2=>Q (vals.map some++cs) H2)->g x (σt++cs) H fun σ2 H2=>(∃vals:List V,vals.length=tgs.length/\σ2=vals.map some++cs)/\Q σ2 H2)
  (ht:∀fp s H,PTs (z0o X sc (tgs++caps) fp s H) ifs tt) (he:∀fp s H,PE (z0o X sc (tgs++caps) fp s H) elt te)
  (hs:∀x,foldedSetIterable iter X.env x=pure x:=by intro _;rfl):PE X (.ListComp elt [⟨tg,iter,ifs,0⟩] sc pos) (zcs wi B ix tt te):=by
 intro pins s σ H Q I h
 rw [eval_ListComp]
 refine wpAny_comprehension_free (use:=none) rfl hs (z4m (C.free_cell I)) C.kind C.names (thn (hi pins s σ H _ I h) fun v s1 h1=>thn h1 fun itv s2 h2=>?_)
 obtain ⟨it,fp,tn,J,H2,e,I2,T,st2,f2,hw⟩:=h2
 subst e
 refine z78 (RR:=fun acc Cc=>compPost (model X.prog X.w) X.A X.xe none (EP X pins σ Q) acc Cc) C hg hB ht he I2 T st2 f2 hw ?_
 intro D Cc H' s' m hn I' hfp q
 refine ⟨m,hn,fun h' sb=>⟨.ref D,H',?_,rfl,q⟩⟩
 exact I'.turned (t':=s'.toks) (fun b o hb e=>sb.extBut b o hb e) hfp.1 hfp.2.1 hfp.2.2.2.1 hfp.2.2.2.2.1 hfp.2.2.2.2.2
theorem zkz {wi:TI} {k:Nat} {x:Str} {spos px:Pos} (hN:X.N.Nodup) (hk:X.N[k]?=some x) (hx:X.env.scope.names.lookup x=some .local) (C:CompOk X sc caps ix) (hi:PI X tg iter wi) (hg:∀fp s H,PG (z0o X sc (tgs++caps) fp s H) tg g)
  (hB:∀(x:V) (σt cs:St) (H:Hp) (Q:St->Hp->Prop),σt.length=tgs.length->B x H (fun vals H2=>Q (vals.map some++cs) H2)->g x (σt++cs) H fun σ2 H2=>(∃vals:List V,vals.length=tgs.length/\σ2=vals.map some++cs)/\Q σ2 H2)
  (ht:∀fp s H,PTs (z0o X sc (tgs++caps) fp s H) ifs tt) (he:∀fp s H,PE (z0o X sc (tgs++caps) fp s H) elt te)
  (hsw:swapsWith (.ListComp elt [⟨tg,iter,ifs,0⟩] sc pos) (some (.Name x px)) spos.line X.env=pure true:=by rfl)
  (hs:∀x,foldedSetIterable iter X.env x=pure x:=by intro _;rfl):PS X (.Assign [.Name x px] (.ListComp elt [⟨tg,iter,ifs,0⟩] sc pos) spos) (zhd (zcs wi B ix tt te) (z34 k)):=by
 intro pins s σ H D0 I h
 rw [exec_Assign_Name_used _ _ _ _ hsw]
 refine wpAny_bind (wpAny_standAt (wpAny_bind ?_))
 show wpAny _ X.A (do let _ <-comprehension (.ListComp elt [⟨tg,iter,ifs,0⟩] sc pos) sc X.env _ (newList []) false (eval iter X.env) (some (assign (.Name x px) X.env))) _ _ s
 refine wpAny_bind (wpAny_mono (wpAny_comprehension_free (use:=some (assign (.Name x px) X.env)) (Q:=fun _ s'=>SP X pins D0 .next s') rfl hs (z4m (C.free_cell I)) C.kind C.names
  (thn (hi pins s σ H _ I h) fun v s1 h1=>thn h1 fun itv s2 h2=>?_)) (fun _ s' hq=>wpAny_pure (wpAny_pure hq)) fun _ _ e=>e)
 obtain ⟨it,fp,tn,J,H2,e,I2,T,st2,f2,hw⟩:=h2
 subst e
 refine z78 (RR:=fun acc Cc=>compPost (model X.prog X.w) X.A X.xe (some (assign (.Name x px) X.env)) (fun _ s'=>SP X pins D0 .next s') acc Cc) C hg hB ht he I2 T st2 f2 hw ?_
 intro D Cc H' s' m hn I' hfp q
 show wpAny _ X.A (assign (.Name x px) X.env (.ref D)) _ _ _
 refine wpAny_assign_Name (z8x I' hN hk (.inl hx) (v:=.ref D) rfl (fun s'' I'' hch=>?_) (.inr hx))
 obtain ⟨a,sb,ha⟩:=hch
 have hne:Cc≠a:=by
  rcases ha with z | z
  . rw [z];exact hfp.2.1
  . exact fun e=>hfp.2.2.2.2.1 x a z e.symm
 refine ⟨m,hn.sameBut sb hne,fun h' sb'=>⟨_,H',?_,q⟩⟩
 exact I''.turned (t':=s''.toks) (fun b o hb e=>sb'.extBut b o hb e) hfp.1 hfp.2.1 hfp.2.2.2.1 hfp.2.2.2.2.1 hfp.2.2.2.2.2
end
section
variable {X:Cx}
theorem PE.imp {e:Expr} {t t':TE} (h:PE X e t) (hi:∀σ H Q,t' σ H Q->t σ H Q):PE X e t':=fun pins s σ H Q I q=>h pins s σ H Q I (hi σ H Q q)
theorem PT.imp {e:Expr} {t t':TT} (h:PT X e t) (hi:∀σ H Q,t' σ H Q->t σ H Q):PT X e t':=fun pins s σ H Q I q=>h pins s σ H Q I (hi σ H Q q)
theorem OpR.imp {f:Value->Value->Sem Value} {r r':R2} (h:OpR X f r) (hi:∀x y H Q,r' x y H Q->r x y H Q):OpR X f r':=fun pins s σ H x y v u Q I rx ry q=>h pins s σ H x y v u Q I rx ry (hi x y H Q q)
theorem UnR.imp {f:Value->Sem Value} {r r':V->Hp->VK->Prop} (h:UnR X f r) (hi:∀x H Q,r' x H Q->r x H Q):UnR X f r':=fun pins s σ H x v Q I rx q=>h pins s σ H x v Q I rx (hi x H Q q)
theorem CallR.imp {f:Value} {r r':List V->Hp->VK->Prop} (h:CallR X f r) (hi:∀xs H Q,r' xs H Q->r xs H Q):CallR X f r':=fun pins s σ H xs us Q I rx q=>h pins s σ H xs us Q I rx (hi xs H Q q)
end
noncomputable def zag (i:Nat):TE:=fun σ H Q=>match σ[i]? with | some (some v)=>Q v H | _=>False
theorem pw {X:Cx} (i:Nat) {x:Str} {pos:Pos} (hN:X.N[i]?=some x:=by rfl) (hv:Vis X.env.scope x:=by first | exact Or.inl rfl | exact Or.inr (Or.inl rfl) | exact Or.inr (Or.inr rfl)) (hd:(x==("__debug__":Str))=false:=by decide)
  (hcd:(x==("__classdict__":Str))=false:=by decide):PE X (.Name x pos) (zag i):=
 (zdt hN hv hd hcd).imp fun σ H Q q=>by
  unfold zag at q
  unfold ztf
  split at q
  . rename_i v e;exact ⟨v,e,q⟩
  . exact q.elim
noncomputable def cI (g:Int->Int->V):R2:=fun x y H Q=>match x,y with | .int i,.int j=>Q (g i j) H | _,_=>False
noncomputable def cIC (C:Int->Int->Prop) (g:Int->Int->V):R2:=fun x y H Q=>match x,y with | .int i,.int j=>C i j/\Q (g i j) H | _,_=>False
theorem OpR.cI {X:Cx} {f:Value->Value->Sem Value} {g:Int->Int->V} (h:OpR X f (rI0 g)):OpR X f (cI g):=h.imp fun x y H Q q=>by
 cases x<;>cases y<;>first | exact ⟨_,_,rfl,rfl,q⟩ | exact q.elim
theorem OpR.cIC {X:Cx} {f:Value->Value->Sem Value} {C:Int->Int->Prop} {g:Int->Int->V} (h:OpR X f (rI C g)):OpR X f (cIC C g):=h.imp fun x y H Q q=>by
 cases x<;>cases y<;>first | exact ⟨_,_,rfl,rfl,q.1,q.2⟩ | exact q.elim
section
variable {X:Cx}
theorem z56:OpR X (binaryOp .Add) (cI fun i j=>.int (i+j)):=op_add.cI
theorem zol:OpR X (binaryOp .Sub) (cI fun i j=>.int (i - j)):=op_sub.cI
theorem zl0:OpR X (binaryOp .Mult) (cIC CMul fun i j=>.int (i * j)):=op_mul.cIC
theorem z9b:OpR X (binaryOp .FloorDiv) (cIC zkp fun i j=>.int (i / j)):=op_fdiv.cIC
theorem z4f:OpR X (binaryOp .Mod) (cIC (fun _ j=>0<j) fun i j=>.int (i % j)):=op_mod.cIC
theorem z82:OpR X (binaryOp .Pow) (cIC ze0 fun i j=>.int (i ^ j.toNat)):=op_pow.cIC
theorem ztq:OpR X (compareOp .Lt) (cI fun i j=>.bl (decide (i<j))):=op_lt.cI
theorem zx7:OpR X (compareOp .Gt) (cI fun i j=>.bl (decide (j<i))):=op_gt.cI
def cU (g:Int->V):V->Hp->VK->Prop:=fun x H Q=>match x with | .int i=>Q (g i) H | _=>False
theorem zl1:UnR X (unaryOp .USub) (cU fun i=>.int (-i)):=un_neg.imp fun x H Q q=>by
 cases x<;>first | exact ⟨_,rfl,q⟩ | exact q.elim
end
noncomputable def z5x (H:Hp) (p:Addr):Option (List V):=match H p with
 | some (.lst xs)=>some xs
 | some (.tup xs)=>some xs
 | some (.frz _ (.lst xs))=>some xs
 | some (.frz _ (.tup xs))=>some xs
 | _=>none
theorem zbg {K:Frag} {H:Hp} {p:Addr} {xs:List V} (h:z5x H p=some xs):SqL K H p xs\/SqT K H p xs:=by
 unfold z5x at h
 split at h
 all_goals first | (cases h;done) | skip
 . rename_i ys e;cases h;exact .inl (.inl (.inl e))
 . rename_i ys e;cases h;exact .inr (.inl (.inl e))
 . rename_i o ys e;cases h;exact .inl (.inl (.inr ⟨_,e⟩))
 . rename_i o ys e;cases h;exact .inr (.inl (.inr ⟨_,e⟩))
theorem zef {H:Hp} {p:Addr} {xs:List V} (h:H p=some (.lst xs)):z5x H p=some xs:=by unfold z5x;rw [h]
theorem zeg {H:Hp} {p:Addr} {xs:List V} (h:H p=some (.tup xs)):z5x H p=some xs:=by unfold z5x;rw [h]
noncomputable def cIx:R2:=fun x y H Q=>match x,y with
 | .ref p,.int i=>(match z5x H p with
  | some xs=>(match atI xs i with | some v=>Q v H | none=>False)
  | none=>False)
 | .str z,.int i=>z.length<=sizeLine/\(match atI z.cps.toList i with | some c=>Q (.str ⟨#[c]⟩) H | none=>False)
 | _,_=>False
def z9c (x:V) (H:Hp) (Q:Bool->Hp->Prop):Prop:=match x with
 | .bl b=>Q b H
 | .int i=>Q (i != 0) H
 | .non=>Q false H
 | .str y=>y.length<=sizeLine/\Q ((y.length:Int) != 0) H
 | .ref p=>(match z5x H p with
  | some xs=>Q (!xs.isEmpty) H
  | none=>(match H p with | some (.dK kvs)=>Q (!kvs.isEmpty) H | _=>False))
 | _=>False
theorem zbh {K:Frag} {x:V} {H:Hp} {Q:Bool->Hp->Prop} (h:z9c x H Q):∃k,zwb K x H k/\Q k H:=by
 cases x with
 | bl b=>exact ⟨b,rfl,h⟩
 | int i=>exact ⟨_,rfl,h⟩
 | non=>exact ⟨_,rfl,h⟩
 | str y=>exact ⟨_,⟨h.1,rfl⟩,h.2⟩
 | ref p=>
  unfold z9c at h
  dsimp only at h
  split at h
  . rename_i xs e
    rcases zbg (K:=K) e with z | z
    . exact ⟨_,.inl ⟨xs,z,rfl⟩,h⟩
    . exact ⟨_,.inr (.inl ⟨xs,z,rfl⟩),h⟩
  . split at h
    . rename_i kvs e;exact ⟨_,.inr (.inr ⟨kvs,e,rfl⟩),h⟩
    . exact h.elim
 | _=>exact h.elim
noncomputable def zx8 (t:TE):TT:=fun σ H Q=>t σ H fun x H'=>z9c x H' Q
section
variable {X:Cx} {a b c:Expr} {ta tb tc:TE} {pos:Pos}
theorem zom (ha:PE X a ta) (he:∀whole,isTrue a X.env whole=(do let v <-whole;standAt a.pos;holding [v] (truthy v)):=by intro _;rfl):PT X a (zx8 ta):=by
 intro pins s σ H Q I h
 exact isTrue_plain (thn (ha pins s σ H _ I h) fun v s1 ⟨x,H1,I1,r1,q1⟩=>zj7 pins s1 σ H1 x v Q I1 r1 (zbh q1)) (he _)
noncomputable def zl2 (t:TE):TT:=fun σ H Q=>t σ H fun x H'=>match x with | .bl k=>Q k H' | _=>False
theorem zl3 {op:CmpOp} {r:R2} (ho:OpR X (compareOp op) r) (ha:PE X a ta) (hb:PE X b tb) (hm:behindInMarks op b=false):PT X (.Compare a [op] [b] pos) (zl2 (tOp r ta tb)):=by
 intro pins s σ H Q I h
 refine wpAny_isTrue_Compare1 (thn (ha pins s σ H _ I h) fun v s1 ⟨x,H1,I1,r1,q1⟩=>thn (hb pins s1 σ H1 _ I1 q1) fun u s2 ⟨y,H2,I2,r2,q2⟩=>
  thn (ho pins s2 σ H2 x y v u _ I2 r1 r2 q2) fun c s3 ⟨z,H3,I3,r3,q3⟩=>?_) hm
 cases z<;>first | exact q3.elim | skip
 cases r3
 exact wpAny_truthy_bool ⟨H3,I3,q3⟩
end
section
variable {X:Cx} {a b c:Expr} {ta tb tc:TE} {pos:Pos}
noncomputable def zx9 (r:R2) (tb:TE) (t:V->TE):V->TE:=fun x σ H Q=>tb σ H fun y H2=>r x y H2 fun z H3=>match z with | .bl k=>(if k=true then t y σ H3 Q else Q (.bl false) H3) | _=>False
noncomputable def zon (ta tb:TE):TE:=fun σ H Q=>ta σ H fun x H1=>match x with | .bl c=>(if c=true then tb σ H1 Q else Q (.bl false) H1) | _=>False
end
section
variable {X:Cx} {a b c:Expr} {ta tb tc:TE} {pos:Pos} {rest:List Expr}
theorem zl4 (ha:PE X a ta) (hb:PE X (.BoolOp .And (b::rest) pos) tb):PE X (.BoolOp .And (a::b::rest) pos) (zon ta tb):=by
 intro pins s σ H Q I h
 refine BoolOp_and (thn (ha pins s σ H _ I h) fun v s1 ⟨x,H1,I1,r1,q1⟩=>?_)
 cases x<;>first | exact q1.elim | skip
 rename_i k
 cases r1
 refine wpAny_truthy_bool ?_
 cases k with
 | true=>exact ite_tt (hb pins s1 σ H1 Q I1 (by simpa using q1))
 | false=>exact ite_ff ⟨.bl false,H1,I1,rfl,by simpa using q1⟩
noncomputable def ztr (ta:TE):TE:=fun σ H Q=>ta σ H fun x H1=>z9c x H1 fun k H2=>Q (.bl (!k)) H2
theorem zl5 (ha:PE X a ta):PE X (.UnaryOp .Not a pos) (ztr ta):=by
 intro pins s σ H Q I h
 refine UnaryOp_ (thn (ha pins s σ H _ I h) fun v s1 ⟨x,H1,I1,r1,q1⟩=>not_of ?_)
 exact thn (zj7 pins s1 σ H1 x v _ I1 r1 (zbh q1)) fun k s2 ⟨H2,I2,q2⟩=>⟨.bl (!k),H2,I2,rfl,q2⟩
noncomputable def z83 (H:Hp):V->Option String
 | .non=>some "NoneType"
 | .bl _=>some "bool"
 | .int _=>some "int"
 | .str _=>some "str"
 | .ref a=>(match H a with
  | some (.lst _)=>some "list"
  | some (.frz _ (.lst _))=>some "list"
  | some (.tup _)=>some "tuple"
  | some (.dK _)=>some "dict"
  | some (.dT _)=>some "dict"
  | _=>none)
 | _=>none
noncomputable def zeh (t c:String):Bool:=t==c||(t=="bool"&&c=="int")
noncomputable def z68 (c:String):Bool:=["int","bool","str","list","tuple","dict"].contains c
theorem z1o {K:Frag} {t c:String} (ht:["NoneType","bool","int","str","list","tuple","dict"].contains t=true) (hc:z68 c=true):PySem.W.kitOne K (.type t) (.type c)=some (zeh t c):=by
 have h1:t="NoneType"\/t="bool"\/t="int"\/t="str"\/t="list"\/t="tuple"\/t="dict":=by simpa using ht
 have h2:c="int"\/c="bool"\/c="str"\/c="list"\/c="tuple"\/c="dict":=by simpa [z68] using hc
 rcases h1 with rfl | rfl | rfl | rfl | rfl | rfl | rfl<;>rcases h2 with rfl | rfl | rfl | rfl | rfl | rfl<;>first | rfl | (with_unfolding_all rfl)
theorem zhk:CallR X (.builtin "isinstance") (fun xs H Q=>match xs with
  | [x,.ty c]=>z68 c=true/\(match z83 H x with | some t=>Q (.bl (zeh t c)) H | none=>False)
  | _=>False):=by
 intro pins s σ H xs us Q I r h
 split at h
 . rename_i x c
   obtain ⟨hc,h⟩:=h
   obtain ⟨u,w',rfl,ru,rw'⟩:=ze1 r
   cases rw'
   split at h
   . rename_i t et
     have fin:∀(tk:Nat),EP X pins σ Q (.bool (zeh t c)) { s with toks:=tk }:=fun tk=>⟨.bl _,H,I.tok _,rfl,h⟩
     cases x<;>simp only [z83] at et
     case non=>cases et;exact z1n I ru .non (z1o (by decide) hc) fin
     case bl b=>cases et;exact z1n I ru (.bl b) (z1o (by decide) hc) fin
     case int b=>cases et;exact z1n I ru (.int b) (z1o (by decide) hc) fin
     case str b=>cases et;exact z1n I ru (.str b) (z1o (by decide) hc) fin
     case ref a=>
      split at et<;>first | (cases et;done) | skip
      . rename_i ys e;cases et;exact z1n I ru (.lst e) (z1o (by decide) hc) fin
      . rename_i o ys e;cases et;exact z1n I ru (.frz e) (z1o (by decide) hc) fin
      . rename_i ys e;cases et;exact z1n I ru (.tup e) (z1o (by decide) hc) fin
      . rename_i ys e;cases et;exact z1n I ru (.dK e) (z1o (by decide) hc) fin
      . rename_i ys e;cases et;exact z1n I ru (.dT e) (z1o (by decide) hc) fin
     all_goals cases et
   . exact h.elim
 . exact h.elim
theorem zoo (hc:X.calm=true):CallR X (.builtin "sum") (fun xs H Q=>match xs with
  | [.ref p]=>∃ns:List Int,z5x H p=some (ns.map V.int)/\Q (.int ns.sum) H
  | _=>False):=by
 intro pins s σ H xs us Q I r h
 split at h
 . rename_i p
   obtain ⟨ns,e,q⟩:=h
   obtain ⟨u,rfl,ru⟩:=z5w r
   cases ru
   have key:∀{its:List Value},Vals (ns.map V.int) its->∃ys:Array (Int×Tok),its.toArray=intItems ys/\preSum (numAt ys) ys.size=ns.sum:=fun {its} rv=>by
    have hi:=z2x rv
    obtain ⟨ys,hx⟩:=hi.allInts.items
    refine ⟨ys,hx,?_⟩
    have e1:ns=ys.toList.map (·.1):=by
     rw [<-nums_intItems,<-hx]
     exact (show numsOf its.toArray.toList=ns from hi.numsOf).symm
    rw [preSum_eq,List.take_of_length_le (by simp),e1]
   rcases zbg (K:=X.K) e with hq | hq
   . obtain ⟨its,rv,pl,_⟩:=I.list hq
     obtain ⟨ys,hx,es⟩:=key rv
     refine sum_intListG (I.ok.hd hc) (hx ▸ pl.isList) fun h' tk t' hk=>?_
     rw [es]
     exact ⟨.int ns.sum,H,I.kept hk,⟨_,rfl⟩,q⟩
   . obtain ⟨its,rv,pl,_⟩:=I.tuple hq
     obtain ⟨ys,hx,es⟩:=key rv
     refine PySem.W.ktm_sumG (I.ok.hd hc) (hx ▸ pl) fun h' tk t' hk=>?_
     rw [es]
     exact ⟨.int ns.sum,H,I.kept hk,⟨_,rfl⟩,q⟩
 . exact h.elim
abbrev zl6 (s:Shared) (L:Addr):List (Addr×Obj):=z63 (Att.noObjs s.heap) s.heap L
section
variable {pins:List (Addr×Obj)} {σ:St} {H:Hp} {s:Shared} {h':Heap} {m:Str->Option Value}
theorem z79 {L:Addr} (N:News (Att.noObjs s.heap) L h' (zl6 s L)):∀b o,b≠L->s.heap.get? b=some o->h'.get? b=some o:=fun b o hb e=>(N (b,o) (zaa hb (Att.noObjs_get _ _) e)).1
theorem Inv.frn {tk:Nat} (I:Inv X pins σ H s) (hn:s.heap.Ns X.env.locals m) (F:Fr (Att.noObjs s.heap) X.env.locals h' m) (N:News (Att.noObjs s.heap) X.env.locals h' (zl6 s X.env.locals)):Inv X pins σ H { s with heap:=h',toks:=tk }:=by
 have kept:=z79 N
 refine I.step (g':=s.gens) (d':=s.drawn) (ch:=[]) (fun _ z=>nomatch z) (fun b o hL _ _ e _=>kept b o hL e) (fun b o hL _ _ e _=>⟨o.slots,kept b o hL e⟩) (fun _ _ _ _ n=>n) (fun b o _ e=>?_) (fun _ _ e=>e) (fun _ _ _ e=>e) (fun b ps e=>⟨#[],by rw [e];simp⟩) (fun m' hm=>?_) (fun b u e=>?_) I.bare
 . by_cases hb:b=X.env.locals
   . subst hb
     obtain ⟨o',_,_,ho',_⟩:=F.ns
     exact ⟨o',ho'⟩
   . exact ⟨o,kept b o hb e⟩
 . rw [hm.eq_nsMap,<-hn.eq_nsMap];exact F.ns
 . refine (I.hok b u e).stay (fun c v hc q=>kept c v ?_ q) (fun _ q=>q) fun _ _ q=>q
   intro z
   rcases hc with hc | hc
   . rw [<-hc,z,I.free] at e;cases e
   . rw [z,I.free] at hc;cases hc
theorem Inv.frnew {tk:Nat} {D:Addr} {ob:Obj} {o:HO} (I:Inv X pins σ H s) (hn:s.heap.Ns X.env.locals m) (F:Fr (Att.noObjs s.heap) X.env.locals h' m) (N:News (Att.noObjs s.heap) X.env.locals h' ((D,ob)::zl6 s X.env.locals))
  (hD:s.heap.get? D=none) (new:ObjOk X.prog X.w (upd H D o) h' D o):H D=none/\Inv X pins σ (upd H D o) { s with heap:=h',toks:=tk }:=by
 have kept:=z79 (fun p hp=>N p (.tail _ hp))
 have hDL:D≠X.env.locals:=(N (D,ob) (.head _)).2.1
 have neD:∀b o,s.heap.get? b=some o->b≠D:=fun b o e z=>by rw [z,hD] at e;cases e
 have HD:H D=none:=by
  cases q:H D with
  | none=>rfl
  | some u=>
   have:=(I.hok D u q).lt
   obtain ⟨v,hv⟩:∃v,s.heap.get? D=some v:=by
    have z:=I.hok D u q
    cases u with
    | lst xs=>obtain ⟨_,_,_,_,e⟩:=z;exact ⟨_,e⟩
    | tup xs=>obtain ⟨_,_,_,o,e,_⟩:=z;exact ⟨_,e⟩
    | dK kvs=>obtain ⟨_,_,_,_,o,_,_,e,_⟩:=z;exact ⟨_,e⟩
    | dT kvs=>obtain ⟨_,_,_,_,o,_,_,e,_⟩:=z;exact ⟨_,e⟩
    | set S n=>obtain ⟨_,_,_,_,e,_⟩:=z;exact ⟨_,e⟩
    | ins C dx fs=>obtain ⟨_,_,_,e,_⟩:=z;exact ⟨_,e⟩
    | own x=>exact z
    | xd fs=>obtain ⟨mA,n1,_⟩:=z;obtain ⟨o,_,_,e,_⟩:=n1;exact ⟨o,e⟩
    | met f x=>exact ⟨_,z⟩
    | rng lo hi=>obtain ⟨_,_,_,e⟩:=z;exact ⟨_,e⟩
    | frz o u=>exact ⟨_,z.1⟩
    | tbl ps=>exact ⟨_,z⟩
    | ext φ=>exact z.2.1
   rw [hD] at hv;cases hv
 refine ⟨HD,I.step (g':=s.gens) (d':=s.drawn) (ch:=[]) (fun _ z=>nomatch z) (fun b o hL _ _ e _=>kept b o hL e) (fun b o hL _ _ e _=>⟨o.slots,kept b o hL e⟩) (fun b ob _ e n=>by rw [z0a (neD b ob e)];exact n) (fun b o _ e=>?_)
  (fun b xs e=>by rw [z0a (z08 e HD)];exact e) (fun b u xs e=>by rw [z0a (z08 e HD)];exact e) (fun b ps e=>⟨#[],by rw [z0a (z08 e HD),e];simp⟩) (fun m' hm=>?_) (fun b u e=>?_) I.bare⟩
 . by_cases hb:b=X.env.locals
   . subst hb
     obtain ⟨o',_,_,ho',_⟩:=F.ns
     exact ⟨o',ho'⟩
   . exact ⟨o,kept b o hb e⟩
 . rw [hm.eq_nsMap,<-hn.eq_nsMap];exact F.ns
 . by_cases hb:b=D
   . subst hb
     rw [z0r] at e
     cases e
     exact new
   . rw [z0a hb] at e
     refine (I.hok b u e).stay (fun c v hc q=>kept c v ?_ q) (fun c q=>?_) fun c xs q=>?_
     . intro z
       rcases hc with hc | hc
       . rw [<-hc,z,I.free] at e;cases e
       . rw [z,I.free] at hc;cases hc
     . rw [z0a (z08 q HD)];exact q
     . rw [z0a (z08 q HD)];exact q
end
theorem zah {bs:List Bool}:∀{us:List Value},Vals (bs.map V.bl) us->LSm.BoolsAre us bs:=by
 induction bs with
 | nil=>intro us r;cases r;exact .nil
 | cons b bs ih=>
  intro us r
  cases r with
  | cons r1 r2=>cases r1;exact .cons b (ih r2)
theorem zei (hc:X.calm=true):CallR X (.builtin "all") (fun xs H Q=>match xs with
  | [.ref p]=>∃bs:List Bool,Rd H p (.lst (bs.map V.bl))/\Q (.bl (bs.all id)) H
  | _=>False):=by
 intro pins s σ H xs us Q I r h
 split at h
 . rename_i p
   obtain ⟨bs,e,q⟩:=h
   obtain ⟨u,rfl,ru⟩:=z5w r
   cases ru
   obtain ⟨its,rv,pl,_⟩:=I.list (.inl e)
   obtain ⟨m,hn,_⟩:=id I.loc
   exact LSm.all_bools (Att.fr_all hn) (z7w (g:=Att.noObjs s.heap) (L:=X.env.locals)) (I.ok.hd hc) pl.isList (zah rv) fun h' tk F N=>⟨.bl _,H,I.frn hn F N,rfl,q⟩
 . exact h.elim
theorem zej:CallR X (.type "int") (fun xs H Q=>match xs with | [.int i]=>Q (.int i) H | [.bl k]=>Q (.int (if k then 1 else 0)) H | _=>False):=call_int1.imp fun xs H Q q=>by
 split at q
 . exact .inl ⟨_,rfl,q⟩
 . exact .inr ⟨_,rfl,q⟩
 . exact q.elim
theorem zct (hc:X.calm=true):CallR X (.builtin "max") (fun xs H Q=>match xs with | [.int i,.int j]=>Q (.int (if j > i then j else i)) H | _=>False):=(ze2 hc).imp fun xs H Q q=>by
 split at q
 . exact ⟨_,_,rfl,q⟩
 . exact q.elim
theorem zcu (hc:X.calm=true):CallR X (.builtin "min") (fun xs H Q=>match xs with | [.int i,.int j]=>Q (.int (if j<i then j else i)) H | _=>False):=(ze3 hc).imp fun xs H Q q=>by
 split at q
 . exact ⟨_,_,rfl,q⟩
 . exact q.elim
end
noncomputable def ItS (S:Hp->Prop) (xs:List V):It:=⟨fun i H=>S H/\i<xs.length,fun i H x H'=>H'=H/\xs[i]?=some x,fun i H=>S H/\xs.length<=i⟩
theorem Turn.conv {P:Program} {w:World} {K:Frag} {tg:Expr} {J J':It} {fp:List Addr} {it:Addr} {tn:Nat->Heap->Prop} (T:Turn P w K tg J fp it tn) (h1:∀i H,J'.go i H->J.go i H) (h2:∀i H x H',J'.go i H->J.yld i H x H'->J'.yld i H x H')
  (h3:∀i H,J'.stop i H->J.stop i H):Turn P w K tg J' fp it tn where
 mem:=T.mem
 obj:=T.obj
 keep:=T.keep
 item:=fun X a b c d i pins s σ H E I hf st hg=>thn (T.item X a b c d i pins s σ H E I hf st (h1 i H hg)) fun r s1 ⟨u,e,h⟩=>⟨u,e,thn h fun _ s2 ⟨x,H',I',r',y',st',fr'⟩=>⟨x,H',I',r',h2 i H x H' hg y',st',fr'⟩⟩
 done:=fun X a b c d i pins s σ H E I hf st hg=>T.done X a b c d i pins s σ H E I hf st (h3 i H hg)
 self:=T.self
section
variable {X:Cx} {tg:Expr}
def zni (x:V) (H1:Hp) (R:It->Hp->Prop):Prop:=match x with
 | .ref a=>(match H1 a with
  | some (.lst xs)=>R (ItS (fun H'=>Rd H' a (.lst xs)) xs) H1
  | some (.frz _ (.lst xs))=>R (ItS (fun H'=>Rd H' a (.lst xs)) xs) H1
  | some (.tup xs)=>R (ItS (fun H'=>H' a=some (.tup xs)) xs) H1
  | _=>False)
 | _=>False
theorem zhl {a:Addr} {H:Hp} {R:It->Hp->Prop} {xs:List V} (h:Rd H a (.lst xs)) (r:R (ItS (fun H'=>Rd H' a (.lst xs)) xs) H):zni (.ref a) H R:=by
 unfold zni
 rcases h with h | ⟨o,h⟩
 . dsimp only;rw [h];exact r
 . dsimp only;rw [h];exact r
theorem zhm {a:Addr} {H:Hp} {R:It->Hp->Prop} {xs:List V} (h:H a=some (.tup xs)) (r:R (ItS (fun H'=>H' a=some (.tup xs)) xs) H):zni (.ref a) H R:=by
 unfold zni
 dsimp only;rw [h];exact r
noncomputable def zxa (K:Frag) (tl:TE):TI:=fun σ H R=>tl σ H fun x H1=>zni x H1 R
theorem zop {l:Expr} {tl:TE} (hl:PE X l tl):PI X tg l (zxa X.K tl):=by
 intro pins s σ H R I h
 refine thn (hl pins s σ H _ I h) fun v s1 ⟨x,H1,I1,r1,q1⟩=>?_
 cases x<;>first | exact q1.elim | skip
 rename_i a
 cases r1
 unfold zni at q1
 dsimp only at q1
 have asList:∀xs,Rd H1 a (.lst xs)->R (ItS (fun H'=>Rd H' a (.lst xs)) xs) H1->wpAny (model X.prog X.w) X.A (pyIter (.ref a)) (PIE X pins σ tg R) X.xe s1:=fun xs hq q=>by
  obtain ⟨its,rv,p,hz⟩:=I1.list (.inl hq)
  refine wpAny_pyIter_list p.isList ?_
  refine ⟨s1.heap.objs.size,[s1.heap.objs.size],_,_,H1,rfl,I1.kept (t':=s1.toks) fun b o e=>Heap.get?_push_of_some _ e,(zdy a _).conv ?_ ?_ ?_,⟨_,Heap.get?_push_size _ rfl,rfl,rfl⟩,fun b hb=>?_,q⟩
  . exact fun i H' ⟨h1,h2⟩=>⟨xs,xs[i],.inl h1,by simp [h2]⟩
  . exact fun i H' x H'' ⟨h1,h2⟩ ⟨e,y⟩=>⟨e,y xs (.inl h1)⟩
  . exact fun i H' ⟨h1,h2⟩=>⟨xs,.inl h1,h2⟩
  . have e:b=s1.heap.objs.size:=by simpa using hb
    subst e
    exact I1.fpOk (Nat.le_refl _) (I1.hok.fresh (Nat.le_refl _))
 split at q1
 . rename_i xs e;exact asList xs (.inl e) q1
 . rename_i o xs e;exact asList xs (.inr ⟨o,e⟩) q1
 . rename_i xs e
   obtain ⟨its,rv,p,hz⟩:=I1.tuple (.of e)
   refine wpAny_pyIter_tuple (show s1.heap.IsTuple a its.toArray from p) ?_
   refine ⟨s1.heap.objs.size,[s1.heap.objs.size],_,_,H1,rfl,I1.kept (t':=s1.toks) fun b o e=>Heap.get?_push_of_some _ e,(zcn a _).conv ?_ ?_ ?_,⟨_,Heap.get?_push_size _ rfl,rfl,rfl⟩,fun b hb=>?_,q1⟩
   . exact fun i H' ⟨h1,h2⟩=>⟨xs,xs[i],.of h1,by simp [h2]⟩
   . exact fun i H' x H'' ⟨h1,h2⟩ ⟨e,y⟩=>⟨e,y xs (.of h1)⟩
   . exact fun i H' ⟨h1,h2⟩=>⟨xs,.of h1,h2⟩
   . have e:b=s1.heap.objs.size:=by simpa using hb
     subst e
     exact I1.fpOk (Nat.le_refl _) (I1.hok.fresh (Nat.le_refl _))
 . exact q1.elim
noncomputable def zdm (lo:Int) (n:Nat):List V:=(List.range n).map fun (i:Nat)=>V.int (lo+i)
theorem z4n (lo:Int) (n:Nat):(zdm lo n).length=n:=by simp [zdm]
theorem zek (lo:Int) (n i:Nat) (h:i<n):(zdm lo n)[i]?=some (.int (lo+i)):=by simp [zdm,h]
noncomputable def iR1 (ta:TA):TI:=fun σ H R=>ta σ H fun vs H1=>match vs with | [.int j]=>(-(2 ^ 62)<=j/\j<2 ^ 62)/\R (ItS (fun _=>True) (zdm 0 j.toNat)) H1 | _=>False
theorem z57 (lo:Int) (n:Nat):(∀i (H:Hp),(ItS (fun _=>True) (zdm lo n)).go i H->(Itr lo n).go i H)/\(∀i H x H',(ItS (fun _=>True) (zdm lo n)).go i H->(Itr lo n).yld i H x H'->(ItS (fun _=>True) (zdm lo n)).yld i H x H') /\
  (∀i (H:Hp),(ItS (fun _=>True) (zdm lo n)).stop i H->(Itr lo n).stop i H):=by
 refine ⟨fun i H ⟨_,h⟩=>?_,fun i H x H' ⟨_,h⟩ ⟨e,y⟩=>⟨e,?_⟩,fun i H ⟨_,h⟩=>?_⟩
 . rw [z4n] at h;exact h
 . rw [z4n] at h;rw [y];exact zek lo n i h
 . rw [z4n] at h;exact h
end
def zxb (J:It) (g:TG) (tb:TS) (D:Ends) (σ:St) (H1:Hp):Prop:=∃W:Nat->Nat->St->Hp->Prop,(∃m,W 0 m σ H1)/\∀i m σ H,W i m σ H ->
 (J.stop i H/\D.nx σ H)\/(J.go i H/\∃N:St->Hp->Prop,(∀σ' H',N σ' H'->∃m',m'<m/\W (i+1) m' σ' H')/\∀x H',J.yld i H x H'->g x σ H' fun σ2 H2=>tb { D with nx:=N,ct:=N,bk:=D.nx } σ2 H2)
noncomputable def zoq (wi:TI) (g:TG) (tb:TS):TS:=fun D σ H=>wi σ H fun J H1=>zxb J g tb D σ H1
theorem zl7 {X:Cx} {tg iter:Expr} {body:List Stmt} {wi:TI} {g:TG} {tb:TS} {pos:Pos} (hp:PassesOwn (model X.prog X.w) X.A X.env X.xe) (hc:X.calm=true) (hi:PI X tg iter wi) (hg:PG X tg g) (hb:PSs X body tb)
 (hs:∀x,foldedSetIterable iter X.env x=pure x:=by intro _;rfl):PS X (.For tg iter body [] pos) (zoq wi g tb):=zo8 hp hc hi hg hb hs
theorem Same.upd_new {H:Hp} {a:Addr} {o:HO} (h:H a=none):Same H (upd H a o):=fun b u e=>by rw [z0a (z08 e h)];exact e
theorem Same.upd_at {H H1:Hp} {a:Addr} {o:HO} (s:Same H H1) (h:H a=none):Same H (upd H1 a o):=fun b u e=>by rw [z0a (z08 e h)];exact s b u e
section
variable {X:Cx} {pins:List (Addr×Obj)} {σ:St} {H:Hp} {s:Shared} {tg:Expr}
theorem Inv.turnedT {wr:List Addr} {h':Heap} {tk:Nat} {T:Addr} {xs:List V} {its:List Value} (I:Inv X pins σ H s) (hw:∀b∈wr,zac X pins H b) (k:∀b o,b∉wr->s.heap.get? b=some o->h'.get? b=some o)
  (hT:s.heap.objs.size<=T) (ht:h'.IsTuple T its.toArray) (rv:Vals xs its) (hz:xs.length<=sizeLine):Inv X pins σ (upd H T (.tup xs)) { s with heap:=h',toks:=tk }:=by
 have HT:H T=none:=I.hok.fresh hT
 have nw:∀b u,H b=some u->b∉wr:=fun b u e z=>by rw [(hw b z).1] at e;cases e
 have neT:∀b o,s.heap.get? b=some o->b≠T:=fun b o e=>Nat.ne_of_lt (Nat.lt_of_lt_of_le (Heap.lt_size e) hT)
 refine I.step (g':=s.gens) (d':=s.drawn) (ch:=wr) (fun b hb=>⟨(hw b hb).2.2.2.1,(hw b hb).2.1,(hw b hb).2.2.2.2.1,(hw b hb).2.2.2.2.2⟩) (fun b o _ _ hc e _=>k b o hc e) (fun b o _ _ hc e _=>⟨o.slots,k b o hc e⟩)
  (fun b o _ e n=>by rw [z0a (neT b o e)];exact n) (fun b o hc e=>⟨o,k b o hc e⟩) (fun b ys e=>by rw [z0a (z08 e HT)];exact e) (fun b u ys e=>by rw [z0a (z08 e HT)];exact e)
  (fun b ps e=>⟨#[],by rw [z0a (z08 e HT),e];simp⟩) (fun m hm=>?_) (fun b u e=>?_) I.bare
 . obtain ⟨o,es,ep,ho,r⟩:=hm
   exact ⟨o,es,ep,k _ o (fun z=>(hw _ z).2.1 rfl) ho,r⟩
 . by_cases hb:b=T
   . subst hb
     rw [z0r] at e
     cases e
     exact ⟨hz,its,rv,ht⟩
   . rw [z0a hb] at e
     refine (I.hok b u e).stay (fun c v hc q=>k c v ?_ q) (fun c q=>?_) fun c ys q=>?_
     . rcases hc with z | z
       . rw [z];exact nw b u e
       . exact nw c _ z
     . rw [z0a (z08 q HT)];exact q
     . rw [z0a (z08 q HT)];exact q
end
section
variable {X:Cx} {pins:List (Addr×Obj)} {σ:St} {H:Hp} {s:Shared}
theorem Inv.turnedN {wr:List Addr} {h':Heap} {tk:Nat} (I:Inv X pins σ H s) (hw:∀b∈wr,zac X pins H b) (k:∀b o,b∉wr->s.heap.get? b=some o->h'.get? b=some o):Inv X pins σ H { s with heap:=h',toks:=tk }:=by
 have nw:∀b u,H b=some u->b∉wr:=fun b u e z=>by rw [(hw b z).1] at e;cases e
 refine I.step (g':=s.gens) (d':=s.drawn) (ch:=wr) (fun b hb=>⟨(hw b hb).2.2.2.1,(hw b hb).2.1,(hw b hb).2.2.2.2.1,(hw b hb).2.2.2.2.2⟩) (fun b o _ _ hc e _=>k b o hc e) (fun b o _ _ hc e _=>⟨o.slots,k b o hc e⟩)
  (fun b o _ e n=>n) (fun b o hc e=>⟨o,k b o hc e⟩) (fun b ys e=>e) (fun b u ys e=>e) (fun b ps e=>⟨#[],by rw [e];simp⟩) (fun m hm=>?_) (fun b u e=>?_) I.bare
 . obtain ⟨o,es,ep,ho,r⟩:=hm
   exact ⟨o,es,ep,k _ o (fun z=>(hw _ z).2.1 rfl) ho,r⟩
 . refine (I.hok b u e).stay (fun c v hc q=>k c v ?_ q) (fun c q=>q) fun c ys q=>q
   rcases hc with z | z
   . rw [z];exact nw b u e
   . exact nw c _ z
end
noncomputable def ItP (S:Hp->Prop) (ps:List (V×V)):It:=⟨fun i H=>S H/\i<ps.length,fun i H x H'=>∃T a b,x=.ref T/\H T=none/\H'=upd H T (.tup [a,b])/\ps[i]?=some (a,b),fun i H=>S H/\i=ps.length⟩
theorem zj8:2<=sizeLine:=by rw [sizeLine_eq];decide
theorem zel {P:Program} {w:World} {K:Frag} {elts:List Expr} {k:Nat} {pos:Pos} {e it l:Addr} {xs:List V} (hei:e≠it) (hle:l≠e) (hli:l≠it) :
  Turn P w K (.Tuple elts k pos) (ItP (fun H=>Rd H l (.lst xs)) ((zdm 0 xs.length).zip xs)) [e,it] e (fun i h=>(∃old,IsEnum h e it i old)/\h.IsListIter it l i) where
 mem:=by simp
 obj:=fun i h ⟨⟨old,he⟩,⟨o1,h1,_,d1⟩⟩ c hc=>by
  have hc':c=e\/c=it:=by simpa using hc
  rcases hc' with rfl | rfl
  . exact ⟨_,he,fun v z=>by cases z⟩
  . exact ⟨o1,h1,fun v z=>by rw [d1] at z;cases z⟩
 keep:=fun i h h' ⟨⟨old,he⟩,h1⟩ kp=>⟨⟨old,kp e (by simp) _ he⟩,h1.at fun o z=>kp it (by simp) o z⟩
 item:=by
  intro X hP hw hK hc i pins s σ H E I hf st hg
  subst hP hw hK
  obtain ⟨hS,hlt⟩:=hg
  obtain ⟨he,h1⟩:=st
  obtain ⟨its,r,p1,z1⟩:=I.list (.inl hS)
  have W:=WalksT.enumerate (prog:=X.prog) (w:=X.w) (A:=X.A) (I.ok.hd hc) e it l hei hle hli its.toArray
  have le1:=r.length
  have hlx:i<xs.length:=by rw [List.length_zip,z4n] at hlt;omega
  have hlz:i<its.toArray.size:=by simp only [List.size_toArray];omega
  refine W.item i s _ _ hlz ⟨he,h1,p1.isList⟩ fun T vals h' tk hPt hT ht hM hk=>⟨.ref T,rfl,?_⟩
  refine W.go elts k pos i T _ _ _ hM fun h'' hst'' hk''=>?_
  obtain ⟨t,x,hx,rfl⟩:=hPt
  obtain ⟨a,ea⟩:∃a,xs[i]?=some a:=⟨xs[i],by simp⟩
  obtain ⟨u1,q1,ru1⟩:=r.get ea
  have hx':its[i]?=some x:=by simpa using hx
  rw [q1] at hx';cases hx'
  obtain ⟨oT,hoT,hcT,nT,hdT⟩:=ht
  have ht'':h''.IsTuple T ([.int (i:Nat) t,x]:List Value).toArray:=⟨oT,hk'' T oT (W.apart i T _ hM) hoT,hcT,nT,hdT⟩
  have sub:∀c∈[e,it],zac X pins H c:=fun c hc'=>hf c hc'
  have I2:=I.turnedT (tk:=tk) (xs:=[.int (i:Nat),a]) (its:=[.int (i:Nat) t,x]) sub (fun c o hcw z=>hk'' c o hcw (hk c o hcw z)) hT ht'' (.cons ⟨_,rfl⟩ (.cons ru1 .nil)) zj8
  have HT:H T=none:=I.hok.fresh hT
  refine ⟨.ref T,upd H T (.tup [.int (i:Nat),a]),I2,rfl,⟨T,.int (i:Nat),a,rfl,HT,rfl,?_⟩,⟨hst''.1,hst''.2.1⟩,fun c hc'=>?_⟩
  . rw [List.getElem?_zip_eq_some]
    refine ⟨?_,ea⟩
    rw [zek 0 _ _ hlx];simp
  . rw [z0a]
    . exact (hf c hc').1
    . intro ec
      have hh:∃o,s.heap.get? c=some o:=by
       have hc'':c=e\/c=it:=by simpa using hc'
       obtain ⟨old,he'⟩:=he
       obtain ⟨o1,g1,_⟩:=h1
       rcases hc'' with z | z<;>subst z
       . exact ⟨_,he'⟩
       . exact ⟨_,g1⟩
      obtain ⟨o,ho⟩:=hh
      exact absurd (Nat.lt_of_lt_of_le (Heap.lt_size ho) hT) (by rw [ec];exact Nat.lt_irrefl _)
 done:=by
  intro X hP hw hK hc i pins s σ H E I hf st hg
  subst hP hw hK
  obtain ⟨hS,hle'⟩:=hg
  obtain ⟨he,h1⟩:=st
  obtain ⟨its,r,p1,z1⟩:=I.list (.inl hS)
  have W:=WalksT.enumerate (prog:=X.prog) (w:=X.w) (A:=X.A) (I.ok.hd hc) e it l hei hle hli its.toArray
  have le1:=r.length
  have hi:its.toArray.size=i:=by
   rw [List.length_zip,z4n] at hle'
   simp only [List.size_toArray];omega
  rw [<-hi] at h1 he
  exact W.done s _ _ ⟨he,h1,p1.isList⟩ fun h' tk hk=>⟨rfl,I.turnedN hf hk⟩
 self:=fun A i s Q E st h=>by
  obtain ⟨⟨old,he⟩,_⟩:=st
  exact wpAny_pyIter_enum he h
section
variable {X:Cx} {a b:Expr} {ta:TA} {p pos tpos:Pos} {elts:List Expr} {k:Nat}
noncomputable def zyb (ta:TA):TI:=fun σ H R=>ta σ H fun vs H1=>match vs with
 | [.ref l1,.ref l2]=>∃xs ys,Rd H1 l1 (.lst xs)/\Rd H1 l2 (.lst ys)/\R (ItP (fun H=>Rd H l1 (.lst xs)/\Rd H l2 (.lst ys)) (xs.zip ys)) H1
 | _=>False
noncomputable def zts (ta:TA):TI:=fun σ H R=>ta σ H fun vs H1=>match vs with
 | [.ref l]=>∃xs,Rd H1 l (.lst xs)/\R (ItP (fun H=>Rd H l (.lst xs)) ((zdm 0 xs.length).zip xs)) H1
 | _=>False
theorem zl8 (hg:Gl X "enumerate") (hm:X.mg "enumerate"=none) (ha:PA X [a] ta) (hs:starEach [a] X.env=[(false,eval a X.env)]:=by rfl) :
  PI X (.Tuple elts k tpos) (.Call (.Name "enumerate" p) [a] [] pos) (zts ta):=by
 intro pins s σ H R I h
 refine Call_ (z8y I hg hm boot_enumerate (PyProof.Rows.callWith_type1 (thn (ha pos pins s σ H _ I h) fun us s1 ⟨vs,H1,I1,r1,q1⟩=>?_) hs rfl))
 dsimp only at q1
 split at q1
 . rename_i l
   obtain ⟨xs,e1,q⟩:=q1
   obtain ⟨u,rfl,ru⟩:=z5w r1
   cases ru
   obtain ⟨its1,rr1,p1,_⟩:=I1.list (.inl e1)
   have lt1:l<s1.heap.objs.size:=by obtain ⟨o,ho,_⟩:=p1.isList;exact Heap.lt_size ho
   refine call_enumerate_list p1.isList fun h' he hi hsz hk=>?_
   refine wpAny_pyIter_enum he ⟨s1.heap.objs.size+1,[s1.heap.objs.size+1,s1.heap.objs.size],_,_,H1,rfl,I1.kept (t':=s1.toks) hk,zel (Nat.succ_ne_self _) (Nat.ne_of_lt (Nat.lt_succ_of_lt lt1)) (Nat.ne_of_lt lt1),⟨⟨_,he⟩,hi⟩,fun c hc=>?_,q⟩
   have hc':s1.heap.objs.size<=c:=by
    have:c=s1.heap.objs.size+1\/c=s1.heap.objs.size:=by simpa using hc
    rcases this with z | z<;>rw [z]<;>first | exact Nat.le_add_right _ _ | exact Nat.le_refl _
   exact I1.fpOk hc' (I1.hok.fresh hc')
 . exact q1.elim
end
section
variable {X:Cx} {tg:Expr} {a b:Expr} {ta:TA} {p pos:Pos}
theorem ztt (hg:Gl X "range") (hm:X.mg "range"=none) (ha:PA X [a] ta) (hs:starEach [a] X.env=[(false,eval a X.env)]:=by rfl):PI X tg (.Call (.Name "range" p) [a] [] pos) (iR1 ta):=by
 intro pins s σ H R I h
 refine Call_ (z8y I hg hm boot_range (PyProof.Rows.callWith_type1 (thn (ha pos pins s σ H _ I h) fun us s1 ⟨vs,H1,I1,r1,q1⟩=>?_) hs rfl))
 dsimp only at q1
 split at q1
 . rename_i j
   obtain ⟨⟨h1,h2⟩,q⟩:=q1
   obtain ⟨u,rfl,t,rfl⟩:=z5w r1
   refine call_range_1 (thn (zhe (tg:=tg) (R:=fun J H1=>∃J',(∀i H,J'.go i H->J.go i H)/\(∀i H x H',J'.go i H->J.yld i H x H'->J'.yld i H x H')/\(∀i H,J'.stop i H->J.stop i H)/\R J' H1) I1 (by omega) (by omega) h1 h2 ?_) fun itv s2 h2=>?_)
   . refine ⟨_,(z57 0 (j - 0).toNat).1,(z57 0 (j - 0).toNat).2.1,(z57 0 (j - 0).toNat).2.2,?_⟩
     simpa using q
   . obtain ⟨it,fp,tn,J,H2,e,I2,T,st,hf,J',c1,c2,c3,r⟩:=h2
     exact ⟨it,fp,tn,J',H2,e,I2,T.conv c1 c2 c3,st,hf,r⟩
 . exact q1.elim
end
def cB1:V->Hp->(List V->Hp->Prop)->Prop:=fun x H R=>R [x] H
def cBT (n:Nat):V->Hp->(List V->Hp->Prop)->Prop:=fun x H R=>match x with
 | .ref a=>(match H a with | some (.tup xs)=>xs.length=n/\R xs H | _=>False)
 | _=>False
section
variable {X:Cx} {sc:Scope} {caps:List Str} {ix:List Nat} {elt iter:Expr} {ifs:List Expr} {pos px py pz tpos:Pos} {tt:TT} {te:TE} {wi:TI} {x y z:Str} {kt:Nat}
theorem zxc (x:V) (σt cs:St) (H:Hp) (Q:St->Hp->Prop) (hl:σt.length=1) (h:cB1 x H (fun vals H2=>Q (vals.map some++cs) H2)):z34 0 x (σt++cs) H fun σ2 H2=>(∃vals:List V,vals.length=1/\σ2=vals.map some++cs)/\Q σ2 H2:=by
 match σt,hl with
 | [t],_=>exact ⟨⟨[x],rfl,rfl⟩,h⟩
theorem zxd {K:Frag} (x:V) (σt cs:St) (H:Hp) (Q:St->Hp->Prop) (hl:σt.length=2) (h:cBT 2 x H (fun vals H2=>Q (vals.map some++cs) H2)) :
  zo6 K 2 (z64 (z34 0) (z64 (z34 1) zo5)) x (σt++cs) H fun σ2 H2=>(∃vals:List V,vals.length=2/\σ2=vals.map some++cs)/\Q σ2 H2:=by
 cases x<;>first | exact h.elim | skip
 rename_i a
 unfold cBT at h
 dsimp only at h
 split at h
 . rename_i xs e
   obtain ⟨hn,h⟩:=h
   match σt,hl,xs,hn with
   | [t,t'],_,[v,v'],_=>exact ⟨a,[v,v'],rfl,.of e,rfl,v,[v'],rfl,v',[],rfl,rfl,⟨[v,v'],rfl,rfl⟩,h⟩
 . exact h.elim
theorem zxe {K:Frag} (x:V) (σt cs:St) (H:Hp) (Q:St->Hp->Prop) (hl:σt.length=3) (h:cBT 3 x H (fun vals H2=>Q (vals.map some++cs) H2)) :
  zo6 K 3 (z64 (z34 0) (z64 (z34 1) (z64 (z34 2) zo5))) x (σt++cs) H fun σ2 H2=>(∃vals:List V,vals.length=3/\σ2=vals.map some++cs)/\Q σ2 H2:=by
 cases x<;>first | exact h.elim | skip
 rename_i a
 unfold cBT at h
 dsimp only at h
 split at h
 . rename_i xs e
   obtain ⟨hn,h⟩:=h
   match σt,hl,xs,hn with
   | [t,t',t''],_,[v,v',v''],_=>exact ⟨a,[v,v',v''],rfl,.of e,rfl,v,[v',v''],rfl,v',[v''],rfl,v'',[],rfl,rfl,⟨[v,v',v''],rfl,rfl⟩,h⟩
 . exact h.elim
theorem znj {tgs:List Str} {i:Nat} {x:Str} {px:Pos} (hN:(tgs++caps).Nodup) (hi:(tgs++caps)[i]?=some x) (hx:sc.names.lookup x=some .local) (fp:List Addr) (s:Shared) (H:Hp):PG (z0o X sc (tgs++caps) fp s H) (.Name x px) (z34 i):=
 zab (X:=z0o X sc (tgs++caps) fp s H) hN hi (.inl (lookup_relabel_local hx)) (.inr (lookup_relabel_local hx))
theorem zhn (C:CompOk X sc caps ix) (hN:([x]++caps).Nodup) (hx:sc.names.lookup x=some .local) (hi:PI X (.Name x px) iter wi) (ht:∀fp s H,PTs (z0o X sc ([x]++caps) fp s H) ifs tt) (he:∀fp s H,PE (z0o X sc ([x]++caps) fp s H) elt te)
  (hs:∀x,foldedSetIterable iter X.env x=pure x:=by intro _;rfl):PE X (.ListComp elt [⟨.Name x px,iter,ifs,0⟩] sc pos) (zcs wi cB1 ix tt te):=
 zee (tgs:=[x]) C hi (fun fp s H=>znj hN rfl hx fp s H) zxc ht he hs
theorem ztu (hc:X.calm=true) (hN:([x,y]++caps).Nodup) (hx:sc.names.lookup x=some .local) (hy:sc.names.lookup y=some .local) (fp:List Addr) (s:Shared) (H:Hp) :
  PG (z0o X sc ([x,y]++caps) fp s H) (.Tuple [.Name x px,.Name y py] kt tpos) (zo6 X.K 2 (z64 (z34 0) (z64 (z34 1) zo5))):=
 zdx (X:=z0o X sc ([x,y]++caps) fp s H) hc (z3t (znj hN rfl hx fp s H) (z3t (znj hN rfl hy fp s H) pgs_nil))
theorem ztv (hc:X.calm=true) (hN:([x,y,z]++caps).Nodup) (hx:sc.names.lookup x=some .local) (hy:sc.names.lookup y=some .local) (hz:sc.names.lookup z=some .local) (fp:List Addr) (s:Shared) (H:Hp) :
  PG (z0o X sc ([x,y,z]++caps) fp s H) (.Tuple [.Name x px,.Name y py,.Name z pz] kt tpos) (zo6 X.K 3 (z64 (z34 0) (z64 (z34 1) (z64 (z34 2) zo5)))):=
 zdx (X:=z0o X sc ([x,y,z]++caps) fp s H) hc (z3t (znj hN rfl hx fp s H) (z3t (znj hN rfl hy fp s H) (z3t (znj hN rfl hz fp s H) pgs_nil)))
theorem zho {v:Str} {k:Nat} {spos pv:Pos} (hNX:X.N.Nodup) (hk:X.N[k]?=some v) (hv:X.env.scope.names.lookup v=some .local) (C:CompOk X sc caps ix) (hN:([x,y]++caps).Nodup) (hx:sc.names.lookup x=some .local) (hy:sc.names.lookup y=some .local)
  (hi:PI X (.Tuple [.Name x px,.Name y py] kt tpos) iter wi) (ht:∀fp s H,PTs (z0o X sc ([x,y]++caps) fp s H) ifs tt) (he:∀fp s H,PE (z0o X sc ([x,y]++caps) fp s H) elt te)
  (hsw:swapsWith (.ListComp elt [⟨.Tuple [.Name x px,.Name y py] kt tpos,iter,ifs,0⟩] sc pos) (some (.Name v pv)) spos.line X.env=pure true:=by rfl) (hs:∀x,foldedSetIterable iter X.env x=pure x:=by intro _;rfl) :
  PS X (.Assign [.Name v pv] (.ListComp elt [⟨.Tuple [.Name x px,.Name y py] kt tpos,iter,ifs,0⟩] sc pos) spos) (zhd (zcs wi (cBT 2) ix tt te) (z34 k)):=
 zkz (tgs:=[x,y]) hNX hk hv C hi (fun fp s H=>ztu C.calm hN hx hy fp s H) zxd ht he hsw hs
theorem zhp (C:CompOk X sc caps ix) (hN:([x,y,z]++caps).Nodup) (hx:sc.names.lookup x=some .local) (hy:sc.names.lookup y=some .local) (hz:sc.names.lookup z=some .local) (hi:PI X (.Tuple [.Name x px,.Name y py,.Name z pz] kt tpos) iter wi)
  (ht:∀fp s H,PTs (z0o X sc ([x,y,z]++caps) fp s H) ifs tt) (he:∀fp s H,PE (z0o X sc ([x,y,z]++caps) fp s H) elt te) (hs:∀x,foldedSetIterable iter X.env x=pure x:=by intro _;rfl) :
  PE X (.ListComp elt [⟨.Tuple [.Name x px,.Name y py,.Name z pz] kt tpos,iter,ifs,0⟩] sc pos) (zcs wi (cBT 3) ix tt te):=
 zee (tgs:=[x,y,z]) C hi (fun fp s H=>ztv C.calm hN hx hy hz fp s H) zxe ht he hs
noncomputable def zl9 (n:Nat) (t:TGs):TG:=fun v σ H Q=>match v with
 | .ref a=>(match H a with | some (.tup xs)=>xs.length=n/\t xs σ H Q | _=>False)
 | _=>False
noncomputable def zj9 (t:TG) (u:TGs):TGs:=fun vs σ H Q=>match vs with | v::r=>t v σ H fun σ' H'=>u r σ' H' Q | []=>False
noncomputable def zor:TGs:=fun vs σ H Q=>match vs with | []=>Q σ H | _=>False
theorem PGs.imp {es:List Expr} {t t':TGs} (h:PGs X es t) (hi:∀vs σ H Q,t' vs σ H Q->t vs σ H Q):PGs X es t':=fun pins s σ H vs us Q I r q=>h pins s σ H vs us Q I r (hi vs σ H Q q)
theorem PG.imp {e:Expr} {t t':TG} (h:PG X e t) (hi:∀v σ H Q,t' v σ H Q->t v σ H Q):PG X e t':=fun pins s σ H v u Q I r q=>h pins s σ H v u Q I r (hi v σ H Q q)
theorem zhq:PGs X [] zor:=pgs_nil.imp fun vs σ H Q q=>by
 cases vs with
 | nil=>exact ⟨rfl,q⟩
 | cons _ _=>exact q.elim
theorem zem {e:Expr} {es:List Expr} {t:TG} {u:TGs} (h1:PG X e t) (h2:PGs X es u) (hs:(assignEach (e::es) X.env).map (·.2)=assign e X.env::(assignEach es X.env).map (·.2):=by rfl):PGs X (e::es) (zj9 t u):=(z3t h1 h2 hs).imp fun vs σ H Q q=>by
 cases vs with
 | nil=>exact q.elim
 | cons v r=>exact ⟨v,r,rfl,q⟩
theorem zla {es:List Expr} {k:Nat} {t:TGs} {n:Nat} (hc:X.calm=true) (h:PGs X es t)
  (hn:(assignEach es X.env).length=n:=by rfl) (hst:(assignEach es X.env).findIdx? (·.1)=none:=by rfl):PG X (.Tuple es k pos) (zl9 n t):=(zdx hc h hn hst).imp fun v σ H Q q=>by
 cases v<;>first | exact q.elim | skip
 rename_i a
 unfold zl9 at q
 dsimp only at q
 split at q
 . rename_i xs e;exact ⟨a,xs,rfl,.of e,q.1,q.2⟩
 . exact q.elim
end
theorem zwj {α:Type} (a:α) (r:List α):atI (a::r) 0=some a:=z66 (j:=0) rfl
theorem zwk {α:Type} (a b:α) (r:List α):atI (a::b::r) 1=some b:=z66 (j:=1) rfl
section
variable {prog:Program} {w:World} {A:Around} {E:Value->Shared->Prop} {s:Shared}
theorem zbi {it t:Addr} {items:Array Value} (hne:t≠it):∀(n i:Nat) (s:Shared) (Q:List Value->Shared->Prop),s.heap.IsListIter it t i->s.heap.IsList t items->i+n<=items.size ->
  (∀h',h'.IsListIter it t (i+n)->Heap.SameBut it s.heap h'->Q ((items.toList.drop i).take n) { s with heap:=h' })->wpAny (model prog w) A (draw (.ref it) n) Q E s
 | 0,i,s,Q,hit,_,_,k=>by
  show wpAny _ _ (pure []) Q E s
  exact wpAny_pure (by simpa using k s.heap hit (Heap.SameBut.refl ..))
 | n+1,i,s,Q,hit,ht,hle,k=>by
  have hlt:i<items.size:=by omega
  show wpAny _ _ (pyNext (.ref it) >>= _) Q E s
  refine wpAny_bind (wpAny_pyNext_list_item hit ht (x:=items[i]) (by simp [hlt]) fun g1 it1 sb1=>?_)
  refine wpAny_bind (wpAny_holding (zbi hne n (i+1) _ _ it1 (ht.extBut sb1.extBut hne) (by omega) fun g2 it2 sb2=>wpAny_pure ?_))
  have hd:items.toList.drop i=items[i]::items.toList.drop (i+1):=by simp [List.drop_eq_getElem_cons,hlt]
  have z:=k g2 (by rw [show i+(n+1)=i+1+n by omega];exact it2) (sb1.trans sb2)
  rw [hd,List.take_succ_cons] at z
  exact z
theorem zen {t:Addr} {items:Array Value} {Q:List Value->Shared->Prop} (hh:A.handled=none) (ht:s.heap.IsList t items)
  (k:∀h',(∀b o,s.heap.get? b=some o->h'.get? b=some o)->Q items.toList { s with heap:=h' }):wpAny (model prog w) A (unpackItems (.ref t) items.size none) Q E s:=by
 have hlt:t≠s.heap.objs.size:=by obtain ⟨o,ho,_⟩:=ht;exact Nat.ne_of_lt (Heap.lt_size ho)
 have old:∀{b:Addr} {o:Obj},s.heap.get? b=some o->b≠s.heap.objs.size:=fun e=>Nat.ne_of_lt (Heap.lt_size e)
 unfold unpackItems
 refine wpAny_bind ?_
 . unfold notIterableAtAll
   refine wpAny_bind (wpAny_specialOf ht.typeIs slot_list_iter.lookup ?_)
   refine wpAny_pure ?_
   simp only [Bool.false_eq_true,if_false]
   refine wpAny_bind (wpAny_holding (wpAny_pyIter_list ht ?_))
   refine wpAny_bind (wpAny_holding (zbi hlt items.size 0 _ _ ⟨_,Heap.get?_push_size _ rfl,rfl,rfl⟩ (ht.push _) (by omega) fun g1 it1 sb1=>?_))
   have hall:List.take items.size (List.drop 0 items.toList)=items.toList:=by
    rw [List.drop_zero];exact List.take_of_length_le (by simp)
   rw [hall]
   rw [if_neg (by simp)]
   have ht1:g1.IsList t items:=(ht.push _).extBut sb1.extBut hlt
   refine wpAny_bind (wpAny_holding (wpAny_pyNext_list_end hh it1 ht1 (by simp) fun g2 eb2=>?_))
   simp only [Option.isSome_none,Bool.false_eq_true,if_false]
   exact wpAny_pure (k g2 fun b o e=>eb2 b o (old e) (sb1.extBut b o (old e) (Heap.get?_push_of_some _ e)))
theorem zcv {env:Env} {elts:List Expr} {x1} {pos:Pos} {t:Addr} {items:Array Value} {Q:Unit->Shared->Prop} (hh:A.handled=none) (ht:s.heap.IsList t items)
  (hn:(assignEach elts env).length=items.size) (hstar:(assignEach elts env).findIdx? (·.1)=none)
  (h:∀h',(∀b o,s.heap.get? b=some o->h'.get? b=some o)->wpAny (model prog w) A (assignInOrder ((assignEach elts env).map (·.2)) items.toList) Q E { s with heap:=h' }) :
  wpAny (model prog w) A (assign (.Tuple elts x1 pos) env (.ref t)) Q E s:=by
 rw [assign_Tuple]
 refine wpAny_bind (wpAny_standAt ?_)
 unfold unpack
 rw [hn,hstar]
 exact wpAny_bind (wpAny_holding (zen hh ht h))
end
section
variable {X:Cx} {pos:Pos}
noncomputable def zeo (n:Nat) (t:TGs):TG:=fun v σ H Q=>match v with
 | .ref a=>(match H a with
  | some (.tup xs)=>xs.length=n/\t xs σ H Q
  | some (.lst xs)=>xs.length=n/\t xs σ H Q
  | _=>False)
 | _=>False
theorem zlb {es:List Expr} {k:Nat} {t:TGs} {n:Nat} (hc:X.calm=true) (h:PGs X es t)
  (hn:(assignEach es X.env).length=n:=by rfl) (hst:(assignEach es X.env).findIdx? (·.1)=none:=by rfl):PG X (.Tuple es k pos) (zeo n t):=by
 intro pins s σ H v u Q I r hw
 cases v<;>first | exact hw.elim | skip
 rename_i a
 unfold zeo at hw
 dsimp only at hw
 split at hw
 . rename_i xs e
   exact zla hc h hn hst pins s σ H (.ref a) u Q I r (by unfold zl9;dsimp only;rw [e];exact hw)
 . rename_i xs e
   obtain ⟨hl,hw⟩:=hw
   cases r
   obtain ⟨its,rv,ht,hz⟩:=I.list (.of e)
   refine zcv (I.ok.hd hc) ht.isList (by simp [hn,<-hl,rv.length]) hst fun h' hx=>?_
   exact h pins _ σ H xs _ Q (I.kept (t':=s.toks) hx) (by simpa using rv) hw
 . exact hw.elim
theorem few {n:Nat} (h:n<=1000):n<=sizeLine:=Nat.le_of_lt (zed h)
def zt4:List V->Hp->VK->Prop:=fun xs H Q=>match xs with
 | [x,.ty c]=>z68 c=true/\(match z83 H x with | some t=>Q (.bl (zeh t c)) H | none=>False)
 | _=>False
def zxf:List V->Hp->VK->Prop:=fun xs H Q=>match xs with
 | [.ref p]=>∃ns:List Int,z5x H p=some (ns.map V.int)/\Q (.int ns.sum) H
 | _=>False
def zlc:List V->Hp->VK->Prop:=fun xs H Q=>match xs with
 | [.ref p]=>∃bs:List Bool,Rd H p (.lst (bs.map V.bl))/\Q (.bl (bs.all id)) H
 | _=>False
def zos:List V->Hp->VK->Prop:=fun xs H Q=>match xs with | [.int i]=>Q (.int i) H | [.bl k]=>Q (.int (if k then 1 else 0)) H | _=>False
def zld:List V->Hp->VK->Prop:=fun xs H Q=>match xs with | [.int i,.int j]=>Q (.int (if j > i then j else i)) H | _=>False
def zle:List V->Hp->VK->Prop:=fun xs H Q=>match xs with | [.int i,.int j]=>Q (.int (if j<i then j else i)) H | _=>False
section
variable {H:Hp} {Q:VK} {QB:Bool->Hp->Prop} {p q l b:Addr} {i j:Int} {x y:V} {a c:Bool} {cs:String} {vs:List V}
theorem zot:zt4 [x,.ty cs] H Q=(z68 cs=true/\(match z83 H x with | some t=>Q (.bl (zeh t cs)) H | none=>False)):=rfl
theorem zlf:zlc [.ref p] H Q=∃bs:List Bool,Rd H p (.lst (bs.map V.bl))/\Q (.bl (bs.all id)) H:=rfl
theorem zlg:zld [.int i,.int j] H Q=Q (.int (if j > i then j else i)) H:=rfl
theorem zlh:zle [.int i,.int j] H Q=Q (.int (if j<i then j else i)) H:=rfl
end
theorem ztw:CallR X (.builtin "isinstance") zt4:=zhk
theorem ztx (hc:X.calm=true):CallR X (.builtin "all") zlc:=zei hc
theorem zou:CallR X (.type "int") zos:=zej
theorem z7a (hc:X.calm=true):CallR X (.builtin "max") zld:=zct hc
theorem zja (hc:X.calm=true):CallR X (.builtin "min") zle:=zcu hc
end
inductive NK where
 | i (n:Int)
 | t (ks:List NK)
noncomputable instance:DecidableEq NK:=fun a b=>Classical.propDecidable (a=b)
mutual
noncomputable def NK.dep:NK->Nat
 | .i _=>0
 | .t ks=>z48 ks+1
noncomputable def z48:List NK->Nat
 | []=>0
 | k::ks=>max k.dep (z48 ks)
end
mutual
noncomputable def NK.hs:NK->Int
 | .i n=>hashInt n
 | .t ks=>reduceHash (Builtin.Tuple.tupleHashOf (zov ks))
noncomputable def zov:List NK->List Int
 | []=>[]
 | k::ks=>k.hs::zov ks
end
mutual
noncomputable def NK.dr:NK->Nat
 | .i _=>1
 | .t ks=>zt5 ks+1
noncomputable def zt5:List NK->Nat
 | []=>0
 | k::ks=>k.dr+zt5 ks
end
mutual
def NKv (h:Heap):NK->Value->Prop
 | .i n,v=>∃t,v=.int n t
 | .t ks,v=>∃a its,v=.ref a/\h.IsTuple a its/\NKvs h ks its.toList
def NKvs (h:Heap):List NK->List Value->Prop
 | [],vs=>vs=[]
 | k::ks,vs=>∃v r,vs=v::r/\NKv h k v/\NKvs h ks r
end
theorem NKvs.len {h:Heap}:∀{ks:List NK} {vs:List Value},NKvs h ks vs->ks.length=vs.length
 | [],_,q=>by simp only [NKvs] at q;rw [q];rfl
 | k::ks,_,q=>by
  simp only [NKvs] at q
  obtain ⟨v,r,rfl,_,q⟩:=q
  simp only [List.length_cons,NKvs.len q]
theorem zep {h:Heap} {a:Addr} {x y:Array Value} (p:h.IsTuple a x) (q:h.IsTuple a y):x=y:=by
 obtain ⟨o,e,c,n,d⟩:=p
 obtain ⟨o',e',c',n',d'⟩:=q
 rw [e] at e';cases e'
 rw [d] at d';cases d';rfl
mutual
theorem NKv.inj {h:Heap}:∀{k j:NK} {v:Value},NKv h k v->NKv h j v->k=j
 | .i n,.i m,v,p,q=>by
  simp only [NKv] at p q
  obtain ⟨t,rfl⟩:=p;obtain ⟨t',e⟩:=q
  cases e;rfl
 | .i n,.t ks,v,p,q=>by
  simp only [NKv] at p q
  obtain ⟨t,rfl⟩:=p;obtain ⟨_,_,e,_⟩:=q;cases e
 | .t ks,.i m,v,p,q=>by
  simp only [NKv] at p q
  obtain ⟨t,rfl⟩:=q;obtain ⟨_,_,e,_⟩:=p;cases e
 | .t ks,.t js,v,p,q=>by
  simp only [NKv] at p q
  obtain ⟨a,its,rfl,p1,p2⟩:=p
  obtain ⟨b,its',e,q1,q2⟩:=q
  cases e
  cases zep p1 q1
  rw [NKvs.inj p2 q2]
theorem NKvs.inj {h:Heap}:∀{ks js:List NK} {vs:List Value},NKvs h ks vs->NKvs h js vs->ks=js
 | [],[],_,_,_=>rfl
 | [],j::js,_,p,q=>by
  simp only [NKvs] at p q;subst p;obtain ⟨_,_,e,_⟩:=q;cases e
 | k::ks,[],_,p,q=>by
  simp only [NKvs] at p q;subst q;obtain ⟨_,_,e,_⟩:=p;cases e
 | k::ks,j::js,_,p,q=>by
  simp only [NKvs] at p q
  obtain ⟨v,r,rfl,p1,p2⟩:=p
  obtain ⟨_,_,e,q1,q2⟩:=q
  cases e
  rw [NKv.inj p1 q1,NKvs.inj p2 q2]
end
mutual
theorem NKv.stay {h h':Heap} (st:∀a its,h.IsTuple a its->h'.IsTuple a its):∀{k:NK} {v:Value},NKv h k v->NKv h' k v
 | .i n,v,p=>by simp only [NKv] at p ⊢;exact p
 | .t ks,v,p=>by
  simp only [NKv] at p ⊢
  obtain ⟨a,its,e,p1,p2⟩:=p
  exact ⟨a,its,e,st _ _ p1,NKvs.stay st p2⟩
theorem NKvs.stay {h h':Heap} (st:∀a its,h.IsTuple a its->h'.IsTuple a its):∀{ks:List NK} {vs:List Value},NKvs h ks vs->NKvs h' ks vs
 | [],_,p=>by simp only [NKvs] at p ⊢;exact p
 | k::ks,_,p=>by
  simp only [NKvs] at p ⊢
  obtain ⟨v,r,e,p1,p2⟩:=p
  exact ⟨v,r,e,NKv.stay st p1,NKvs.stay st p2⟩
end
section
variable {prog:Program} {w:World}
theorem zeq:∀(m:Nat) {k:NK} {v:Value} {A:Around} {E:Value->Shared->Prop} {s:Shared} {Q:Int->Shared->Prop},k.dep<=m->A.units+m<cLine->NKv s.heap k v->Q k.hs { s with toks:=s.toks+k.dr }->wpAny (model prog w) A (pyHash v) Q E s
 | m,.i n,v,A,E,s,Q,hd,hu,p,q=>by
  simp only [NKv] at p
  obtain ⟨t,rfl⟩:=p
  exact wpAny_pyHash_int q
 | 0,.t ks,v,A,E,s,Q,hd,hu,p,q=>by simp only [NK.dep] at hd;omega
 | m+1,.t ks,v,A,E,s,Q,hd,hu,p,q=>by
  simp only [NKv] at p
  obtain ⟨a,its,rfl,⟨o,e,c,n,d⟩,p2⟩:=p
  simp only [NK.dep] at hd
  show wpAny (model prog w) A (pyHashByItsType (.ref a)) Q E s
  refine W.pyHash_slot (T:="tuple") ⟨o,e,c⟩ F.slot_tuple_hash F.entry_tuple_hash (F.args_tuple_hash_1 _) rfl (.inr (by omega)) ?_
  refine wpAny_bind (wpAny_of_eq (show slotArgs "__hash__" 0 ⟨[.ref a],[]⟩=pure (.ref a,[]) from rfl) ?_)
  show wpAny (model prog w) A.in1 (Builtin.Tuple.tupleItemsOf (.ref a) >>= _) _ _ s
  refine wpAny_bind (wpAny_tupleItemsOf e d ?_)
  refine wpAny_bind ?_
  have go:∀(ks:List NK) (vs:List Value) (b:Array Int) (s':Shared) (Q':Array Int->Shared->Prop),z48 ks<=m->NKvs s'.heap ks vs->(∀b':Array Int,b'.toList=b.toList++zov ks->Q' b' { s' with toks:=s'.toks+zt5 ks }) ->
    wpAny (model prog w) A.in1 (forIn vs b fun x r=>do
     let h <-pyHash x
     pure (ForInStep.yield (r.push h))) Q' E s':=by
   intro ks
   induction ks with
   | nil=>
    intro vs b s' Q' _ p hq
    simp only [NKvs] at p;subst p
    exact wpAny_pure (hq b (by simp [zov]))
   | cons k ks ih=>
    intro vs b s' Q' hd p hq
    simp only [NKvs] at p
    obtain ⟨v,r,rfl,p1,p2⟩:=p
    simp only [z48] at hd
    rw [List.forIn_cons]
    refine wpAny_bind (wpAny_bind (zeq m (by omega) (by show A.units+1+m<cLine;omega) p1 ?_))
    refine wpAny_pure ?_
    refine ih r (b.push k.hs) _ Q' (by omega) p2 fun b' hb'=>?_
    have:=hq b' (by rw [hb'];simp [zov])
    simpa only [zt5,Nat.add_assoc] using this
  rw [<-Array.forIn_toList]
  refine go ks its.toList #[] s _ (by omega) p2 fun b' hb'=>?_
  show wpAny (model prog w) A.in1 (retInt (Builtin.Tuple.tupleHashOf b'.toList)) _ _ _
  refine wpAny_mono (wpAny_ret_mkInt (Q:=fun v s'=>∃n t,v=Value.int n t/\Q (reduceHash n) s') ⟨_,_,rfl,?_⟩) (fun fin s' h=>?_) fun _ _ h=>h
  . rw [hb']
    simpa only [NK.hs,NK.dr,Nat.add_assoc,List.nil_append] using q
  . obtain ⟨v,rfl,n,t,rfl,hq⟩:=h
    exact ⟨n,t,rfl,hq⟩
theorem zow {s:Shared}:∀(m:Nat) {k j:NK} {u v:Value} {A:Around},k.dep<=m->A.units+m<cLine->NKv s.heap k u->NKv s.heap j v->SeqAt.EqAt A s u v (decide (k=j))
 | m,.i n,.i n',u,v,A,hd,hu,p,q=>by
  simp only [NKv] at p q
  obtain ⟨t,rfl⟩:=p;obtain ⟨t',rfl⟩:=q
  have:decide (NK.i n=NK.i n')=(n==n'):=by
   by_cases h:n=n'
   . rw [h];simp
   . rw [decide_eq_false (fun e=>h (NK.i.inj e))];simp [h]
  rw [this]
  exact .int_int _ _ _ _
 | m,.i n,.t js,u,v,A,hd,hu,p,q=>by
  simp only [NKv] at p q
  obtain ⟨t,rfl⟩:=p;obtain ⟨a,its,rfl,q1,_⟩:=q
  rw [decide_eq_false (fun e=>by cases e)]
  exact .int_tuple _ _ q1 (by omega)
 | m,.t ks,.i n',u,v,A,hd,hu,p,q=>by
  simp only [NKv] at p q
  obtain ⟨t,rfl⟩:=q;obtain ⟨a,its,rfl,q1,_⟩:=p
  rw [decide_eq_false (fun e=>by cases e)]
  exact .tuple_int _ _ q1 (by omega)
 | 0,.t ks,.t js,u,v,A,hd,hu,p,q=>by simp only [NK.dep] at hd;omega
 | m+1,.t ks,.t js,u,v,A,hd,hu,p,q=>by
  have p0:=p
  have q0:=q
  simp only [NKv] at p q
  obtain ⟨a,its,rfl,p1,p2⟩:=p
  obtain ⟨b,its2,rfl,q1,q2⟩:=q
  simp only [NK.dep] at hd
  by_cases hab:a=b
  . subst hab
    rw [decide_eq_true (NKv.inj p0 q0)]
    exact .same _
  . have l1:=p2.len
    have l2:=q2.len
    simp only [Array.length_toList] at l1 l2
    have at':∀(ks:List NK) (vs:List Value),NKvs s.heap ks vs->∀j v,vs[j]?=some v->NKv s.heap (ks.getD j (.i 0)) v/\(ks.getD j (.i 0)).dep<=z48 ks:=by
     intro ks
     induction ks with
     | nil=>intro vs p j v e;simp only [NKvs] at p;subst p;simp at e
     | cons k ks ih=>
      intro vs p j v e
      simp only [NKvs] at p
      obtain ⟨v0,r,rfl,r1,r2⟩:=p
      cases j with
      | zero=>simp at e;subst e;exact ⟨r1,by simp only [List.getD_cons_zero,z48];omega⟩
      | succ j=>
       simp only [List.getElem?_cons_succ] at e
       obtain ⟨x1,x2⟩:=ih r r2 j v e
       exact ⟨x1,by simp only [List.getD_cons_succ,z48];omega⟩
    have q:=SeqAt.RcAt.tuples (A:=A) p1 q1 (by omega) (e:=fun j=>decide (ks.getD j (.i 0)=js.getD j (.i 0))) fun j h1 h2=>by
     obtain ⟨x1,x2⟩:=at' ks _ p2 j its[j] (by simp [h1])
     obtain ⟨y1,y2⟩:=at' js _ q2 j its2[j] (by simp [h2])
     exact zow m (by omega) (by show A.units+1+m<cLine;omega) x1 y1
    have eb:((List.range (min its.size its2.size)).all (fun j=>decide (ks.getD j (.i 0)=js.getD j (.i 0)))&&its.size==its2.size)=decide (NK.t ks=NK.t js):=by
     rw [Bool.eq_iff_iff,Bool.and_eq_true,List.all_eq_true,decide_eq_true_eq,beq_iff_eq]
     constructor
     . rintro ⟨h1,h2⟩
       congr 1
       refine List.ext_getElem (by omega) fun j hj hj'=>?_
       have:=h1 j (List.mem_range.mpr (by omega))
       rw [decide_eq_true_eq,List.getD_eq_getElem?_getD,List.getD_eq_getElem?_getD,List.getElem?_eq_getElem hj,List.getElem?_eq_getElem hj'] at this
       exact this
     . intro e
       cases e
       exact ⟨fun j _=>decide_eq_true rfl,by omega⟩
    rw [eb] at q
    exact .of_refs hab q
end
section
variable {prog:Program} {w:World}
theorem zbj {A:Around} {E:Value->Shared->Prop} {s:Shared}:∀(m:Nat) {k:NK} {v:Value} {Q:Bool->Shared->Prop},k.dep<=m->NKv s.heap k v->Q true s->wpAny (model prog w) A (eqIsQuiet m v) Q E s
 | m,.i n,v,Q,hd,p,q=>by
  simp only [NKv] at p
  obtain ⟨t,rfl⟩:=p
  rw [eqIsQuiet.eq_3 _ _ (fun a e=>by cases e)]
  exact wpAny_pure q
 | 0,.t ks,v,Q,hd,p,q=>by simp only [NK.dep] at hd;omega
 | m+1,.t ks,v,Q,hd,p,q=>by
  simp only [NKv] at p
  obtain ⟨a,its,rfl,⟨o,e,c,n,d⟩,p2⟩:=p
  simp only [NK.dep] at hd
  rw [eqIsQuiet.eq_2]
  refine wpAny_bind (wpAny_specialOf (T:="tuple") ⟨o,e,c⟩ F.slot_tuple_eq.lookup ?_)
  show wpAny (model prog w) A (isInstance (.ref a) (.type "tuple") >>= _) _ _ s
  refine wpAny_bind (wpAny_isInstance (T:="tuple") (b:=true) ⟨o,e,c⟩ (by rfl) ?_)
  show wpAny (model prog w) A (seqItems? (.ref a) >>= _) _ _ s
  refine wpAny_bind (wpAny_seqItems e d ?_)
  refine wpAny_bind ?_
  have go:∀(ks:List NK) (vs:List Value) (Q':Option Bool×Unit->Shared->Prop),z48 ks<=m->NKvs s.heap ks vs->Q' (none,()) s ->
    wpAny (model prog w) A (forIn vs ((none,()):Option Bool×Unit) fun y __s=>do
     let __do_lift <-eqIsQuiet m y
     if (!__do_lift)=true then pure (ForInStep.done (some false,()))
      else pure (ForInStep.yield (none,()))) Q' E s:=by
   intro ks
   induction ks with
   | nil=>
    intro vs Q' _ p hq
    simp only [NKvs] at p;subst p
    exact wpAny_pure hq
   | cons k ks ih=>
    intro vs Q' hd p hq
    simp only [NKvs] at p
    obtain ⟨v,r,rfl,p1,p2⟩:=p
    simp only [z48] at hd
    rw [List.forIn_cons]
    refine wpAny_bind (wpAny_bind (zbj m (by omega) p1 ?_))
    refine wpAny_pure ?_
    exact ih r Q' (by omega) p2 hq
  show wpAny (model prog w) A (forIn its ((none,()):Option Bool×Unit) _) _ _ s
  rw [<-Array.forIn_toList]
  refine go ks its.toList _ (by omega) p2 ?_
  exact wpAny_pure q
noncomputable def deepKind (prog:Program) (w:World):HeapKind prog w NK where
 is:=fun h k a=>NKv h k (.ref a)/\k.dep<=8
 hash:=NK.hs
 draws:=NK.dr
 room:=fun A=>A.units+8<cLine
 inj:=fun p q=>NKv.inj p.1 q.1
 keeps:=fun {h h' k a d o es ep} p e eo sb=>⟨NKv.stay (fun b its t=>by
  obtain ⟨ob,eb,cb,n,db⟩:=t
  have hne:b≠d:=fun z=>by
   subst z
   rw [e] at eb;cases eb
   rw [eo] at db;cases db
  exact ⟨ob,(sb.2 b hne).trans eb,cb,n,db⟩) p.1,p.2⟩
 pyHash:=fun {A E s k a Q} hr p q=>zeq 8 p.2 hr p.1 q
 eqBool:=fun {A E s x y a b Q} hr p p' q=>zow 8 p.2 hr p.1 p'.1 prog w E Q q
 quiet:=fun {A E s k a Q} p q=>zbj 8 p.2 p.1 q
end
noncomputable def dnE (x:NK×Addr×Value):DictEntry:={ hash:=x.1.hs,key:=.ref x.2.1,val:=x.2.2 }
def dnP (a:Addr) (ks:List (NK×Addr)) (xs:List V) (o:Obj) (h:Heap):Prop:=
 h.get? a=some o/\∃(vs:List Value) (es:Array DictEntry) (ep:Nat),Vals xs vs/\ks.length=vs.length/\o.ExactDict/\o.data=.dict es ep/\es.toList=((ks.zip vs).map fun q=>(q.1.1,q.1.2,q.2)).map dnE
theorem dnP.stay {a:Addr} {ks:List (NK×Addr)} {xs:List V} {o:Obj}:∀h1 h2:Heap,dnP a ks xs o h1->(∀o,h1.get? a=some o->h2.get? a=some o)->dnP a ks xs o h2:=fun _ _ p k=>⟨k _ p.1,p.2⟩
mutual
def NKr (H:Hp):NK->V->Prop
 | .i n,v=>v=.int n
 | .t ks,v=>∃a ys,v=.ref a/\H a=some (.tup ys)/\NKrs H ks ys
def NKrs (H:Hp):List NK->List V->Prop
 | [],vs=>vs=[]
 | k::ks,vs=>∃v r,vs=v::r/\NKr H k v/\NKrs H ks r
end
mutual
theorem NKr.mono {H H':Hp} (st:∀a ys,H a=some (.tup ys)->H' a=some (.tup ys)):∀{k:NK} {v:V},NKr H k v->NKr H' k v
 | .i n,v,p=>by simp only [NKr] at p ⊢;exact p
 | .t ks,v,p=>by
  simp only [NKr] at p ⊢
  obtain ⟨a,ys,e,p1,p2⟩:=p
  exact ⟨a,ys,e,st _ _ p1,NKrs.mono st p2⟩
theorem NKrs.mono {H H':Hp} (st:∀a ys,H a=some (.tup ys)->H' a=some (.tup ys)):∀{ks:List NK} {vs:List V},NKrs H ks vs->NKrs H' ks vs
 | [],_,p=>by simp only [NKrs] at p ⊢;exact p
 | k::ks,_,p=>by
  simp only [NKrs] at p ⊢
  obtain ⟨v,r,e,p1,p2⟩:=p
  exact ⟨v,r,e,NKr.mono st p1,NKrs.mono st p2⟩
end
section
variable {X:Cx} {pins:List (Addr×Obj)} {σ:St} {H:Hp} {s:Shared}
mutual
theorem zhr (I:Inv X pins σ H s):∀{k:NK} {x:V} {u:Value},NKr H k x->RelV x u->NKv s.heap k u
 | .i n,x,u,p,r=>by
  simp only [NKr] at p;subst p
  obtain ⟨t,rfl⟩:=r
  simp only [NKv];exact ⟨t,rfl⟩
 | .t ks,x,u,p,r=>by
  simp only [NKr] at p
  obtain ⟨a,ys,rfl,p1,p2⟩:=p
  cases r
  obtain ⟨its,r1,t1,_⟩:=I.tuple (.of p1)
  simp only [NKv]
  exact ⟨a,its.toArray,rfl,t1,zjb I p2 r1⟩
theorem zjb (I:Inv X pins σ H s):∀{ks:List NK} {xs:List V} {us:List Value},NKrs H ks xs->Vals xs us->NKvs s.heap ks us
 | [],_,_,p,r=>by simp only [NKrs] at p;subst p;cases r;simp only [NKvs]
 | k::ks,_,_,p,r=>by
  simp only [NKrs] at p
  obtain ⟨v,q,rfl,p1,p2⟩:=p
  cases r with
  | cons a1 a2=>
   simp only [NKvs]
   exact ⟨_,_,rfl,zhr I p1 a1,zjb I p2 a2⟩
end
end
def KL (K:Frag) (a:Addr) (xs:List V):Prop:=∃(o:Obj) (its:Array Value) (n:Nat),K.lookup a=some o/\o.cls=.type "list"/\o.dict=none/\o.data=.seq its n/\its.size<=sizeLine/\Vals xs its.toList
def XO (K:Frag) (c:String) (a:Addr) (o:HO):Prop:=∃C:Addr,nsIn K mainGlobals (c:Str)=some (some (.ref C))/\o=.ext fun h=>∃ob,h.get? a=some ob/\ob.cls=.ref C/\∃vs,ob.data=.fields vs
inductive D where
 | non | bl (b:Bool) | int (i:Int) | str (x:Str) | tup (ds:List D) | lst (ds:List D)
 | dk (ks:List Key) (ds:List D) | dt (ks:List (List Key)) (ds:List D) | dn (ks:List NK) (ds:List D) | scr (ns:List Int) | exc (c:String)
def DN (H:Hp) (a:Addr) (qs:List (NK×Addr)):Prop:=(qs.map (·.1)).Nodup/\(∀q∈qs,NKr H q.1 (.ref q.2)/\q.1.dep<=8)/\(a==sysModules)=false/\qs.length<=sizeLine
theorem DN.tk {H H':Hp} {a:Addr} {qs:List (NK×Addr)} (h:DN H a qs) (st:∀a ys,H a=some (.tup ys)->H' a=some (.tup ys)):DN H' a qs:=
 ⟨h.1,fun q hq=>⟨NKr.mono st (h.2.1 q hq).1,(h.2.1 q hq).2⟩,h.2.2⟩
mutual
def RD (K:Frag) (H:Hp):D->V->Prop
 | .non,v=>v=.non
 | .bl b,v=>v=.bl b
 | .int i,v=>v=.int i
 | .str x,v=>v=.str x
 | .tup ds,v=>∃a xs,v=.ref a/\H a=some (.tup xs)/\RDs K H ds xs
 | .lst ds,v=>∃a xs,v=.ref a/\H a=some (.lst xs)/\RDs K H ds xs
 | .dk ks ds,v=>∃a xs,v=.ref a/\H a=some (.dK (ks.zip xs))/\ks.length=xs.length/\RDs K H ds xs
 | .dt ks ds,v=>∃a xs,v=.ref a/\H a=some (.dT (ks.zip xs))/\ks.length=xs.length/\RDs K H ds xs
 | .dn ks ds,v=>∃a qs xs o,v=.ref a/\H a=some (.ext (dnP a qs xs o))/\qs.map (·.1)=ks/\DN H a qs/\RDs K H ds xs
 | .scr ns,v=>∃a,v=.ref a/\((∃o,H a=some (.frz o (.lst (ns.map V.int))))\/KL K a (ns.map V.int))
 | .exc c,v=>∃a o,v=.ref a/\XO K c a o/\H a=some o
def RDs (K:Frag) (H:Hp):List D->List V->Prop
 | [],xs=>xs=[]
 | d::ds,xs=>∃x r,xs=x::r/\RD K H d x/\RDs K H ds r
end
mutual
noncomputable def D.noL:D->Bool
 | .lst _=>false
 | .dk _ _=>false
 | .dt _ _=>false
 | .dn _ _=>false
 | .tup ds=>z3l ds
 | _=>true
noncomputable def z3l:List D->Bool
 | []=>true
 | d::ds=>d.noL&&z3l ds
end
mutual
noncomputable def D.pl:D->Bool
 | .dk _ _=>false
 | .dt _ _=>false
 | .dn _ _=>false
 | .scr _=>false
 | .exc _=>false
 | .tup ds=>pls ds
 | .lst ds=>pls ds
 | _=>true
noncomputable def pls:List D->Bool
 | []=>true
 | d::ds=>d.pl&&pls ds
end
noncomputable def D.shal:D->Bool
 | .lst ds=>z3l ds
 | .dk _ ds=>z3l ds
 | .dt _ ds=>z3l ds
 | .dn _ ds=>z3l ds
 | d=>d.noL
def Imm:HO->Prop
 | .tup _=>True
 | .frz _ _=>True
 | .ext φ=>∀a qs xs o,φ≠dnP a qs xs o
 | _=>False
theorem XO.imm {K:Frag} {c:String} {a:Addr} {o:HO} (h:XO K c a o):Imm o:=by
 obtain ⟨C,_,rfl⟩:=h
 intro b qs xs o0 e
 obtain ⟨ob,hob⟩:∃ob:Obj,ob={ cls:=.ref C,data:=.fields #[] }:=⟨_,rfl⟩
 have hg:∀(i:Nat) (o:Obj),({ objs:=Array.replicate (a+1) ob }:Heap).get? i=some o->o=ob:=fun i o q=>by
  by_cases hi:i<a+1
  . have z:({ objs:=Array.replicate (a+1) ob }:Heap).get? i=some ob:=by
     unfold Heap.get?
     rw [Array.getElem?_replicate,if_pos hi,hob]
    rw [z] at q;cases q;rfl
  . unfold Heap.get? at q
    rw [Array.getElem?_replicate,if_neg hi] at q;cases q
 have h1:(fun h:Heap=>∃ob,h.get? a=some ob/\ob.cls=.ref C/\∃vs,ob.data=.fields vs) { objs:=Array.replicate (a+1) ob }:=by
  refine ⟨ob,?_,by rw [hob],#[],by rw [hob]⟩
  unfold Heap.get?
  rw [Array.getElem?_replicate,if_pos (Nat.lt_succ_self a),hob]
 rw [e] at h1
 obtain ⟨g,vs,es,ep,_,_,_,d,_⟩:=h1
 rw [hg _ _ g,hob] at d
 cases d
def TK (H H':Hp):Prop:=∀a o,Imm o->H a=some o->H' a=some o
section
variable {K:Frag} {H H':Hp}
mutual
theorem RD.tk (hs:TK H H'):∀{d:D} {v:V},d.noL=true->RD K H d v->RD K H' d v
 | .non,_,_,h=>by simp only [RD] at h ⊢;exact h
 | .bl _,_,_,h=>by simp only [RD] at h ⊢;exact h
 | .int _,_,_,h=>by simp only [RD] at h ⊢;exact h
 | .str _,_,_,h=>by simp only [RD] at h ⊢;exact h
 | .tup ds,_,n,h=>by
  simp only [RD] at h ⊢
  obtain ⟨a,xs,e,h1,h2⟩:=h
  exact ⟨a,xs,e,hs _ _ trivial h1,RDs.tk hs (by simpa only [D.noL] using n) h2⟩
 | .lst ds,_,n,h=>by simp [D.noL] at n
 | .dk _ ds,_,n,h=>by simp [D.noL] at n
 | .dt _ ds,_,n,h=>by simp [D.noL] at n
 | .dn _ ds,_,n,h=>by simp [D.noL] at n
 | .exc c,_,n,h=>by
  simp only [RD] at h ⊢
  obtain ⟨a,o,e,h1,h2⟩:=h
  exact ⟨a,o,e,h1,hs _ _ h1.imm h2⟩
 | .scr ns,_,n,h=>by
  simp only [RD] at h ⊢
  obtain ⟨a,e,h1⟩:=h
  refine ⟨a,e,?_⟩
  rcases h1 with ⟨o,h1⟩ | h1
  . exact .inl ⟨o,hs _ _ trivial h1⟩
  . exact .inr h1
theorem RDs.tk (hs:TK H H'):∀{ds:List D} {xs:List V},z3l ds=true->RDs K H ds xs->RDs K H' ds xs
 | [],_,_,h=>by simp only [RDs] at h ⊢;exact h
 | d::ds,_,n,h=>by
  simp only [RDs] at h ⊢
  simp only [z3l,Bool.and_eq_true] at n
  obtain ⟨x,r,e,h1,h2⟩:=h
  exact ⟨x,r,e,RD.tk hs n.1 h1,RDs.tk hs n.2 h2⟩
end
mutual
theorem RD.mono (hs:Same H H'):∀{d:D} {v:V},RD K H d v->RD K H' d v
 | .non,_,h=>by simp only [RD] at h ⊢;exact h
 | .bl _,_,h=>by simp only [RD] at h ⊢;exact h
 | .int _,_,h=>by simp only [RD] at h ⊢;exact h
 | .str _,_,h=>by simp only [RD] at h ⊢;exact h
 | .tup ds,_,h=>by
  simp only [RD] at h ⊢
  obtain ⟨a,xs,e,h1,h2⟩:=h
  exact ⟨a,xs,e,hs _ _ h1,RDs.mono hs h2⟩
 | .lst ds,_,h=>by
  simp only [RD] at h ⊢
  obtain ⟨a,xs,e,h1,h2⟩:=h
  exact ⟨a,xs,e,hs _ _ h1,RDs.mono hs h2⟩
 | .dk _ ds,_,h=>by
  simp only [RD] at h ⊢
  obtain ⟨a,xs,e,h1,hl,h2⟩:=h
  exact ⟨a,xs,e,hs _ _ h1,hl,RDs.mono hs h2⟩
 | .dn _ ds,_,h=>by
  simp only [RD] at h ⊢
  obtain ⟨a,qs,xs,o,e,h1,hk,hd,h2⟩:=h
  exact ⟨a,qs,xs,o,e,hs _ _ h1,hk,hd.tk fun b ys q=>hs _ _ q,RDs.mono hs h2⟩
 | .dt _ ds,_,h=>by
  simp only [RD] at h ⊢
  obtain ⟨a,xs,e,h1,hl,h2⟩:=h
  exact ⟨a,xs,e,hs _ _ h1,hl,RDs.mono hs h2⟩
 | .exc c,_,h=>by
  simp only [RD] at h ⊢
  obtain ⟨a,o,e,h1,h2⟩:=h
  exact ⟨a,o,e,h1,hs _ _ h2⟩
 | .scr ns,_,h=>by
  simp only [RD] at h ⊢
  obtain ⟨a,e,h1⟩:=h
  refine ⟨a,e,?_⟩
  rcases h1 with ⟨o,h1⟩ | h1
  . exact .inl ⟨o,hs _ _ h1⟩
  . exact .inr h1
theorem RDs.mono (hs:Same H H'):∀{ds:List D} {xs:List V},RDs K H ds xs->RDs K H' ds xs
 | [],_,h=>by simp only [RDs] at h ⊢;exact h
 | d::ds,_,h=>by
  simp only [RDs] at h ⊢
  obtain ⟨x,r,e,h1,h2⟩:=h
  exact ⟨x,r,e,RD.mono hs h1,RDs.mono hs h2⟩
end
theorem RDs.length:∀{ds:List D} {xs:List V},RDs K H ds xs->ds.length=xs.length
 | [],_,h=>by simp only [RDs] at h;subst h;rfl
 | d::ds,_,h=>by
  simp only [RDs] at h
  obtain ⟨x,r,rfl,_,h2⟩:=h
  simp [RDs.length h2]
theorem RDs.get:∀{ds:List D} {xs:List V} {i:Nat} {x:V},RDs K H ds xs->xs[i]?=some x->∃d,ds[i]?=some d/\RD K H d x
 | [],_,i,x,h,e=>by simp only [RDs] at h;subst h;simp at e
 | d::ds,_,i,x,h,e=>by
  simp only [RDs] at h
  obtain ⟨y,r,rfl,h1,h2⟩:=h
  cases i with
  | zero=>simp at e;subst e;exact ⟨d,rfl,h1⟩
  | succ i=>simp at e;obtain ⟨d',e1,e2⟩:=RDs.get h2 e;exact ⟨d',by simpa using e1,e2⟩
theorem RDs.get':∀{ds:List D} {xs:List V} {i:Nat} {d:D},RDs K H ds xs->ds[i]?=some d->∃x,xs[i]?=some x/\RD K H d x
 | [],_,i,d,h,e=>by simp at e
 | d'::ds,_,i,d,h,e=>by
  simp only [RDs] at h
  obtain ⟨y,r,rfl,h1,h2⟩:=h
  cases i with
  | zero=>simp at e;subst e;exact ⟨y,rfl,h1⟩
  | succ i=>simp at e;obtain ⟨x',e1,e2⟩:=RDs.get' h2 e;exact ⟨x',by simpa using e1,e2⟩
theorem RDs.append:∀{ds es:List D} {xs ys:List V},RDs K H ds xs->RDs K H es ys->RDs K H (ds++es) (xs++ys)
 | [],_,_,_,h,h'=>by simp only [RDs] at h;subst h;exact h'
 | d::ds,es,_,ys,h,h'=>by
  simp only [RDs] at h
  obtain ⟨x,r,rfl,h1,h2⟩:=h
  simp only [List.cons_append,RDs]
  exact ⟨x,r++ys,rfl,h1,RDs.append h2 h'⟩
theorem RDs.nil:RDs K H [] []:=by simp only [RDs]
theorem RDs.cons {d:D} {x:V} {ds:List D} {xs:List V} (h:RD K H d x) (h':RDs K H ds xs):RDs K H (d::ds) (x::xs):=by simp only [RDs];exact ⟨x,xs,rfl,h,h'⟩
theorem RDs.one {d:D} {x:V} (h:RD K H d x):RDs K H [d] [x]:=.cons h .nil
theorem RDs.take:∀{ds:List D} {xs:List V} (n:Nat),RDs K H ds xs->RDs K H (ds.take n) (xs.take n)
 | _,_,0,_=>by simp [RDs]
 | [],_,n+1,h=>by simp only [RDs] at h;subst h;simp [RDs]
 | d::ds,_,n+1,h=>by
  simp only [RDs] at h
  obtain ⟨x,r,rfl,h1,h2⟩:=h
  simp only [List.take_succ_cons]
  exact .cons h1 (RDs.take n h2)
theorem RDs.drop:∀{ds:List D} {xs:List V} (n:Nat),RDs K H ds xs->RDs K H (ds.drop n) (xs.drop n)
 | _,_,0,h=>h
 | [],_,n+1,h=>by simp only [RDs] at h;subst h;simp [RDs]
 | d::ds,_,n+1,h=>by
  simp only [RDs] at h
  obtain ⟨x,r,rfl,h1,h2⟩:=h
  exact RDs.drop n h2
theorem RDs.set:∀{ds:List D} {xs:List V} (n:Nat) {d:D} {x:V},RDs K H ds xs->RD K H d x->RDs K H (ds.set n d) (xs.set n x)
 | [],_,n,_,_,h,_=>by simp only [RDs] at h;subst h;simp [RDs]
 | d::ds,_,0,_,_,h,h'=>by
  simp only [RDs] at h
  obtain ⟨x,r,rfl,h1,h2⟩:=h
  exact .cons h' h2
 | d::ds,_,n+1,_,_,h,h'=>by
  simp only [RDs] at h
  obtain ⟨x,r,rfl,h1,h2⟩:=h
  exact .cons h1 (RDs.set n h2 h')
theorem RDs.ofInts:∀(ns:List Int),RDs K H (ns.map D.int) (ns.map V.int)
 | []=>by simp only [List.map,RDs]
 | n::ns=>by
  simp only [List.map]
  exact RDs.cons (by simp only [RD]) (RDs.ofInts ns)
end
mutual
noncomputable def eqD:D->D->Bool
 | .non,.non=>true
 | .bl a,.bl b=>a==b
 | .bl a,.int j=>(if a then 1 else 0)==j
 | .int i,.bl b=>i==(if b then 1 else 0)
 | .int i,.int j=>i==j
 | .str a,.str b=>a==b
 | .tup ds,.tup es=>z46 ds es
 | .lst ds,.lst es=>z46 ds es
 | _,_=>false
noncomputable def z46:List D->List D->Bool
 | [],[]=>true
 | d::ds,e::es=>eqD d e&&z46 ds es
 | _,_=>false
end
mutual
noncomputable def D.dep:D->Nat
 | .tup ds=>z3v ds+1
 | .lst ds=>z3v ds+1
 | _=>0
noncomputable def z3v:List D->Nat
 | []=>0
 | d::ds=>max d.dep (z3v ds)
end
mutual
theorem z4o:∀d:D,d.pl=true->eqD d d=true
 | .non,_=>rfl
 | .bl b,_=>by simp [eqD]
 | .int b,_=>by simp [eqD]
 | .str b,_=>by simp [eqD]
 | .tup ds,h=>by simp only [eqD];exact z69 ds (by simpa only [D.pl] using h)
 | .lst ds,h=>by simp only [eqD];exact z69 ds (by simpa only [D.pl] using h)
 | .dk _ _,h=>by simp [D.pl] at h
 | .dt _ _,h=>by simp [D.pl] at h
 | .dn _ _,h=>by simp [D.pl] at h
 | .scr _,h=>by simp [D.pl] at h
 | .exc _,h=>by simp [D.pl] at h
theorem z69:∀ds:List D,pls ds=true->z46 ds ds=true
 | [],_=>rfl
 | d::ds,h=>by
  simp only [pls,Bool.and_eq_true] at h
  simp only [z46,z4o d h.1,z69 ds h.2,Bool.and_self]
end
mutual
theorem RD.inj {K:Frag} {H:Hp}:∀{d e:D} {v:V},d.pl=true->e.pl=true->RD K H d v->RD K H e v->d=e
 | .non,e,v,_,p,h,h'=>by
  simp only [RD] at h;subst h
  cases e<;>simp only [RD] at h'<;>first | (exfalso;simp [D.pl] at p;done) | rfl | (cases h';done) | (obtain ⟨a,xs,z,_⟩:=h';cases z)
 | .bl b,e,v,_,p,h,h'=>by
  simp only [RD] at h;subst h
  cases e<;>simp only [RD] at h'<;>first | (exfalso;simp [D.pl] at p;done) | (cases h';rfl) | (cases h';done) | (obtain ⟨a,xs,z,_⟩:=h';cases z)
 | .int b,e,v,_,p,h,h'=>by
  simp only [RD] at h;subst h
  cases e<;>simp only [RD] at h'<;>first | (exfalso;simp [D.pl] at p;done) | (cases h';rfl) | (cases h';done) | (obtain ⟨a,xs,z,_⟩:=h';cases z)
 | .str b,e,v,_,p,h,h'=>by
  simp only [RD] at h;subst h
  cases e<;>simp only [RD] at h'<;>first | (exfalso;simp [D.pl] at p;done) | (cases h';rfl) | (cases h';done) | (obtain ⟨a,xs,z,_⟩:=h';cases z)
 | .dk _ _,e,v,p,_,h,h'=>by simp [D.pl] at p
 | .dt _ _,e,v,p,_,h,h'=>by simp [D.pl] at p
 | .dn _ _,e,v,p,_,h,h'=>by simp [D.pl] at p
 | .scr _,e,v,p,_,h,h'=>by simp [D.pl] at p
 | .exc _,e,v,p,_,h,h'=>by simp [D.pl] at p
 | .tup ds,e,v,p,p',h,h'=>by
  simp only [RD] at h
  obtain ⟨a,xs,rfl,h1,h2⟩:=h
  cases e<;>simp only [RD] at h'
  case tup es=>
   obtain ⟨b,ys,z,h3,h4⟩:=h'
   cases z
   rw [h1] at h3;cases h3
   rw [RDs.inj (by simpa only [D.pl] using p) (by simpa only [D.pl] using p') h2 h4]
  case lst es=>
   obtain ⟨b,ys,z,h3,h4⟩:=h'
   cases z
   rw [h1] at h3;cases h3
  all_goals first | (exfalso;simp [D.pl] at p';done) | cases h'
 | .lst ds,e,v,p,p',h,h'=>by
  simp only [RD] at h
  obtain ⟨a,xs,rfl,h1,h2⟩:=h
  cases e<;>simp only [RD] at h'
  case tup es=>
   obtain ⟨b,ys,z,h3,h4⟩:=h'
   cases z
   rw [h1] at h3;cases h3
  case lst es=>
   obtain ⟨b,ys,z,h3,h4⟩:=h'
   cases z
   rw [h1] at h3;cases h3
   rw [RDs.inj (by simpa only [D.pl] using p) (by simpa only [D.pl] using p') h2 h4]
  all_goals first | (exfalso;simp [D.pl] at p';done) | cases h'
theorem RDs.inj {K:Frag} {H:Hp}:∀{ds es:List D} {xs:List V},pls ds=true->pls es=true->RDs K H ds xs->RDs K H es xs->ds=es
 | [],es,xs,_,_,h,h'=>by
  simp only [RDs] at h;subst h
  cases es<;>simp only [RDs] at h'
  . rfl
  . obtain ⟨x,r,z,_⟩:=h';cases z
 | d::ds,es,xs,p,p',h,h'=>by
  simp only [RDs] at h
  obtain ⟨x,r,rfl,h1,h2⟩:=h
  simp only [pls,Bool.and_eq_true] at p
  cases es with
  | nil=>simp only [RDs] at h';cases h'
  | cons e es=>
   simp only [RDs] at h'
   obtain ⟨y,r',z,h3,h4⟩:=h'
   cases z
   simp only [pls,Bool.and_eq_true] at p'
   rw [RD.inj p.1 p'.1 h1 h3,RDs.inj p.2 p'.2 h2 h4]
end
theorem z6a:∀{ds:List D} {d:D},pls ds=true->d∈ds->d.pl=true
 | e::ds,d,h,m=>by
  simp only [pls,Bool.and_eq_true] at h
  rcases List.mem_cons.mp m with rfl | m
  . exact h.1
  . exact z6a h.2 m
theorem z4p:∀{ds:List D} {d:D},d∈ds->d.dep<=z3v ds
 | d'::ds,d,h=>by
  simp only [z3v]
  rcases List.mem_cons.mp h with rfl | h
  . omega
  . have:=z4p h;omega
theorem z4q:∀{ds es:List D},ds.length=es.length->z46 ds es=(List.range ds.length).all fun j=>eqD (ds.getD j .non) (es.getD j .non)
 | [],[],_=>rfl
 | [],_::_,h=>by simp at h
 | _::_,[],h=>by simp at h
 | d::ds,e::es,h=>by
  simp only [z46,List.length_cons]
  rw [z4q (by simpa using h),List.range_succ_eq_map,List.all_cons,List.all_map]
  rfl
theorem z3w:∀{ds es:List D},ds.length≠es.length->z46 ds es=false
 | [],[],h=>absurd rfl h
 | [],_::_,_=>rfl
 | _::_,[],_=>rfl
 | d::ds,e::es,h=>by
  simp only [z46]
  rw [z3w (by intro z;exact h (by simp [z])),Bool.and_false]
section
variable {X:Cx} {pins:List (Addr×Obj)} {σ:St} {H:Hp} {s:Shared}
theorem Inv.tupA (I:Inv X pins σ H s) {a:Addr} {xs:List V} (h:H a=some (.tup xs)):∃its:List Value,Vals xs its/\s.heap.IsTuple a its.toArray:=by
 obtain ⟨its,r,t,_⟩:=I.tuple (.of h)
 exact ⟨its,r,t⟩
theorem Inv.lstA (I:Inv X pins σ H s) {a:Addr} {xs:List V} (h:H a=some (.lst xs)):∃its:List Value,Vals xs its/\s.heap.IsList a its.toArray:=by
 obtain ⟨its,r,t,_⟩:=I.list (.of h)
 exact ⟨its,r,t.isList⟩
theorem z9d (I:Inv X pins σ H s):∀(n:Nat) {A:Around} {d e:D} {x y:V} {u v:Value},d.pl=true->e.pl=true->d.dep<=n->A.units+n<cLine->RD X.K H d x->RD X.K H e y->RelV x u->RelV y v->SeqAt.EqAt A s u v (eqD d e):=by
 intro n
 induction n with
 | zero=>
  intro A d e x y u v hpd hpe hn hu hx hy ru rv
  have hu':A.units<cLine:=by omega
  cases d with
  | dk _ _=>simp [D.pl] at hpd
  | dt _ _=>simp [D.pl] at hpd
  | dn _ _=>simp [D.pl] at hpd
  | scr _=>simp [D.pl] at hpd
  | exc _=>simp [D.pl] at hpd
  | tup ds=>simp only [D.dep] at hn;omega
  | lst ds=>simp only [D.dep] at hn;omega
  | non=>
   simp only [RD] at hx;subst hx;cases ru
   cases e with
   | dk _ _=>simp [D.pl] at hpe
   | dt _ _=>simp [D.pl] at hpe
   | dn _ _=>simp [D.pl] at hpe
   | scr _=>simp [D.pl] at hpe
   | exc _=>simp [D.pl] at hpe
   | non=>simp only [RD] at hy;subst hy;cases rv;exact .same _
   | bl b=>simp only [RD] at hy;subst hy;cases rv;exact .none_bool _
   | int b=>simp only [RD] at hy;subst hy;obtain ⟨t,rfl⟩:=rv;exact .none_int _ _
   | str b=>simp only [RD] at hy;subst hy;obtain ⟨t,rfl⟩:=rv;exact .none_str _ _
   | tup es=>simp only [RD] at hy;obtain ⟨a,ys,rfl,h1,_⟩:=hy;cases rv;obtain ⟨its,_,t⟩:=I.tupA h1;exact .none_tuple t hu'
   | lst es=>simp only [RD] at hy;obtain ⟨a,ys,rfl,h1,_⟩:=hy;cases rv;obtain ⟨its,_,t⟩:=I.lstA h1;exact .none_list t hu'
  | bl c=>
   simp only [RD] at hx;subst hx;cases ru
   cases e with
   | dk _ _=>simp [D.pl] at hpe
   | dt _ _=>simp [D.pl] at hpe
   | dn _ _=>simp [D.pl] at hpe
   | scr _=>simp [D.pl] at hpe
   | exc _=>simp [D.pl] at hpe
   | non=>simp only [RD] at hy;subst hy;cases rv;exact .bool_none _
   | bl b=>simp only [RD] at hy;subst hy;cases rv;exact .bool_bool _ _
   | int b=>simp only [RD] at hy;subst hy;obtain ⟨t,rfl⟩:=rv;exact .bool_int _ _ _
   | str b=>simp only [RD] at hy;subst hy;obtain ⟨t,rfl⟩:=rv;exact .bool_str _ _ _
   | tup es=>simp only [RD] at hy;obtain ⟨a,ys,rfl,h1,_⟩:=hy;cases rv;obtain ⟨its,_,t⟩:=I.tupA h1;exact .bool_tuple _ t hu'
   | lst es=>simp only [RD] at hy;obtain ⟨a,ys,rfl,h1,_⟩:=hy;cases rv;obtain ⟨its,_,t⟩:=I.lstA h1;exact .bool_list _ t hu'
  | int c=>
   simp only [RD] at hx;subst hx;obtain ⟨tt,rfl⟩:=ru
   cases e with
   | dk _ _=>simp [D.pl] at hpe
   | dt _ _=>simp [D.pl] at hpe
   | dn _ _=>simp [D.pl] at hpe
   | scr _=>simp [D.pl] at hpe
   | exc _=>simp [D.pl] at hpe
   | non=>simp only [RD] at hy;subst hy;cases rv;exact .int_none _ _
   | bl b=>simp only [RD] at hy;subst hy;cases rv;exact .int_bool _ _ _
   | int b=>simp only [RD] at hy;subst hy;obtain ⟨t,rfl⟩:=rv;exact .int_int _ _ _ _
   | str b=>simp only [RD] at hy;subst hy;obtain ⟨t,rfl⟩:=rv;exact .int_str _ _ _ _
   | tup es=>simp only [RD] at hy;obtain ⟨a,ys,rfl,h1,_⟩:=hy;cases rv;obtain ⟨its,_,t⟩:=I.tupA h1;exact .int_tuple _ _ t hu'
   | lst es=>simp only [RD] at hy;obtain ⟨a,ys,rfl,h1,_⟩:=hy;cases rv;obtain ⟨its,_,t⟩:=I.lstA h1;exact .int_list _ _ t hu'
  | str c=>
   simp only [RD] at hx;subst hx;obtain ⟨tt,rfl⟩:=ru
   cases e with
   | dk _ _=>simp [D.pl] at hpe
   | dt _ _=>simp [D.pl] at hpe
   | dn _ _=>simp [D.pl] at hpe
   | scr _=>simp [D.pl] at hpe
   | exc _=>simp [D.pl] at hpe
   | non=>simp only [RD] at hy;subst hy;cases rv;exact .str_none _ _
   | bl b=>simp only [RD] at hy;subst hy;cases rv;exact .str_bool _ _ _
   | int b=>simp only [RD] at hy;subst hy;obtain ⟨t,rfl⟩:=rv;exact .str_int _ _ _ _
   | str b=>simp only [RD] at hy;subst hy;obtain ⟨t,rfl⟩:=rv;exact .str_str _ _ _ _
   | tup es=>simp only [RD] at hy;obtain ⟨a,ys,rfl,h1,_⟩:=hy;cases rv;obtain ⟨its,_,t⟩:=I.tupA h1;exact .str_tuple _ _ t hu'
   | lst es=>simp only [RD] at hy;obtain ⟨a,ys,rfl,h1,_⟩:=hy;cases rv;obtain ⟨its,_,t⟩:=I.lstA h1;exact .str_list _ _ t hu'
 | succ n ih=>
  intro A d e x y u v hpd hpe hn hu hx hy ru rv
  have hu':A.units<cLine:=by omega
  by_cases hd0:d.dep<=n
  . exact ih hpd hpe hd0 (by omega) hx hy ru rv
  have inner:∀{ds es:List D} {xs ys:List V} {its its2:List Value},pls ds=true->pls es=true->z3v ds<=n->RDs X.K H ds xs->RDs X.K H es ys->Vals xs its->Vals ys its2->∀j (h1:j<its.toArray.size) (h2:j<its2.toArray.size),
    SeqAt.EqAt A.in1 s its.toArray[j] its2.toArray[j] (eqD (ds.getD j .non) (es.getD j .non)):=fun {ds es xs ys its its2} pd pe hdn hxs hys r r2 j h1 h2=>by
   have h1':j<its.length:=by simpa using h1
   have h2':j<its2.length:=by simpa using h2
   have l1:=r.length
   have l2:=r2.length
   obtain ⟨u1,e1,q1⟩:=r.get (i:=j) (x:=xs[j]'(by omega)) (by simp)
   obtain ⟨u2,e2,q2⟩:=r2.get (i:=j) (x:=ys[j]'(by omega)) (by simp)
   obtain ⟨d1,g1,w1⟩:=hxs.get (i:=j) (x:=xs[j]'(by omega)) (by simp)
   obtain ⟨d2,g2,w2⟩:=hys.get (i:=j) (x:=ys[j]'(by omega)) (by simp)
   have ea:its.toArray[j]=u1:=by
    rw [List.getElem?_eq_getElem h1'] at e1;simpa using e1
   have eb:its2.toArray[j]=u2:=by
    rw [List.getElem?_eq_getElem h2'] at e2;simpa using e2
   rw [ea,eb]
   have ga:ds.getD j .non=d1:=by rw [List.getD_eq_getElem?_getD,g1];rfl
   have gb:es.getD j .non=d2:=by rw [List.getD_eq_getElem?_getD,g2];rfl
   rw [ga,gb]
   have hdj:d1.dep<=n:=Nat.le_trans (z4p (List.mem_of_getElem? g1)) hdn
   exact ih (z6a pd (List.mem_of_getElem? g1)) (z6a pe (List.mem_of_getElem? g2)) hdj (by show A.units+1+n<cLine;omega) w1 w2 q1 q2
  cases d with
  | dk _ _=>simp [D.pl] at hpd
  | dt _ _=>simp [D.pl] at hpd
  | dn _ _=>simp [D.pl] at hpd
  | scr _=>simp [D.pl] at hpd
  | exc _=>simp [D.pl] at hpd
  | non=>simp only [D.dep] at hd0;omega
  | bl _=>simp only [D.dep] at hd0;omega
  | int _=>simp only [D.dep] at hd0;omega
  | str _=>simp only [D.dep] at hd0;omega
  | tup ds=>
   simp only [RD] at hx;obtain ⟨a,xs,rfl,h1,hxs⟩:=hx;cases ru
   obtain ⟨its,r,t⟩:=I.tupA h1
   cases e with
   | dk _ _=>simp [D.pl] at hpe
   | dt _ _=>simp [D.pl] at hpe
   | dn _ _=>simp [D.pl] at hpe
   | scr _=>simp [D.pl] at hpe
   | exc _=>simp [D.pl] at hpe
   | non=>simp only [RD] at hy;subst hy;cases rv;exact .tuple_none t hu'
   | bl b=>simp only [RD] at hy;subst hy;cases rv;exact .tuple_bool _ t hu'
   | int b=>simp only [RD] at hy;subst hy;obtain ⟨tk,rfl⟩:=rv;exact .tuple_int _ _ t hu'
   | str b=>simp only [RD] at hy;subst hy;obtain ⟨tk,rfl⟩:=rv;exact .tuple_str _ _ t hu'
   | tup es=>
    simp only [RD] at hy;obtain ⟨b,ys,rfl,h2,hys⟩:=hy;cases rv
    obtain ⟨its2,r2,t2⟩:=I.tupA h2
    by_cases hab:a=b
    . subst hab
      rw [h1] at h2;cases h2
      rw [RDs.inj (by simpa only [D.pl] using hpd) (by simpa only [D.pl] using hpe) hxs hys,z4o _ (by simpa only [D.pl] using hpe)]
      exact .same _
    . have lx:=hxs.length;have ly:=hys.length;have l1:=r.length;have l2:=r2.length
      have q:=SeqAt.RcAt.tuples t t2 hu' (e:=fun j=>eqD (ds.getD j .non) (es.getD j .non)) (inner (by simpa only [D.pl] using hpd) (by simpa only [D.pl] using hpe) (by simp only [D.dep] at hn;omega) hxs hys r r2)
      have eb:((List.range (min its.toArray.size its2.toArray.size)).all (fun j=>eqD (ds.getD j .non) (es.getD j .non))&&its.toArray.size==its2.toArray.size)=eqD (.tup ds) (.tup es):=by
       simp only [eqD,List.size_toArray]
       by_cases hl:ds.length=es.length
       . rw [z4q hl]
         have:its.length=its2.length:=by omega
         rw [this,Nat.min_self,show its2.length=ds.length by omega]
         simp
       . rw [z3w hl]
         have:(its.length==its2.length)=false:=by simp;omega
         rw [this,Bool.and_false]
      rw [eb] at q
      exact .of_refs hab q
   | lst es=>
    simp only [RD] at hy;obtain ⟨b,ys,rfl,h2,hys⟩:=hy;cases rv
    obtain ⟨its2,r2,t2⟩:=I.lstA h2
    exact .tuple_list t t2 hu'
  | lst ds=>
   simp only [RD] at hx;obtain ⟨a,xs,rfl,h1,hxs⟩:=hx;cases ru
   obtain ⟨its,r,t⟩:=I.lstA h1
   cases e with
   | dk _ _=>simp [D.pl] at hpe
   | dt _ _=>simp [D.pl] at hpe
   | dn _ _=>simp [D.pl] at hpe
   | scr _=>simp [D.pl] at hpe
   | exc _=>simp [D.pl] at hpe
   | non=>simp only [RD] at hy;subst hy;cases rv;exact .list_none t hu'
   | bl b=>simp only [RD] at hy;subst hy;cases rv;exact .list_bool _ t hu'
   | int b=>simp only [RD] at hy;subst hy;obtain ⟨tk,rfl⟩:=rv;exact .list_int _ _ t hu'
   | str b=>simp only [RD] at hy;subst hy;obtain ⟨tk,rfl⟩:=rv;exact .list_str _ _ t hu'
   | tup es=>
    simp only [RD] at hy;obtain ⟨b,ys,rfl,h2,hys⟩:=hy;cases rv
    obtain ⟨its2,r2,t2⟩:=I.tupA h2
    exact .list_tuple t t2 hu'
   | lst es=>
    simp only [RD] at hy;obtain ⟨b,ys,rfl,h2,hys⟩:=hy;cases rv
    obtain ⟨its2,r2,t2⟩:=I.lstA h2
    by_cases hab:a=b
    . subst hab
      rw [h1] at h2;cases h2
      rw [RDs.inj (by simpa only [D.pl] using hpd) (by simpa only [D.pl] using hpe) hxs hys,z4o _ (by simpa only [D.pl] using hpe)]
      exact .same _
    . have lx:=hxs.length;have ly:=hys.length;have l1:=r.length;have l2:=r2.length
      by_cases hl:ds.length=es.length
      . have hsz:its.toArray.size=its2.toArray.size:=by simp;omega
        have q:=SeqAt.RcAt.lists t t2 hsz hu' (e:=fun j=>eqD (ds.getD j .non) (es.getD j .non)) (inner (by simpa only [D.pl] using hpd) (by simpa only [D.pl] using hpe) (by simp only [D.dep] at hn;omega) hxs hys r r2)
        have eb:((List.range its.toArray.size).all fun j=>eqD (ds.getD j .non) (es.getD j .non))=eqD (.lst ds) (.lst es):=by
         simp only [eqD,List.size_toArray]
         rw [z4q hl,show its.length=ds.length by omega]
        rw [eb] at q
        exact .of_refs hab q
      . have q:=SeqAt.RcAt.lists_lengths t t2 (by simp;omega) hu'
        have:eqD (.lst ds) (.lst es)=false:=by simp only [eqD];exact z3w hl
        rw [this]
        exact .of_refs hab q
end
section
variable {X:Cx} {pins:List (Addr×Obj)} {σ:St} {H:Hp} {s:Shared}
theorem z84 (I:Inv X pins σ H s) {n:Nat} {A:Around} (hu:A.units+1+n<cLine) {ds es:List D} {xs ys:List V} {its its2:List Value} (pd:pls ds=true) (pe:pls es=true) (hdn:z3v ds<=n) (hxs:RDs X.K H ds xs) (hys:RDs X.K H es ys) (r:Vals xs its) (r2:Vals ys its2) (j:Nat)
  (h1:j<its.toArray.size) (h2:j<its2.toArray.size):SeqAt.EqAt A.in1 s its.toArray[j] its2.toArray[j] (eqD (ds.getD j .non) (es.getD j .non)):=by
 have h1':j<its.length:=by simpa using h1
 have h2':j<its2.length:=by simpa using h2
 have l1:=r.length
 have l2:=r2.length
 obtain ⟨u1,e1,q1⟩:=r.get (i:=j) (x:=xs[j]'(by omega)) (by simp)
 obtain ⟨u2,e2,q2⟩:=r2.get (i:=j) (x:=ys[j]'(by omega)) (by simp)
 obtain ⟨d1,g1,w1⟩:=hxs.get (i:=j) (x:=xs[j]'(by omega)) (by simp)
 obtain ⟨d2,g2,w2⟩:=hys.get (i:=j) (x:=ys[j]'(by omega)) (by simp)
 have ea:its.toArray[j]=u1:=by
  rw [List.getElem?_eq_getElem h1'] at e1;simpa using e1
 have eb:its2.toArray[j]=u2:=by
  rw [List.getElem?_eq_getElem h2'] at e2;simpa using e2
 rw [ea,eb]
 have ga:ds.getD j .non=d1:=by rw [List.getD_eq_getElem?_getD,g1];rfl
 have gb:es.getD j .non=d2:=by rw [List.getD_eq_getElem?_getD,g2];rfl
 rw [ga,gb]
 exact z9d I n (z6a pd (List.mem_of_getElem? g1)) (z6a pe (List.mem_of_getElem? g2)) (Nat.le_trans (z4p (List.mem_of_getElem? g1)) hdn) (by show A.units+1+n<cLine;omega) w1 w2 q1 q2
theorem zer {ds es:List D} {xs ys:List V} {its its2:List Value} (hxs:RDs X.K H ds xs) (hys:RDs X.K H es ys) (r:Vals xs its) (r2:Vals ys its2) :
  ((List.range (min its.toArray.size its2.toArray.size)).all (fun j=>eqD (ds.getD j .non) (es.getD j .non))&&its.toArray.size==its2.toArray.size)=z46 ds es:=by
 have lx:=hxs.length;have ly:=hys.length;have l1:=r.length;have l2:=r2.length
 simp only [List.size_toArray]
 by_cases hl:ds.length=es.length
 . rw [z4q hl]
   have:its.length=its2.length:=by omega
   rw [this,Nat.min_self,show its2.length=ds.length by omega]
   simp
 . rw [z3w hl]
   have:(its.length==its2.length)=false:=by simp;omega
   rw [this,Bool.and_false]
theorem zes {ds es:List D} {xs ys:List V} {its its2:List Value} (hxs:RDs X.K H ds xs) (hys:RDs X.K H es ys) (r:Vals xs its) (r2:Vals ys its2) (hl:ds.length=es.length) :
  ((List.range its.toArray.size).all fun j=>eqD (ds.getD j .non) (es.getD j .non))=z46 ds es:=by
 have lx:=hxs.length;have ly:=hys.length;have l1:=r.length;have l2:=r2.length
 rw [z4q hl,List.size_toArray,show its.length=ds.length by omega]
theorem zox (I:Inv X pins σ H s) {n:Nat} {A:Around} {d e:D} {x y:V} {u v:Value} (hpd:d.pl=true) (hpe:e.pl=true) (hn:d.dep<=n) (hu:A.units+1+n<cLine) (hx:RD X.K H d x) (hy:RD X.K H e y) (ru:RelV x u) (rv:RelV y v):SeqAt.RcAt A s u v (eqD d e):=by
 have hu':A.units<cLine:=by omega
 cases d with
 | dk _ _=>simp [D.pl] at hpd
 | dt _ _=>simp [D.pl] at hpd
 | dn _ _=>simp [D.pl] at hpd
 | scr _=>simp [D.pl] at hpd
 | exc _=>simp [D.pl] at hpd
 | non=>
  simp only [RD] at hx;subst hx;cases ru
  cases e with
  | dk _ _=>simp [D.pl] at hpe
  | dt _ _=>simp [D.pl] at hpe
  | dn _ _=>simp [D.pl] at hpe
  | scr _=>simp [D.pl] at hpe
  | exc _=>simp [D.pl] at hpe
  | non=>simp only [RD] at hy;subst hy;cases rv;exact .none_none
  | bl b=>simp only [RD] at hy;subst hy;cases rv;exact .none_bool _
  | int b=>simp only [RD] at hy;subst hy;obtain ⟨t,rfl⟩:=rv;exact .none_int _ _
  | str b=>simp only [RD] at hy;subst hy;obtain ⟨t,rfl⟩:=rv;exact .none_str _ _
  | tup es=>simp only [RD] at hy;obtain ⟨a,ys,rfl,h1,_⟩:=hy;cases rv;obtain ⟨its,_,t⟩:=I.tupA h1;exact .none_tuple t hu'
  | lst es=>simp only [RD] at hy;obtain ⟨a,ys,rfl,h1,_⟩:=hy;cases rv;obtain ⟨its,_,t⟩:=I.lstA h1;exact .none_list t hu'
 | bl c=>
  simp only [RD] at hx;subst hx;cases ru
  cases e with
  | dk _ _=>simp [D.pl] at hpe
  | dt _ _=>simp [D.pl] at hpe
  | dn _ _=>simp [D.pl] at hpe
  | scr _=>simp [D.pl] at hpe
  | exc _=>simp [D.pl] at hpe
  | non=>simp only [RD] at hy;subst hy;cases rv;exact .bool_none _
  | bl b=>simp only [RD] at hy;subst hy;cases rv;exact .bool_bool _ _
  | int b=>simp only [RD] at hy;subst hy;obtain ⟨t,rfl⟩:=rv;exact .bool_int _ _ _
  | str b=>simp only [RD] at hy;subst hy;obtain ⟨t,rfl⟩:=rv;exact .bool_str _ _ _
  | tup es=>simp only [RD] at hy;obtain ⟨a,ys,rfl,h1,_⟩:=hy;cases rv;obtain ⟨its,_,t⟩:=I.tupA h1;exact .bool_tuple _ t hu'
  | lst es=>simp only [RD] at hy;obtain ⟨a,ys,rfl,h1,_⟩:=hy;cases rv;obtain ⟨its,_,t⟩:=I.lstA h1;exact .bool_list _ t hu'
 | int c=>
  simp only [RD] at hx;subst hx;obtain ⟨tt,rfl⟩:=ru
  cases e with
  | dk _ _=>simp [D.pl] at hpe
  | dt _ _=>simp [D.pl] at hpe
  | dn _ _=>simp [D.pl] at hpe
  | scr _=>simp [D.pl] at hpe
  | exc _=>simp [D.pl] at hpe
  | non=>simp only [RD] at hy;subst hy;cases rv;exact .int_none _ _
  | bl b=>simp only [RD] at hy;subst hy;cases rv;exact .int_bool _ _ _
  | int b=>simp only [RD] at hy;subst hy;obtain ⟨t,rfl⟩:=rv;exact .int_int _ _ _ _
  | str b=>simp only [RD] at hy;subst hy;obtain ⟨t,rfl⟩:=rv;exact .int_str _ _ _ _
  | tup es=>simp only [RD] at hy;obtain ⟨a,ys,rfl,h1,_⟩:=hy;cases rv;obtain ⟨its,_,t⟩:=I.tupA h1;exact .int_tuple _ _ t hu'
  | lst es=>simp only [RD] at hy;obtain ⟨a,ys,rfl,h1,_⟩:=hy;cases rv;obtain ⟨its,_,t⟩:=I.lstA h1;exact .int_list _ _ t hu'
 | str c=>
  simp only [RD] at hx;subst hx;obtain ⟨tt,rfl⟩:=ru
  cases e with
  | dk _ _=>simp [D.pl] at hpe
  | dt _ _=>simp [D.pl] at hpe
  | dn _ _=>simp [D.pl] at hpe
  | scr _=>simp [D.pl] at hpe
  | exc _=>simp [D.pl] at hpe
  | non=>simp only [RD] at hy;subst hy;cases rv;exact .str_none _ _
  | bl b=>simp only [RD] at hy;subst hy;cases rv;exact .str_bool _ _ _
  | int b=>simp only [RD] at hy;subst hy;obtain ⟨t,rfl⟩:=rv;exact .str_int _ _ _ _
  | str b=>simp only [RD] at hy;subst hy;obtain ⟨t,rfl⟩:=rv;exact .str_str _ _ _ _
  | tup es=>simp only [RD] at hy;obtain ⟨a,ys,rfl,h1,_⟩:=hy;cases rv;obtain ⟨its,_,t⟩:=I.tupA h1;exact .str_tuple _ _ t hu'
  | lst es=>simp only [RD] at hy;obtain ⟨a,ys,rfl,h1,_⟩:=hy;cases rv;obtain ⟨its,_,t⟩:=I.lstA h1;exact .str_list _ _ t hu'
 | tup ds=>
  simp only [RD] at hx;obtain ⟨a,xs,rfl,h1,hxs⟩:=hx;cases ru
  obtain ⟨its,r,t⟩:=I.tupA h1
  cases e with
  | dk _ _=>simp [D.pl] at hpe
  | dt _ _=>simp [D.pl] at hpe
  | dn _ _=>simp [D.pl] at hpe
  | scr _=>simp [D.pl] at hpe
  | exc _=>simp [D.pl] at hpe
  | non=>simp only [RD] at hy;subst hy;cases rv;exact .tuple_none t hu'
  | bl b=>simp only [RD] at hy;subst hy;cases rv;exact .tuple_bool _ t hu'
  | int b=>simp only [RD] at hy;subst hy;obtain ⟨tk,rfl⟩:=rv;exact .tuple_int _ _ t hu'
  | str b=>simp only [RD] at hy;subst hy;obtain ⟨tk,rfl⟩:=rv;exact .tuple_str _ _ t hu'
  | tup es=>
   simp only [RD] at hy;obtain ⟨b,ys,rfl,h2,hys⟩:=hy;cases rv
   obtain ⟨its2,r2,t2⟩:=I.tupA h2
   have q:=SeqAt.RcAt.tuples t t2 hu' (e:=fun j=>eqD (ds.getD j .non) (es.getD j .non)) (z84 I hu (by simpa only [D.pl] using hpd) (by simpa only [D.pl] using hpe) (by simp only [D.dep] at hn;omega) hxs hys r r2)
   rw [zer hxs hys r r2] at q
   exact q
  | lst es=>
   simp only [RD] at hy;obtain ⟨b,ys,rfl,h2,hys⟩:=hy;cases rv
   obtain ⟨its2,r2,t2⟩:=I.lstA h2
   exact .tuple_list t t2 hu'
 | lst ds=>
  simp only [RD] at hx;obtain ⟨a,xs,rfl,h1,hxs⟩:=hx;cases ru
  obtain ⟨its,r,t⟩:=I.lstA h1
  cases e with
  | dk _ _=>simp [D.pl] at hpe
  | dt _ _=>simp [D.pl] at hpe
  | dn _ _=>simp [D.pl] at hpe
  | scr _=>simp [D.pl] at hpe
  | exc _=>simp [D.pl] at hpe
  | non=>simp only [RD] at hy;subst hy;cases rv;exact .list_none t hu'
  | bl b=>simp only [RD] at hy;subst hy;cases rv;exact .list_bool _ t hu'
  | int b=>simp only [RD] at hy;subst hy;obtain ⟨tk,rfl⟩:=rv;exact .list_int _ _ t hu'
  | str b=>simp only [RD] at hy;subst hy;obtain ⟨tk,rfl⟩:=rv;exact .list_str _ _ t hu'
  | tup es=>
   simp only [RD] at hy;obtain ⟨b,ys,rfl,h2,hys⟩:=hy;cases rv
   obtain ⟨its2,r2,t2⟩:=I.tupA h2
   exact .list_tuple t t2 hu'
  | lst es=>
   simp only [RD] at hy;obtain ⟨b,ys,rfl,h2,hys⟩:=hy;cases rv
   obtain ⟨its2,r2,t2⟩:=I.lstA h2
   have lx:=hxs.length;have ly:=hys.length;have l1:=r.length;have l2:=r2.length
   by_cases hl:ds.length=es.length
   . have hsz:its.toArray.size=its2.toArray.size:=by simp;omega
     have q:=SeqAt.RcAt.lists t t2 hsz hu' (e:=fun j=>eqD (ds.getD j .non) (es.getD j .non)) (z84 I hu (by simpa only [D.pl] using hpd) (by simpa only [D.pl] using hpe) (by simp only [D.dep] at hn;omega) hxs hys r r2)
     rw [zes hxs hys r r2 hl] at q
     exact q
   . have q:=SeqAt.RcAt.lists_lengths t t2 (by simp;omega) hu'
     have:eqD (.lst ds) (.lst es)=false:=by simp only [eqD];exact z3w hl
     rw [this]
     exact q
theorem zoy (I:Inv X pins σ H s) {n:Nat} {A:Around} {d e:D} {x y:V} {u v:Value} (hpd:d.pl=true) (hpe:e.pl=true) (hn:d.dep<=n) (hu:A.units+1+n<cLine) (hx:RD X.K H d x) (hy:RD X.K H e y) (ru:RelV x u) (rv:RelV y v):SeqAt.RcNeAt A s u v (!eqD d e):=by
 have hu':A.units<cLine:=by omega
 cases d with
 | dk _ _=>simp [D.pl] at hpd
 | dt _ _=>simp [D.pl] at hpd
 | dn _ _=>simp [D.pl] at hpd
 | scr _=>simp [D.pl] at hpd
 | exc _=>simp [D.pl] at hpd
 | non=>
  simp only [RD] at hx;subst hx;cases ru
  cases e with
  | dk _ _=>simp [D.pl] at hpe
  | dt _ _=>simp [D.pl] at hpe
  | dn _ _=>simp [D.pl] at hpe
  | scr _=>simp [D.pl] at hpe
  | exc _=>simp [D.pl] at hpe
  | non=>simp only [RD] at hy;subst hy;cases rv;exact .none_none
  | bl b=>simp only [RD] at hy;subst hy;cases rv;exact .none_bool _
  | int b=>simp only [RD] at hy;subst hy;obtain ⟨t,rfl⟩:=rv;exact .none_int _ _
  | str b=>simp only [RD] at hy;subst hy;obtain ⟨t,rfl⟩:=rv;exact .none_str _ _
  | tup es=>simp only [RD] at hy;obtain ⟨a,ys,rfl,h1,_⟩:=hy;cases rv;obtain ⟨its,_,t⟩:=I.tupA h1;exact .none_tuple t hu'
  | lst es=>simp only [RD] at hy;obtain ⟨a,ys,rfl,h1,_⟩:=hy;cases rv;obtain ⟨its,_,t⟩:=I.lstA h1;exact .none_list t hu'
 | bl c=>
  simp only [RD] at hx;subst hx;cases ru
  cases e with
  | dk _ _=>simp [D.pl] at hpe
  | dt _ _=>simp [D.pl] at hpe
  | dn _ _=>simp [D.pl] at hpe
  | scr _=>simp [D.pl] at hpe
  | exc _=>simp [D.pl] at hpe
  | non=>simp only [RD] at hy;subst hy;cases rv;exact .bool_none _
  | bl b=>simp only [RD] at hy;subst hy;cases rv;exact .bool_bool _ _
  | int b=>simp only [RD] at hy;subst hy;obtain ⟨t,rfl⟩:=rv;exact .bool_int _ _ _
  | str b=>simp only [RD] at hy;subst hy;obtain ⟨t,rfl⟩:=rv;exact .bool_str _ _ _
  | tup es=>simp only [RD] at hy;obtain ⟨a,ys,rfl,h1,_⟩:=hy;cases rv;obtain ⟨its,_,t⟩:=I.tupA h1;exact .bool_tuple _ t hu'
  | lst es=>simp only [RD] at hy;obtain ⟨a,ys,rfl,h1,_⟩:=hy;cases rv;obtain ⟨its,_,t⟩:=I.lstA h1;exact .bool_list _ t hu'
 | int c=>
  simp only [RD] at hx;subst hx;obtain ⟨tt,rfl⟩:=ru
  cases e with
  | dk _ _=>simp [D.pl] at hpe
  | dt _ _=>simp [D.pl] at hpe
  | dn _ _=>simp [D.pl] at hpe
  | scr _=>simp [D.pl] at hpe
  | exc _=>simp [D.pl] at hpe
  | non=>simp only [RD] at hy;subst hy;cases rv;exact .int_none _ _
  | bl b=>simp only [RD] at hy;subst hy;cases rv;exact .int_bool _ _ _
  | int b=>simp only [RD] at hy;subst hy;obtain ⟨t,rfl⟩:=rv;exact .int_int _ _ _ _
  | str b=>simp only [RD] at hy;subst hy;obtain ⟨t,rfl⟩:=rv;exact .int_str _ _ _ _
  | tup es=>simp only [RD] at hy;obtain ⟨a,ys,rfl,h1,_⟩:=hy;cases rv;obtain ⟨its,_,t⟩:=I.tupA h1;exact .int_tuple _ _ t hu'
  | lst es=>simp only [RD] at hy;obtain ⟨a,ys,rfl,h1,_⟩:=hy;cases rv;obtain ⟨its,_,t⟩:=I.lstA h1;exact .int_list _ _ t hu'
 | str c=>
  simp only [RD] at hx;subst hx;obtain ⟨tt,rfl⟩:=ru
  cases e with
  | dk _ _=>simp [D.pl] at hpe
  | dt _ _=>simp [D.pl] at hpe
  | dn _ _=>simp [D.pl] at hpe
  | scr _=>simp [D.pl] at hpe
  | exc _=>simp [D.pl] at hpe
  | non=>simp only [RD] at hy;subst hy;cases rv;exact .str_none _ _
  | bl b=>simp only [RD] at hy;subst hy;cases rv;exact .str_bool _ _ _
  | int b=>simp only [RD] at hy;subst hy;obtain ⟨t,rfl⟩:=rv;exact .str_int _ _ _ _
  | str b=>simp only [RD] at hy;subst hy;obtain ⟨t,rfl⟩:=rv;exact .str_str _ _ _ _
  | tup es=>simp only [RD] at hy;obtain ⟨a,ys,rfl,h1,_⟩:=hy;cases rv;obtain ⟨its,_,t⟩:=I.tupA h1;exact .str_tuple _ _ t hu'
  | lst es=>simp only [RD] at hy;obtain ⟨a,ys,rfl,h1,_⟩:=hy;cases rv;obtain ⟨its,_,t⟩:=I.lstA h1;exact .str_list _ _ t hu'
 | tup ds=>
  simp only [RD] at hx;obtain ⟨a,xs,rfl,h1,hxs⟩:=hx;cases ru
  obtain ⟨its,r,t⟩:=I.tupA h1
  cases e with
  | dk _ _=>simp [D.pl] at hpe
  | dt _ _=>simp [D.pl] at hpe
  | dn _ _=>simp [D.pl] at hpe
  | scr _=>simp [D.pl] at hpe
  | exc _=>simp [D.pl] at hpe
  | non=>simp only [RD] at hy;subst hy;cases rv;exact .tuple_none t hu'
  | bl b=>simp only [RD] at hy;subst hy;cases rv;exact .tuple_bool _ t hu'
  | int b=>simp only [RD] at hy;subst hy;obtain ⟨tk,rfl⟩:=rv;exact .tuple_int _ _ t hu'
  | str b=>simp only [RD] at hy;subst hy;obtain ⟨tk,rfl⟩:=rv;exact .tuple_str _ _ t hu'
  | tup es=>
   simp only [RD] at hy;obtain ⟨b,ys,rfl,h2,hys⟩:=hy;cases rv
   obtain ⟨its2,r2,t2⟩:=I.tupA h2
   have q:=SeqAt.RcNeAt.tuples t t2 hu' (e:=fun j=>eqD (ds.getD j .non) (es.getD j .non)) (z84 I hu (by simpa only [D.pl] using hpd) (by simpa only [D.pl] using hpe) (by simp only [D.dep] at hn;omega) hxs hys r r2)
   rw [zer hxs hys r r2] at q
   exact q
  | lst es=>
   simp only [RD] at hy;obtain ⟨b,ys,rfl,h2,hys⟩:=hy;cases rv
   obtain ⟨its2,r2,t2⟩:=I.lstA h2
   exact .tuple_list t t2 hu'
 | lst ds=>
  simp only [RD] at hx;obtain ⟨a,xs,rfl,h1,hxs⟩:=hx;cases ru
  obtain ⟨its,r,t⟩:=I.lstA h1
  cases e with
  | dk _ _=>simp [D.pl] at hpe
  | dt _ _=>simp [D.pl] at hpe
  | dn _ _=>simp [D.pl] at hpe
  | scr _=>simp [D.pl] at hpe
  | exc _=>simp [D.pl] at hpe
  | non=>simp only [RD] at hy;subst hy;cases rv;exact .list_none t hu'
  | bl b=>simp only [RD] at hy;subst hy;cases rv;exact .list_bool _ t hu'
  | int b=>simp only [RD] at hy;subst hy;obtain ⟨tk,rfl⟩:=rv;exact .list_int _ _ t hu'
  | str b=>simp only [RD] at hy;subst hy;obtain ⟨tk,rfl⟩:=rv;exact .list_str _ _ t hu'
  | tup es=>
   simp only [RD] at hy;obtain ⟨b,ys,rfl,h2,hys⟩:=hy;cases rv
   obtain ⟨its2,r2,t2⟩:=I.tupA h2
   exact .list_tuple t t2 hu'
  | lst es=>
   simp only [RD] at hy;obtain ⟨b,ys,rfl,h2,hys⟩:=hy;cases rv
   obtain ⟨its2,r2,t2⟩:=I.lstA h2
   have lx:=hxs.length;have ly:=hys.length;have l1:=r.length;have l2:=r2.length
   by_cases hl:ds.length=es.length
   . have hsz:its.toArray.size=its2.toArray.size:=by simp;omega
     have q:=SeqAt.RcNeAt.lists t t2 hsz hu' (e:=fun j=>eqD (ds.getD j .non) (es.getD j .non)) (z84 I hu (by simpa only [D.pl] using hpd) (by simpa only [D.pl] using hpe) (by simp only [D.dep] at hn;omega) hxs hys r r2)
     rw [zes hxs hys r r2 hl] at q
     exact q
   . have q:=SeqAt.RcNeAt.lists_lengths t t2 (by simp;omega) hu'
     have:eqD (.lst ds) (.lst es)=false:=by simp only [eqD];exact z3w hl
     rw [this]
     exact q
end
section
variable {X:Cx}
open Classical in
noncomputable def hitD (K:Frag) (H:Hp) (d:D) (u:Value):Bool:=match zw5 u with
 | some v=>decide (∃e,e.pl=true/\RD K H e v/\eqD e d=true)
 | none=>false
open Classical in
theorem zet {K:Frag} {H:Hp} {d e:D} {y:V} {u:Value} (pe:e.pl=true) (r:RelV y u) (h:RD K H e y):hitD K H d u=eqD e d:=by
 unfold hitD
 rw [r.abs]
 dsimp only
 rw [Bool.eq_iff_iff]
 rw [decide_eq_true_iff]
 exact ⟨fun ⟨e',p',h',q⟩=>by rw [RD.inj pe p' h h'];exact q,fun q=>⟨e,pe,h,q⟩⟩
theorem z4r {K:Frag} {H:Hp} {d:D}:∀{es:List D} {xs:List V} {us:List Value},pls es=true->RDs K H es xs->Vals xs us->us.any (hitD K H d)=es.any fun e=>eqD e d
 | [],_,_,_,h,r=>by
  simp only [RDs] at h;subst h;cases r;rfl
 | e::es,_,_,p,h,r=>by
  simp only [RDs] at h
  simp only [pls,Bool.and_eq_true] at p
  obtain ⟨x,xs,rfl,h1,h2⟩:=h
  cases r with
  | cons r1 r2=>rw [List.any_cons,List.any_cons,zet p.1 r1 h1,z4r p.2 h2 r2]
theorem z6b {A:Around} {pins:List (Addr×Obj)} {σ:St} {H:Hp} {s:Shared} (I:Inv X pins σ H s) (hu:A.units+1+20<cLine) {d:D} {x:V} {v:Value} (pd:d.pl=true) (hx:RD X.K H d x) (rx:RelV x v):∀{es:List D} {xs:List V} {us:List Value},
  pls es=true->RDs X.K H es xs->Vals xs us->z3v es<=20->∀u∈us,SeqAt.EqAt A.in1 s u v (hitD X.K H d u)
 | [],_,_,_,h,r,_=>by
  simp only [RDs] at h;subst h;cases r
  intro u hu;cases hu
 | e::es,_,_,p,h,r,hd=>by
  simp only [RDs] at h
  simp only [pls,Bool.and_eq_true] at p
  obtain ⟨y,xs,rfl,h1,h2⟩:=h
  simp only [z3v] at hd
  cases r with
  | cons r1 r2=>
   intro u hm
   rcases List.mem_cons.mp hm with z | hm
   . subst z
     rw [zet p.1 r1 h1]
     exact z9d I 20 p.1 pd (by omega) (by show A.units+1+20<cLine;omega) h1 hx r1 rx
   . exact z6b I hu pd hx rx p.2 h2 r2 (by omega) u hm
end
structure Ex where
 cls:String
 fs:List D
inductive R (α:Type) where
 | ok (a:α) | er (x:Ex) | st
noncomputable def R.bind {α β:Type} (r:R α) (f:α->R β):R β:=match r with
 | .ok a=>f a
 | .er x=>.er x
 | .st=>.st
def Rk {α:Type} (EX:Ex->Prop) (r:R α) (k:α->Prop):Prop:=match r with
 | .ok a=>k a
 | .er x=>EX x
 | .st=>False
section
variable {α β:Type} {EX:Ex->Prop}
noncomputable def R.of (o:Option α):R α:=match o with
 | some a=>.ok a
 | none=>.st
theorem R.of_some (a:α):R.of (some a)=R.ok a:=rfl
theorem Rk.of {o:Option α} {k:α->Prop} (h:Rk EX (R.of o) k):∃a,o=some a/\k a:=by
 cases o with
 | none=>exact h.elim
 | some a=>exact ⟨a,rfl,h⟩
theorem R.bind_ok (a:α) (f:α->R β):(R.ok a).bind f=f a:=rfl
theorem Rk.bind {r:R α} {f:α->R β} {k:β->Prop}:Rk EX (r.bind f) k=Rk EX r fun a=>Rk EX (f a) k:=by cases r<;>rfl
theorem Rk.mono {r:R α} {k k':α->Prop} (h:Rk EX r k) (hk:∀a,k a->k' a):Rk EX r k':=by
 cases r with
 | ok a=>exact hk a h
 | er x=>exact h
 | st=>exact h
end
def Ext (H0 H H0' H':Hp):Prop:=Same H0 H0'/\Same H0' H'/\∀a,H a≠none->H0 a=none->H0' a=none
theorem Ext.refl {H0 H:Hp} (h:Same H0 H):Ext H0 H H0 H:=⟨Same.refl _,h,fun _ _ e=>e⟩
theorem z6c {α:Type} {o:Option α} {x:α} (h:o=some x):o≠none:=by rw [h];exact fun z=>nomatch z
theorem Same.ne {H H':Hp} (h:Same H H') {a:Addr} (n:H a≠none):H' a≠none:=by
 cases e:H a with
 | none=>exact absurd e n
 | some o=>exact z6c (h a o e)
theorem Ext.trans {H0 H H0' H' H0'' H'':Hp} (s:Same H H') (a:Ext H0 H H0' H') (b:Ext H0' H' H0'' H''):Ext H0 H H0'' H'':=
 ⟨a.1.trans b.1,b.2.1,fun c h1 h2=>b.2.2 c (s.ne h1) (a.2.2 c h1 h2)⟩
theorem Ext.grow {H0 H H0' H' H'':Hp} (a:Ext H0 H H0' H') (s:Same H' H''):Ext H0 H H0' H'':=⟨a.1,a.2.1.trans s,a.2.2⟩
theorem Ext.new {H0 H:Hp} {p:Addr} {o:HO} (h:Same H0 H) (hp:H p=none):Ext H0 H (upd H0 p o) (upd H p o):=by
 have h0:H0 p=none:=by
  cases e:H0 p with
  | none=>rfl
  | some u=>rw [h p u e] at hp;cases hp
 refine ⟨Same.upd_new h0,fun b u e=>?_,fun a h1 h2=>?_⟩
 . by_cases hb:b=p
   . subst hb;rw [z0r] at e ⊢;exact e
   . rw [z0a hb] at e ⊢;exact h b u e
 . have ha:a≠p:=fun z=>h1 (by rw [z];exact hp)
   rw [z0a ha];exact h2
def OB (K:Frag) (H0 H:Hp) (a:Addr):D->Prop
 | .lst ds=>∃xs,H a=some (.lst xs)/\RDs K H0 ds xs
 | .dk ks ds=>∃xs,H a=some (.dK (ks.zip xs))/\ks.length=xs.length/\RDs K H0 ds xs
 | .dt ks ds=>∃xs,H a=some (.dT (ks.zip xs))/\ks.length=xs.length/\RDs K H0 ds xs
 | .dn ks ds=>∃qs xs o,H a=some (.ext (dnP a qs xs o))/\qs.map (·.1)=ks/\DN H0 a qs/\RDs K H0 ds xs
 | _=>False
section
variable {K:Frag} {H0 H H0' H':Hp} {a:Addr} {d:D}
theorem OB.some (h:OB K H0 H a d):∃o,H a=some o/\¬Imm o:=by
 cases d<;>simp only [OB] at h
 . obtain ⟨xs,h,_⟩:=h;exact ⟨_,h,fun z=>z⟩
 . obtain ⟨xs,h,_⟩:=h;exact ⟨_,h,fun z=>z⟩
 . obtain ⟨xs,h,_⟩:=h;exact ⟨_,h,fun z=>z⟩
 . obtain ⟨qs,xs,o,h,_⟩:=h;exact ⟨_,h,fun z=>z _ _ _ _ rfl⟩
theorem OB.mono (h:OB K H0 H a d) (s0:Same H0 H0') (s:Same H H'):OB K H0' H' a d:=by
 cases d<;>simp only [OB] at h ⊢
 . obtain ⟨xs,h,r⟩:=h;exact ⟨_,s _ _ h,r.mono s0⟩
 . obtain ⟨xs,h,l,r⟩:=h;exact ⟨_,s _ _ h,l,r.mono s0⟩
 . obtain ⟨xs,h,l,r⟩:=h;exact ⟨_,s _ _ h,l,r.mono s0⟩
 . obtain ⟨qs,xs,o,h,k,n,r⟩:=h;exact ⟨qs,xs,o,s _ _ h,k,n.tk fun b ys q=>s0 _ _ q,r.mono s0⟩
theorem OB.at (h:OB K H0 H a d) (e:H' a=H a):OB K H0 H' a d:=by
 cases d<;>simp only [OB] at h ⊢
 . obtain ⟨xs,h,r⟩:=h;exact ⟨_,e.trans h,r⟩
 . obtain ⟨xs,h,l,r⟩:=h;exact ⟨_,e.trans h,l,r⟩
 . obtain ⟨xs,h,l,r⟩:=h;exact ⟨_,e.trans h,l,r⟩
 . obtain ⟨qs,xs,o,h,k,n,r⟩:=h;exact ⟨qs,xs,o,e.trans h,k,n,r⟩
theorem OB.tk (h:OB K H0 H a d) (n:d.shal=true) (t:TK H0 H0'):OB K H0' H a d:=by
 cases d<;>simp only [OB,D.shal] at h n ⊢
 . obtain ⟨xs,h,r⟩:=h;exact ⟨_,h,r.tk t n⟩
 . obtain ⟨xs,h,l,r⟩:=h;exact ⟨_,h,l,r.tk t n⟩
 . obtain ⟨xs,h,l,r⟩:=h;exact ⟨_,h,l,r.tk t n⟩
 . obtain ⟨qs,xs,o,h,k,m,r⟩:=h;exact ⟨qs,xs,o,h,k,m.tk fun b ys q=>t _ _ trivial q,r.tk t n⟩
theorem OB.rd (h:OB K H0 H a d) (s0:Same H0 H0') (e:H0' a=H a):RD K H0' d (.ref a):=by
 cases d<;>simp only [OB,RD] at h ⊢
 . obtain ⟨xs,h,r⟩:=h;exact ⟨_,_,rfl,e.trans h,r.mono s0⟩
 . obtain ⟨xs,h,l,r⟩:=h;exact ⟨_,_,rfl,e.trans h,l,r.mono s0⟩
 . obtain ⟨xs,h,l,r⟩:=h;exact ⟨_,_,rfl,e.trans h,l,r.mono s0⟩
 . obtain ⟨qs,xs,o,h,k,n,r⟩:=h;exact ⟨_,qs,xs,o,rfl,e.trans h,k,n.tk fun b ys q=>s0 _ _ q,r.mono s0⟩
end
def Out (K:Frag) (fr:Bool) (H0 H:Hp) (d:D) (v:V) (H':Hp):Prop:=
 Same H H'/\∃H0',Ext H0 H H0' H'/\(if fr=true then ∃p,v=.ref p/\H p=none/\H0' p=none/\OB K H0' H' p d else RD K H0' d v)
section
variable {K:Frag} {fr:Bool} {H0 H H0' H':Hp} {d:D} {v:V}
theorem Out.val (s:Same H H') (e:Ext H0 H H0' H') (r:RD K H0' d v):Out K false H0 H d v H':=⟨s,H0',e,by rw [if_neg Bool.false_ne_true];exact r⟩
theorem Out.pure (s:Same H0 H) (r:RD K H0 d v):Out K false H0 H d v H:=.val (Same.refl _) (.refl s) r
theorem Out.fresh {p:Addr} (s:Same H H') (e:Ext H0 H H0' H') (hp:H p=none) (hp0:H0' p=none) (o:OB K H0' H' p d):Out K true H0 H d (.ref p) H':=⟨s,H0',e,by rw [if_pos rfl];exact ⟨p,rfl,hp,hp0,o⟩⟩
theorem Out.rd (o:Out K false H0 H d v H'):Same H H'/\∃H0',Ext H0 H H0' H'/\RD K H0' d v:=by
 obtain ⟨s,H0',e,r⟩:=o
 rw [if_neg Bool.false_ne_true] at r
 exact ⟨s,H0',e,r⟩
theorem Out.weak (o:Out K fr H0 H d v H'):Out K false H0 H d v H':=by
 cases fr with
 | false=>exact o
 | true=>
  obtain ⟨s,H0',e,r⟩:=o
  rw [if_pos rfl] at r
  obtain ⟨p,rfl,hp,hp0,ob⟩:=r
  obtain ⟨u,hu,_⟩:=ob.some
  have e2:Ext H0 H (upd H0' p u) H':=by
   refine ⟨e.1.trans (Same.upd_new hp0),fun b w q=>?_,fun a h1 h2=>?_⟩
   . by_cases hb:b=p
     . subst hb;rw [z0r] at q;cases q;exact hu
     . rw [z0a hb] at q;exact e.2.1 b w q
   . rw [z0a (fun z=>h1 (by rw [z];exact hp))];exact e.2.2 a h1 h2
  exact .val s e2 (ob.rd (Same.upd_new hp0) (by rw [z0r,hu]))
theorem Out.after {H1 H1':Hp} (s:Same H H1) (e:Ext H0 H H1' H1) (o:Out K fr H1' H1 d v H'):Out K fr H0 H d v H':=by
 obtain ⟨s',H0',e',r⟩:=o
 refine ⟨s.trans s',H0',e.trans s e',?_⟩
 cases fr with
 | false=>exact r
 | true=>
  rw [if_pos rfl] at r ⊢
  obtain ⟨p,rfl,hp,r⟩:=r
  refine ⟨p,rfl,?_,r⟩
  cases q:H p with
  | none=>rfl
  | some u=>rw [s p u q] at hp;cases hp
end
abbrev DE:=List (Option D)
def RE (K:Frag) (H:Hp) (ρ:DE) (σ:St):Prop:=ρ.length=σ.length/\∀(i:Nat) d,ρ[i]?=some (some d)->∃v,σ[i]?=some (some v)/\RD K H d v
theorem RE.mono {K:Frag} {H H':Hp} {ρ:DE} {σ:St} (h:RE K H ρ σ) (s:Same H H'):RE K H' ρ σ:=⟨h.1,fun i d e=>by
 obtain ⟨v,h1,h2⟩:=h.2 i d e
 exact ⟨v,h1,h2.mono s⟩⟩
structure XW where
 hb:Hp
 p:Ex->Hp->Prop
abbrev F0:XW:=⟨fun _=>none,fun _ _=>False⟩
theorem F0.same (H:Hp):Same F0.hb H:=fun _ _ z=>nomatch z
def XW.at (W:XW) (x:Ex):Prop:=∀H',Same W.hb H'->W.p x H'
noncomputable def TEd (K:Frag) (EX:XW) (fr:Bool) (f:DE->R D):TE:=fun σ H Q=>Same EX.hb H/\∃ρ H0,Same H0 H/\RE K H0 ρ σ/\Rk EX.at (f ρ) fun d=>∀v H',Out K fr H0 H d v H'->Q v H'
noncomputable def TAd (K:Frag) (EX:XW) (f:DE->R (List D)):TA:=fun σ H Q=>Same EX.hb H/\∃ρ H0,Same H0 H/\RE K H0 ρ σ/\Rk EX.at (f ρ) fun ds=>∀vs H' H0',Same H H'->Ext H0 H H0' H'->RDs K H0' ds vs->Q vs H'
noncomputable def TTd (K:Frag) (EX:XW) (f:DE->R Bool):TT:=fun σ H Q=>Same EX.hb H/\∃ρ H0,Same H0 H/\RE K H0 ρ σ/\Rk EX.at (f ρ) fun b=>∀H',Same H H'->Q b H'
noncomputable def z02 (i:Nat):DE->R D:=fun ρ=>match ρ[i]? with | some (some d)=>.ok d | _=>.st
noncomputable def eC (d:D):DE->R D:=fun _=>.ok d
noncomputable def eOp (o:D->D->Option D) (fa fb:DE->R D):DE->R D:=fun ρ=>(fa ρ).bind fun x=>(fb ρ).bind fun y=>R.of (o x y)
noncomputable def eUn (o:D->Option D) (fa:DE->R D):DE->R D:=fun ρ=>(fa ρ).bind fun x=>R.of (o x)
noncomputable def z09:DE->R (List D):=fun _=>.ok []
noncomputable def z01 (f:DE->R D) (fs:DE->R (List D)):DE->R (List D):=fun ρ=>(f ρ).bind fun d=>(fs ρ).bind fun ds=>.ok (d::ds)
noncomputable def z18 (m:List D->R D) (fs:DE->R (List D)):DE->R D:=fun ρ=>(fs ρ).bind m
noncomputable def eCB (m:List D->Option D) (fs:DE->R (List D)):DE->R D:=fun ρ=>(fs ρ).bind fun ds=>R.of (m ds)
noncomputable def z2z (fs:DE->R (List D)):DE->R D:=fun ρ=>(fs ρ).bind fun ds=>if ds.length<=1000 then .ok (.tup ds) else .st
noncomputable def zh5 (fs:DE->R (List D)):DE->R D:=fun ρ=>(fs ρ).bind fun ds=>if ds.length<=1000 then .ok (.lst ds) else .st
noncomputable def eIf (t:DE->R Bool) (fa fb:DE->R D):DE->R D:=fun ρ=>(t ρ).bind fun b=>if b=true then fa ρ else fb ρ
noncomputable def znk (t u:DE->R Bool):DE->R Bool:=fun ρ=>(t ρ).bind fun b=>if b=true then u ρ else .ok false
noncomputable def bOr (t u:DE->R Bool):DE->R Bool:=fun ρ=>(t ρ).bind fun b=>if b=true then .ok true else u ρ
noncomputable def zcw (t:DE->R Bool):DE->R Bool:=fun ρ=>(t ρ).bind fun b=>.ok (!b)
noncomputable def asB:D->Option Bool
 | .bl b=>some b
 | _=>none
noncomputable def z25 (tr:D->Option Bool) (f:DE->R D):DE->R Bool:=fun ρ=>(f ρ).bind fun d=>R.of (tr d)
noncomputable def zli (fa fb:DE->R D):DE->R D:=fun ρ=>(fa ρ).bind fun x=>(R.of (asB x)).bind fun b=>if b=true then fb ρ else .ok (.bl false)
noncomputable def eOr (fa fb:DE->R D):DE->R D:=fun ρ=>(fa ρ).bind fun x=>(R.of (asB x)).bind fun b=>if b=true then .ok (.bl true) else fb ρ
def OpD (K:Frag) (fr:Bool) (o:D->D->Option D) (r:R2):Prop:=∀(H0 H:Hp) (x y:V) (d e z:D) (Q:VK),Same H0 H->RD K H0 d x->RD K H0 e y->o d e=some z->(∀v H',Out K fr H0 H z v H'->Q v H')->r x y H Q
def UnD (K:Frag) (fr:Bool) (o:D->Option D) (r:V->Hp->VK->Prop):Prop:=∀(H0 H:Hp) (x:V) (d z:D) (Q:VK),Same H0 H->RD K H0 d x->o d=some z->(∀v H',Out K fr H0 H z v H'->Q v H')->r x H Q
def z5y (K:Frag) (fr:Bool) (m:List D->Option D) (r:List V->Hp->VK->Prop):Prop:=∀(H0 H:Hp) (xs:List V) (ds:List D) (z:D) (Q:VK),Same H0 H->RDs K H0 ds xs->m ds=some z->(∀v H',Out K fr H0 H z v H'->Q v H')->r xs H Q
def zty (K:Frag) (tr:D->Option Bool) (r:V->Hp->(Bool->Hp->Prop)->Prop):Prop:=∀(H0 H:Hp) (x:V) (d:D) (b:Bool) (Q:Bool->Hp->Prop),Same H0 H->RD K H0 d x->tr d=some b->Q b H->r x H Q
section
variable {K:Frag} {EX:XW} {fr:Bool} {σ:St} {H:Hp} {Q:VK}
theorem TEd.go {f:DE->R D} {ρ:DE} {H0:Hp} {k:D->Prop} (sx:Same EX.hb H) (s:Same H0 H) (e:RE K H0 ρ σ) (h:Rk EX.at (f ρ) k) (hk:∀d,k d->∀v H' H0',Same H H'->Ext H0 H H0' H'->RD K H0' d v->Q v H'):TEd K EX false f σ H Q:=
 ⟨sx,ρ,H0,s,e,h.mono fun d z v H' o=>by
  obtain ⟨s',H0',e',r⟩:=o.rd
  exact hk d z v H' H0' s' e' r⟩
theorem TAd.go {f:DE->R (List D)} {ρ:DE} {H0:Hp} {k:List D->Prop} {Q:List V->Hp->Prop} (sx:Same EX.hb H) (s:Same H0 H) (e:RE K H0 ρ σ) (h:Rk EX.at (f ρ) k) (hk:∀d,k d->∀v H' H0',Same H H'->Ext H0 H H0' H'->RDs K H0' d v->Q v H'):TAd K EX f σ H Q:=
 ⟨sx,ρ,H0,s,e,h.mono fun d z v H' H0' s' e' r=>hk d z v H' H0' s' e' r⟩
theorem TTd.go {f:DE->R Bool} {ρ:DE} {H0:Hp} {k:Bool->Prop} {Q:Bool->Hp->Prop} (sx:Same EX.hb H) (s:Same H0 H) (e:RE K H0 ρ σ) (h:Rk EX.at (f ρ) k) (hk:∀b,k b->∀H',Same H H'->Q b H'):TTd K EX f σ H Q:=
 ⟨sx,ρ,H0,s,e,h.mono fun b z H' s'=>hk b z H' s'⟩
theorem TEd.weak {f:DE->R D} (h:TEd K EX false f σ H Q):TEd K EX fr f σ H Q:=by
 obtain ⟨sx,ρ,H0,s,e,h⟩:=h
 exact ⟨sx,ρ,H0,s,e,h.mono fun d z v H' o=>z v H' o.weak⟩
theorem ztz {i:Nat} (h:TEd K EX false (z02 i) σ H Q):∃v,σ[i]?=some (some v)/\Q v H:=by
 obtain ⟨sx,ρ,H0,s,e,h⟩:=h
 unfold z02 at h
 split at h
 . rename_i d q
   obtain ⟨v,h1,h2⟩:=e.2 i d q
   exact ⟨v,h1,h v H (.pure s h2)⟩
 . exact h.elim
theorem zai {d:D} {v:V} (hd:∀H0,RD K H0 d v) (h:TEd K EX false (eC d) σ H Q):tC v σ H Q:=by
 obtain ⟨sx,ρ,H0,s,e,h⟩:=h
 exact h v H (.pure s (hd _))
theorem zt6 {o:D->D->Option D} {r:R2} {fa fb:DE->R D} (ho:OpD K fr o r) (h:TEd K EX fr (eOp o fa fb) σ H Q):tOp r (TEd K EX false fa) (TEd K EX false fb) σ H Q:=by
 obtain ⟨sx,ρ,H0,s,e,h⟩:=h
 unfold eOp at h
 rw [Rk.bind] at h
 refine TEd.go sx s e h fun d h v H1 H1' s1 e1 r1=>?_
 rw [Rk.bind] at h
 refine TEd.go (sx.trans s1) e1.2.1 (e.mono e1.1) h fun d2 h v2 H2 H2' s2 e2 r2=>?_
 obtain ⟨z,hz,h⟩:=h.of
 exact ho H2' H2 v v2 d d2 z Q e2.2.1 (r1.mono e2.1) r2 hz fun w H3 o=>h w H3 (o.after (s1.trans s2) (e1.trans s1 e2))
theorem zxg {o:D->Option D} {r:V->Hp->VK->Prop} {fa:DE->R D} (ho:UnD K fr o r) (h:TEd K EX fr (eUn o fa) σ H Q):tUn r (TEd K EX false fa) σ H Q:=by
 obtain ⟨sx,ρ,H0,s,e,h⟩:=h
 unfold eUn at h
 rw [Rk.bind] at h
 refine TEd.go sx s e h fun d h v H1 H1' s1 e1 r1=>?_
 obtain ⟨z,hz,h⟩:=h.of
 exact ho H1' H1 v d z Q e1.2.1 r1 hz fun w H3 o=>h w H3 (o.after s1 e1)
theorem zu0 {Q:List V->Hp->Prop} (h:TAd K EX z09 σ H Q):ztl σ H Q:=by
 obtain ⟨sx,ρ,H0,s,e,h⟩:=h
 exact h [] H H0 (Same.refl _) (.refl s) .nil
theorem zoz {Q:List V->Hp->Prop} {f:DE->R D} {fs:DE->R (List D)} (h:TAd K EX (z01 f fs) σ H Q):zcq (TEd K EX false f) (TAd K EX fs) σ H Q:=by
 obtain ⟨sx,ρ,H0,s,e,h⟩:=h
 unfold z01 at h
 rw [Rk.bind] at h
 refine TEd.go sx s e h fun d h v H1 H1' s1 e1 r1=>?_
 rw [Rk.bind] at h
 refine TAd.go (sx.trans s1) e1.2.1 (e.mono e1.1) h fun ds h vs H2 H2' s2 e2 r2=>?_
 exact h (v::vs) H2 H2' (s1.trans s2) (e1.trans s1 e2) (.cons (r1.mono e2.1) r2)
theorem zwl {m:List D->Option D} {r:List V->Hp->VK->Prop} {fs:DE->R (List D)} (hm:z5y K fr m r) (h:TEd K EX fr (eCB m fs) σ H Q):tCB r (TAd K EX fs) σ H Q:=by
 obtain ⟨sx,ρ,H0,s,e,h⟩:=h
 unfold eCB at h
 rw [Rk.bind] at h
 refine TAd.go sx s e h fun ds h vs H1 H1' s1 e1 r1=>?_
 obtain ⟨z,hz,h⟩:=h.of
 exact hm H1' H1 vs ds z Q e1.2.1 r1 hz fun w H3 o=>h w H3 (o.after s1 e1)
theorem zeu {n:Nat} (h:n<=1000):n<=sizeLine:=Nat.le_trans h (by decide)
theorem zu1 {fs:DE->R (List D)} (h:TEd K EX false (z2z fs) σ H Q):zwc (TAd K EX fs) σ H Q:=by
 obtain ⟨sx,ρ,H0,s,e,h⟩:=h
 unfold z2z at h
 rw [Rk.bind] at h
 refine TAd.go sx s e h fun ds h vs H1 H1' s1 e1 r1=>?_
 split at h
 . rename_i hl
   refine ⟨zeu (by rw [<-r1.length];exact hl),fun p hp=>h _ _ (.val (s1.trans (Same.upd_new hp)) (e1.trans s1 (.new e1.2.1 hp)) ?_)⟩
   have h1p:H1' p=none:=by
    cases q:H1' p with
    | none=>rfl
    | some u=>rw [e1.2.1 p u q] at hp;cases hp
   simp only [RD]
   exact ⟨p,vs,rfl,z0r,r1.mono (Same.upd_new h1p)⟩
 . exact h.elim
theorem Same.none {H H':Hp} (s:Same H H') {p:Addr} (h:H' p=none):H p=none:=by
 cases q:H p with
 | none=>rfl
 | some u=>rw [s p u q] at h;cases h
theorem Out.new {H0 H:Hp} {d:D} {p:Addr} {o:HO} (s:Same H0 H) (hp:H p=none) (hob:∀H',H' p=some o->OB K H0 H' p d):Out K true H0 H d (.ref p) (upd H p o):=
 .fresh (Same.upd_new hp) ((Ext.refl s).grow (Same.upd_new hp)) hp (s.none hp) (hob _ z0r)
theorem zu2 {fs:DE->R (List D)} (h:TEd K EX true (zh5 fs) σ H Q):zwd (TAd K EX fs) σ H Q:=by
 obtain ⟨sx,ρ,H0,s,e,h⟩:=h
 unfold zh5 at h
 rw [Rk.bind] at h
 refine TAd.go sx s e h fun ds h vs H1 H1' s1 e1 r1=>?_
 split at h
 . rename_i hl
   refine ⟨zeu (by rw [<-r1.length];exact hl),fun p hp=>h _ _ (Out.after s1 e1 (.new e1.2.1 hp fun H' hH=>?_))⟩
   simp only [OB]
   exact ⟨vs,hH,r1⟩
 . exact h.elim
theorem zxh {t:DE->R Bool} {fa fb:DE->R D} (h:TEd K EX fr (eIf t fa fb) σ H Q):tIf (TTd K EX t) (TEd K EX fr fa) (TEd K EX fr fb) σ H Q:=by
 obtain ⟨sx,ρ,H0,s,e,h⟩:=h
 unfold eIf at h
 rw [Rk.bind] at h
 refine TTd.go sx s e h fun b h H1 s1=>?_
 have fin:∀{f:DE->R D},Rk EX.at (f ρ) (fun d=>∀v H',Out K fr H0 H d v H'->Q v H')->TEd K EX fr f σ H1 Q:=fun {f} h=>
  ⟨sx.trans s1,ρ,H0,s.trans s1,e,h.mono fun d z v H' o=>z v H' (o.after s1 ((Ext.refl s).grow s1))⟩
 cases b with
 | true=>exact fin h
 | false=>exact fin h
theorem zp0 {t u:DE->R Bool} {Q:Bool->Hp->Prop} (h:TTd K EX (znk t u) σ H Q):zw3 (TTd K EX t) (TTd K EX u) σ H Q:=by
 obtain ⟨sx,ρ,H0,s,e,h⟩:=h
 unfold znk at h
 rw [Rk.bind] at h
 refine TTd.go sx s e h fun b h H1 s1=>?_
 cases b with
 | true=>exact TTd.go (sx.trans s1) (s.trans s1) e h fun b h H' s'=>h H' (s1.trans s')
 | false=>exact h H1 s1
theorem zu3 {t u:DE->R Bool} {Q:Bool->Hp->Prop} (h:TTd K EX (bOr t u) σ H Q):tOr (TTd K EX t) (TTd K EX u) σ H Q:=by
 obtain ⟨sx,ρ,H0,s,e,h⟩:=h
 unfold bOr at h
 rw [Rk.bind] at h
 refine TTd.go sx s e h fun b h H1 s1=>?_
 cases b with
 | true=>exact h H1 s1
 | false=>exact TTd.go (sx.trans s1) (s.trans s1) e h fun b h H' s'=>h H' (s1.trans s')
theorem zp1 {t:DE->R Bool} {Q:Bool->Hp->Prop} (h:TTd K EX (zcw t) σ H Q):zw4 (TTd K EX t) σ H Q:=by
 obtain ⟨sx,ρ,H0,s,e,h⟩:=h
 unfold zcw at h
 rw [Rk.bind] at h
 exact TTd.go sx s e h fun b h H1 s1=>h H1 s1
end
noncomputable def zxi (r:V->Hp->(Bool->Hp->Prop)->Prop) (t:TE):TT:=fun σ H Q=>t σ H fun x H'=>r x H' Q
noncomputable def zu4 (o:D->D->Option D) (fb:DE->R D):D->DE->R D:=fun d ρ=>(fb ρ).bind fun y=>R.of (o d y)
noncomputable def zu5 (o:D->D->Option D) (fb:DE->R D) (g:D->DE->R D):D->DE->R D:=fun d ρ=>(fb ρ).bind fun y=>(R.of (o d y)).bind fun z=>(R.of (asB z)).bind fun b=>if b=true then g y ρ else .ok (.bl false)
noncomputable def zp2 (o:D->D->Option D) (fb:DE->R D):D->DE->R Bool:=fun d ρ=>(fb ρ).bind fun y=>(R.of (o d y)).bind fun z=>R.of (asB z)
noncomputable def zp3 (o:D->D->Option D) (fb:DE->R D) (g:D->DE->R Bool):D->DE->R Bool:=fun d ρ=>(fb ρ).bind fun y=>(R.of (o d y)).bind fun z=>(R.of (asB z)).bind fun b=>if b=true then g y ρ else .ok false
noncomputable def zxj (fa:DE->R D) (g:D->DE->R D):DE->R D:=fun ρ=>(fa ρ).bind fun x=>g x ρ
noncomputable def zxk (fa:DE->R D) (g:D->DE->R Bool):DE->R Bool:=fun ρ=>(fa ρ).bind fun x=>g x ρ
theorem zbk {d:D} {b:Bool} (h:asB d=some b):d=.bl b:=by
 cases d<;>simp [asB] at h
 subst h;rfl
theorem RD.bl {K:Frag} {H:Hp} {b:Bool} {v:V} (h:RD K H (.bl b) v):v=.bl b:=by simpa only [RD] using h
section
variable {K:Frag} {EX:XW} {fr:Bool} {σ:St} {H:Hp} {Q:VK} {QB:Bool->Hp->Prop}
theorem zu6 {fa fb:DE->R D} (h:TEd K EX false (zli fa fb) σ H Q):zon (TEd K EX false fa) (TEd K EX false fb) σ H Q:=by
 obtain ⟨sx,ρ,H0,s,e,h⟩:=h
 unfold zli at h
 rw [Rk.bind] at h
 refine TEd.go sx s e h fun d h v H1 H1' s1 e1 r1=>?_
 rw [Rk.bind] at h
 obtain ⟨b,hb,h⟩:=h.of
 cases zbk hb
 cases r1.bl
 cases b with
 | true=>exact TEd.go (sx.trans s1) e1.2.1 (e.mono e1.1) h fun d h v H2 H2' s2 e2 r2=>h v H2 (.val (s1.trans s2) (e1.trans s1 e2) r2)
 | false=>exact h _ H1 (.val s1 e1 (by simp only [RD]))
theorem zu7 {tr:D->Option Bool} {r:V->Hp->(Bool->Hp->Prop)->Prop} {fa:DE->R D} (ht:zty K tr r) (h:TTd K EX (z25 tr fa) σ H QB):zxi r (TEd K EX false fa) σ H QB:=by
 obtain ⟨sx,ρ,H0,s,e,h⟩:=h
 unfold z25 at h
 rw [Rk.bind] at h
 refine TEd.go sx s e h fun d h v H1 H1' s1 e1 r1=>?_
 obtain ⟨b,hb,h⟩:=h.of
 exact ht H1' H1 v d b QB e1.2.1 r1 hb (h H1 s1)
theorem zp4 {tr:D->Option Bool} {r:V->Hp->(Bool->Hp->Prop)->Prop} {fa:DE->R D} (ht:zty K tr r) (h:TEd K EX false (eUn (fun d=>(tr d).map fun b=>.bl (!b)) fa) σ H Q) :
  (fun σ H Q=>(TEd K EX false fa) σ H fun x H1=>r x H1 fun k H2=>Q (.bl (!k)) H2) σ H Q:=by
 obtain ⟨sx,ρ,H0,s,e,h⟩:=h
 unfold eUn at h
 rw [Rk.bind] at h
 refine TEd.go sx s e h fun d h v H1 H1' s1 e1 r1=>?_
 obtain ⟨z,hz,h⟩:=h.of
 have hz:(tr d).map (fun b=>D.bl (!b))=some z:=hz
 cases hb:tr d with
 | none=>rw [hb] at hz;cases hz
 | some b=>
  rw [hb] at hz;cases hz
  exact ht H1' H1 v d b _ e1.2.1 r1 hb (h _ H1 (.val s1 e1 (by simp only [RD])))
theorem zu8 {o:D->D->Option D} {r:R2} {fa fb:DE->R D} (ho:OpD K false o r) (h:TTd K EX (z25 asB (eOp o fa fb)) σ H QB):zl2 (tOp r (TEd K EX false fa) (TEd K EX false fb)) σ H QB:=by
 obtain ⟨sx,ρ,H0,s,e,h⟩:=h
 unfold z25 at h
 rw [Rk.bind] at h
 unfold zl2
 refine zt6 (EX:=EX) ho ⟨sx,ρ,H0,s,e,h.mono fun d h v H' o=>?_⟩
 obtain ⟨b,hb,h⟩:=h.of
 obtain ⟨s',H0',e',r'⟩:=o.rd
 cases zbk hb
 cases r'.bl
 exact h H' s'
end
inductive Sl where
 | em | im (d:D) | ow (d:D)
abbrev DS:=List Sl
noncomputable def Sl.see (b:Bool):Sl->Option D
 | .em=>none
 | .im d=>some d
 | .ow d=>if b=true then some d else none
noncomputable def Sl.frz (b:Bool):Sl->Sl
 | .ow d=>if b=true then .im d else .ow d
 | s=>s
noncomputable def vis:List Bool->DS->DE
 | _,[]=>[]
 | [],s::r=>s.see false::vis [] r
 | b::m,s::r=>s.see b::vis m r
noncomputable def frz:List Bool->DS->DS
 | _,[]=>[]
 | [],s::r=>s::r
 | b::m,s::r=>s.frz b::frz m r
theorem zaj:∀(m:List Bool) (ρ:DS) (i:Nat),(vis m ρ)[i]?=(ρ[i]?).map (Sl.see (m.getD i false))
 | [],[],i=>by simp [vis]
 | _::_,[],i=>by simp [vis]
 | [],s::r,0=>by simp [vis]
 | b::m,s::r,0=>by simp [vis]
 | [],s::r,i+1=>by simpa [vis] using zaj [] r i
 | b::m,s::r,i+1=>by simpa [vis] using zaj m r i
theorem z58:∀(m:List Bool) (ρ:DS),(vis m ρ).length=ρ.length
 | [],[]=>rfl
 | _::_,[]=>rfl
 | [],s::r=>by simp [vis,z58 [] r]
 | b::m,s::r=>by simp [vis,z58 m r]
theorem Sl.frz_false (s:Sl):s.frz false=s:=by cases s<;>simp [Sl.frz]
theorem zak:∀(m:List Bool) (ρ:DS) (i:Nat),(L2.frz m ρ)[i]?=(ρ[i]?).map (Sl.frz (m.getD i false))
 | [],[],i=>by simp [frz]
 | _::_,[],i=>by simp [frz]
 | [],s::r,i=>by
  simp only [frz,List.getD_nil]
  cases h:(s::r)[i]? with
  | none=>rfl
  | some x=>simp [Sl.frz_false]
 | b::m,s::r,0=>by simp [frz]
 | b::m,s::r,i+1=>by simpa [frz] using zak m r i
theorem z7b:∀(m:List Bool) (ρ:DS),(L2.frz m ρ).length=ρ.length
 | [],[]=>rfl
 | _::_,[]=>rfl
 | [],s::r=>rfl
 | b::m,s::r=>by simp [frz,z7b m r]
structure RS (K:Frag) (Hc Hb H0:Hp) (ρ:DS) (σ:St) (H:Hp):Prop where
 sb:Same Hb H
 ext:Ext Hc Hb H0 H
 len:ρ.length=σ.length
 im:∀(i:Nat) d,ρ[i]?=some (.im d)->∃v,σ[i]?=some (some v)/\RD K H0 d v
 ow:∀(i:Nat) d,ρ[i]?=some (.ow d)->∃a,σ[i]?=some (some (.ref a))/\H0 a=none/\Hb a=none/\OB K H0 H a d
 ap:∀(i j:Nat) d e a,ρ[i]?=some (.ow d)->ρ[j]?=some (.ow e)->σ[i]?=some (some (.ref a))->σ[j]?=some (some (.ref a))->i=j
theorem RS.grow {K:Frag} {Hc Hb H0 H H':Hp} {ρ:DS} {σ:St} (R:RS K Hc Hb H0 ρ σ H) (s:Same H H'):RS K Hc Hb H0 ρ σ H':=
 ⟨R.sb.trans s,R.ext.grow s,R.len,R.im,fun i d e=>by
  obtain ⟨a,h1,h2,h3,h4⟩:=R.ow i d e
  exact ⟨a,h1,h2,h3,h4.mono (Same.refl _) s⟩,R.ap⟩
def Msk (m:List Bool) (ρ:DS) (σ:St) (a:Addr):Prop:=∃i d,m.getD i false=true/\ρ[i]?=some (.ow d)/\σ[i]?=some (some (.ref a))
open Classical in
noncomputable def HeOf (m:List Bool) (ρ:DS) (σ:St) (H0 H:Hp):Hp:=fun a=>if Msk m ρ σ a then H a else H0 a
open Classical in
noncomputable def HdOf (m:List Bool) (ρ:DS) (σ:St) (H0:Hp):Hp:=fun a=>if Msk m ρ σ a then none else H0 a
section
variable {K:Frag} {Hc Hb H0 H H':Hp} {ρ:DS} {σ:St} {m:List Bool}
theorem RS.msk (R:RS K Hc Hb H0 ρ σ H) {a:Addr} (h:Msk m ρ σ a):H0 a=none/\Hb a=none/\∃o,H a=some o/\¬Imm o:=by
 obtain ⟨i,d,_,h1,h2⟩:=h
 obtain ⟨a',q1,q2,q3,q4⟩:=R.ow i d h1
 rw [h2] at q1;cases q1
 exact ⟨q2,q3,q4.some⟩
theorem z85 {a:Addr} (h:Msk m ρ σ a):HeOf m ρ σ H0 H a=H a:=by unfold HeOf;exact if_pos h
theorem z3x {a:Addr} (h:¬Msk m ρ σ a):HeOf m ρ σ H0 H a=H0 a:=by unfold HeOf;exact if_neg h
theorem z86 {a:Addr} (h:Msk m ρ σ a):HdOf m ρ σ H0 a=none:=by unfold HdOf;exact if_pos h
theorem z3y {a:Addr} (h:¬Msk m ρ σ a):HdOf m ρ σ H0 a=H0 a:=by unfold HdOf;exact if_neg h
theorem RS.he0 (R:RS K Hc Hb H0 ρ σ H) (m:List Bool):Same H0 (HeOf m ρ σ H0 H):=fun b o e=>by
 by_cases h:Msk m ρ σ b
 . rw [(R.msk h).1] at e;cases e
 . rw [z3x h];exact e
theorem RS.heH (R:RS K Hc Hb H0 ρ σ H) (m:List Bool):Same (HeOf m ρ σ H0 H) H:=fun b o e=>by
 by_cases h:Msk m ρ σ b
 . rw [z85 h] at e;exact e
 . rw [z3x h] at e;exact R.ext.2.1 b o e
theorem RS.re (R:RS K Hc Hb H0 ρ σ H) (m:List Bool):RE K (HeOf m ρ σ H0 H) (vis m ρ) σ:=by
 refine ⟨by rw [z58];exact R.len,fun i d e=>?_⟩
 rw [zaj] at e
 cases q:ρ[i]? with
 | none=>rw [q] at e;cases e
 | some s=>
  rw [q] at e
  simp only [Option.map_some,Option.some.injEq] at e
  cases s with
  | em=>cases e
  | im d'=>
   cases e
   obtain ⟨v,h1,h2⟩:=R.im i d q
   exact ⟨v,h1,h2.mono (R.he0 m)⟩
  | ow d'=>
   simp only [Sl.see] at e
   split at e
   . rename_i hm
     cases e
     obtain ⟨a,h1,h2,h3,h4⟩:=R.ow i d q
     exact ⟨_,h1,h4.rd (R.he0 m) (z85 ⟨i,d,hm,q,h1⟩)⟩
   . cases e
noncomputable def z59 (keep:Bool) (m:List Bool) (ρ:DS):DS:=if keep=true then ρ else frz m ρ
noncomputable def keeps (fr:Bool) (d:D):Bool:=if fr=true then d.shal else d.noL
def Apt (K:Frag) (fr:Bool) (Hb H0:Hp) (ρ:DS) (σ:St) (H:Hp) (d:D) (v:V):Prop:=
 if fr=true then ∃p,v=.ref p/\H0 p=none/\Hb p=none/\OB K H0 H p d/\∀(i:Nat) e,ρ[i]?=some (.ow e)->σ[i]?≠some (some (.ref p)) else RD K H0 d v
theorem z87 {keep:Bool} {i:Nat} {d:D} (h:(z59 keep m ρ)[i]?=some (.ow d)):ρ[i]?=some (.ow d)/\(keep=false->m.getD i false=false):=by
 unfold z59 at h
 cases keep with
 | true=>exact ⟨h,fun z=>nomatch z⟩
 | false=>
  rw [if_neg Bool.false_ne_true,zak] at h
  cases q:ρ[i]? with
  | none=>rw [q] at h;cases h
  | some s=>
   rw [q] at h
   simp only [Option.map_some,Option.some.injEq] at h
   cases s with
   | em=>cases h
   | im d'=>cases h
   | ow d'=>
    simp only [Sl.frz] at h
    split at h
    . cases h
    . rename_i hm
      cases h
      exact ⟨rfl,fun _=>by simpa using hm⟩
theorem RS.frame (R:RS K Hc Hb H0 ρ σ H) {H0':Hp} (s:Same H H') (e:Ext (HeOf m ρ σ H0 H) H H0' H') (keep:Bool) :
  ∃H0n,RS K Hc Hb H0n (z59 keep m ρ) σ H'/\TK H0' H0n/\(keep=false->H0n=H0')/\(∀p,H0' p=none->H0n p=none)/\Same H0 H0n:=by
 have hunm:∀(i:Nat) d' a,ρ[i]?=some (.ow d')->σ[i]?=some (some (.ref a))->¬Msk m ρ σ a->H0' a=none:=fun i d' a h1 h2 h3=>by
  obtain ⟨a',q1,q2,q3,q4⟩:=R.ow i d' h1
  rw [h2] at q1;cases q1
  obtain ⟨u,hu,_⟩:=q4.some
  exact e.2.2 a (z6c hu) (by rw [z3x h3];exact q2)
 have nmsk:∀{i:Nat} {d':D} {a:Addr},ρ[i]?=some (.ow d')->σ[i]?=some (some (.ref a))->m.getD i false=false->¬Msk m ρ σ a:=fun {i d' a} h1 h2 h3 ⟨j,e',q1,q2,q3⟩=>by
  have:=R.ap i j d' e' a h1 q2 h2 q3
  subst this
  rw [h3] at q1;cases q1
 cases keep with
 | true=>
  have hth:z59 true m ρ=ρ:=rfl
  have s0:Same H0 (HdOf m ρ σ H0'):=fun b u q=>by
   have hb:¬Msk m ρ σ b:=fun z=>by rw [(R.msk z).1] at q;cases q
   rw [z3y hb]
   exact e.1 b u (R.he0 m b u q)
  have tk:TK H0' (HdOf m ρ σ H0'):=fun b u hi q=>by
   have hb:¬Msk m ρ σ b:=fun z=>by
    obtain ⟨_,_,w,hw,hn⟩:=R.msk z
    have:=e.1 b w (by rw [z85 z];exact hw)
    rw [q] at this;cases this
    exact hn hi
   rw [z3y hb];exact q
  refine ⟨HdOf m ρ σ H0',⟨R.sb.trans s,⟨R.ext.1.trans s0,fun b u q=>?_,fun a h1 h2=>?_⟩,R.len,fun i d' q=>?_,fun i d' q=>?_,R.ap⟩,tk,(fun z=>nomatch z),fun p hp=>?_,s0⟩
  . by_cases hb:Msk m ρ σ b
    . rw [z86 hb] at q;cases q
    . rw [z3y hb] at q;exact e.2.1 b u q
  . by_cases hb:Msk m ρ σ a
    . exact z86 hb
    . rw [z3y hb]
      exact e.2.2 a (R.sb.ne h1) (by rw [z3x hb];exact R.ext.2.2 a h1 h2)
  . obtain ⟨w,h1,h2⟩:=R.im i d' q
    exact ⟨w,h1,h2.mono s0⟩
  . obtain ⟨a,h1,h2,h3,h4⟩:=R.ow i d' q
    refine ⟨a,h1,?_,h3,h4.mono s0 s⟩
    by_cases hb:Msk m ρ σ a
    . exact z86 hb
    . rw [z3y hb];exact hunm i d' a q h1 hb
  . by_cases hb:Msk m ρ σ p
    . exact z86 hb
    . rw [z3y hb];exact hp
 | false=>
  refine ⟨H0',⟨R.sb.trans s,?_,?_,fun i d' q=>?_,fun i d' q=>?_,fun i j d1 d2 a q1 q2=>?_⟩,fun _ _ _ z=>z,fun _=>rfl,fun _ z=>z,(R.he0 m).trans e.1⟩
  . refine ⟨R.ext.1.trans ((R.he0 m).trans e.1),e.2.1,fun a h1 h2=>e.2.2 a (R.sb.ne h1) ?_⟩
    have hb:¬Msk m ρ σ a:=fun z=>h1 (R.msk z).2.1
    rw [z3x hb];exact R.ext.2.2 a h1 h2
  . show (L2.frz m ρ).length=_
    rw [z7b];exact R.len
  . have q':(L2.frz m ρ)[i]?=some (.im d'):=q
    rw [zak] at q'
    cases hs:ρ[i]? with
    | none=>rw [hs] at q';cases q'
    | some sl=>
     rw [hs] at q'
     simp only [Option.map_some,Option.some.injEq] at q'
     cases sl with
     | em=>cases q'
     | im d2=>
      cases q'
      obtain ⟨w,h1,h2⟩:=R.im i d' hs
      exact ⟨w,h1,h2.mono ((R.he0 m).trans e.1)⟩
     | ow d2=>
      simp only [Sl.frz] at q'
      split at q'
      . rename_i hm
        cases q'
        obtain ⟨a,h1,h2,h3,h4⟩:=R.ow i d' hs
        obtain ⟨u,hu,_⟩:=h4.some
        refine ⟨_,h1,h4.rd ((R.he0 m).trans e.1) ?_⟩
        rw [hu]
        exact e.1 a u (by rw [z85 ⟨i,d',hm,hs,h1⟩];exact hu)
      . cases q'
  . obtain ⟨q1,q2⟩:=z87 q
    obtain ⟨a,h1,h2,h3,h4⟩:=R.ow i d' q1
    exact ⟨a,h1,hunm i d' a q1 h1 (nmsk q1 h1 (q2 rfl)),h3,h4.mono ((R.he0 m).trans e.1) s⟩
  . exact R.ap i j d1 d2 a (z87 q1).1 (z87 q2).1
theorem RS.out (R:RS K Hc Hb H0 ρ σ H) {fr:Bool} {d:D} {v:V} (o:Out K fr (HeOf m ρ σ H0 H) H d v H') :
  ∃H0n,RS K Hc Hb H0n (z59 (keeps fr d) m ρ) σ H'/\Apt K fr Hb H0n (z59 (keeps fr d) m ρ) σ H' d v:=by
 obtain ⟨s,H0',e,r⟩:=o
 obtain ⟨H0n,R',tk,eq,hn,_⟩:=R.frame s e (keeps fr d)
 refine ⟨H0n,R',?_⟩
 unfold Apt
 cases fr with
 | false=>
  rw [if_neg Bool.false_ne_true] at r ⊢
  cases hk:keeps false d with
  | true=>exact r.tk tk (by simpa [keeps] using hk)
  | false=>rw [eq hk];exact r
 | true=>
  rw [if_pos rfl] at r ⊢
  obtain ⟨p,rfl,hp,hp0,ob⟩:=r
  refine ⟨p,rfl,hn p hp0,R.sb.none hp,?_,fun i e' q z=>?_⟩
  . cases hk:keeps true d with
    | true=>exact ob.tk (by simpa [keeps] using hk) tk
    | false=>rw [eq hk];exact ob
  . obtain ⟨a,h1,_,_,h4⟩:=R.ow i e' (z87 q).1
    rw [z] at h1;cases h1
    obtain ⟨u,hu,_⟩:=h4.some
    rw [hp] at hu;cases hu
theorem RS.outs (R:RS K Hc Hb H0 ρ σ H) {ds:List D} {vs:List V} {H0':Hp} (s:Same H H') (e:Ext (HeOf m ρ σ H0 H) H H0' H') (r:RDs K H0' ds vs) :
  ∃H0n,RS K Hc Hb H0n (z59 (z3l ds) m ρ) σ H'/\RDs K H0n ds vs:=by
 obtain ⟨H0n,R',tk,eq,hn,_⟩:=R.frame s e (z3l ds)
 refine ⟨H0n,R',?_⟩
 cases hk:z3l ds with
 | true=>exact r.tk tk hk
 | false=>rw [eq hk];exact r
noncomputable def zhs (fr:Bool) (i:Nat) (d:D) (ρ:DS):DS:=ρ.set i (if fr=true then .ow d else .im d)
theorem RS.put (R:RS K Hc Hb H0 ρ σ H) {fr:Bool} {d:D} {v:V} (a:Apt K fr Hb H0 ρ σ H d v) (i:Nat):RS K Hc Hb H0 (zhs fr i d ρ) (σ.set i (some v)) H:=by
 unfold zhs
 have other:∀{j:Nat} {s:Sl},j≠i->(ρ.set i s)[j]?=ρ[j]?:=fun {j s} h=>by rw [List.getElem?_set_ne (Ne.symm h)]
 have otherσ:∀{j:Nat},j≠i->(σ.set i (some v))[j]?=σ[j]?:=fun {j} h=>by rw [List.getElem?_set_ne (Ne.symm h)]
 have here:∀{s s':Sl},(ρ.set i s)[i]?=some s'->s'=s/\(σ.set i (some v))[i]?=some (some v):=fun {s s'} h=>by
  have hi:i<ρ.length:=by
   have:=(List.getElem?_eq_some_iff.mp h).1
   simpa using this
  rw [List.getElem?_set_self hi] at h
  cases h
  exact ⟨rfl,by rw [List.getElem?_set_self (by rw [<-R.len];exact hi)]⟩
 refine ⟨R.sb,R.ext,by rw [List.length_set,List.length_set];exact R.len,fun j d' q=>?_,fun j d' q=>?_,fun j k d1 d2 b q1 q2 z1 z2=>?_⟩
 . by_cases hj:j=i
   . subst hj
     obtain ⟨h1,h2⟩:=here q
     refine ⟨v,h2,?_⟩
     cases fr with
     | false=>
      rw [if_neg Bool.false_ne_true] at h1;cases h1
      unfold Apt at a
      rw [if_neg Bool.false_ne_true] at a;exact a
     | true=>rw [if_pos rfl] at h1;cases h1
   . rw [other hj] at q
     rw [otherσ hj];exact R.im j d' q
 . by_cases hj:j=i
   . subst hj
     obtain ⟨h1,h2⟩:=here q
     cases fr with
     | false=>rw [if_neg Bool.false_ne_true] at h1;cases h1
     | true=>
      rw [if_pos rfl] at h1;cases h1
      unfold Apt at a
      rw [if_pos rfl] at a
      obtain ⟨p,rfl,a1,a2,a3,_⟩:=a
      exact ⟨p,h2,a1,a2,a3⟩
   . rw [other hj] at q
     rw [otherσ hj];exact R.ow j d' q
 . by_cases hj:j=i
   . by_cases hk:k=i
     . rw [hj,hk]
     . subst hj
       obtain ⟨h1,h2⟩:=here q1
       rw [other hk] at q2
       rw [otherσ hk] at z2
       rw [h2] at z1
       cases fr with
       | false=>rw [if_neg Bool.false_ne_true] at h1;cases h1
       | true=>
        unfold Apt at a
        rw [if_pos rfl] at a
        obtain ⟨p,rfl,_,_,_,a4⟩:=a
        cases z1
        exact absurd z2 (a4 k d2 q2)
   . by_cases hk:k=i
     . subst hk
       obtain ⟨h1,h2⟩:=here q2
       rw [other hj] at q1
       rw [otherσ hj] at z1
       rw [h2] at z2
       cases fr with
       | false=>rw [if_neg Bool.false_ne_true] at h1;cases h1
       | true=>
        unfold Apt at a
        rw [if_pos rfl] at a
        obtain ⟨p,rfl,_,_,_,a4⟩:=a
        cases z2
        exact absurd z1 (a4 j d1 q1)
     . rw [other hj] at q1
       rw [other hk] at q2
       rw [otherσ hj] at z1
       rw [otherσ hk] at z2
       exact R.ap j k d1 d2 b q1 q2 z1 z2
end
inductive SR where
 | nx (ρ:DS) | bk (ρ:DS) | ct (ρ:DS) | rt (d:D) | er (x:Ex) | st
def SK (K:Frag) (EX:XW) (fr:Bool) (Hc Hb:Hp) (De:Ends):SR->Prop
 | .nx ρ=>∀σ H H0,RS K Hc Hb H0 ρ σ H->De.nx σ H
 | .bk ρ=>∀σ H H0,RS K Hc Hb H0 ρ σ H->De.bk σ H
 | .ct ρ=>∀σ H H0,RS K Hc Hb H0 ρ σ H->De.ct σ H
 | .rt d=>∀v H,Out K fr Hc Hb d v H->De.rt v H
 | .er x=>EX.at x
 | .st=>False
noncomputable def TSd (K:Frag) (EX:XW) (fr:Bool) (g:DS->SR):TS:=fun De σ H=>∃Hc Hb H0 ρ,Same EX.hb Hb/\RS K Hc Hb H0 ρ σ H/\SK K EX fr Hc Hb De (g ρ)
noncomputable def R.toS {α:Type} (r:R α) (k:α->SR):SR:=match r with
 | .ok a=>k a
 | .er x=>.er x
 | .st=>.st
noncomputable def sNx:DS->SR:=fun ρ=>.nx ρ
noncomputable def z12 (g1 g2:DS->SR):DS->SR:=fun ρ=>match g1 ρ with
 | .nx ρ'=>g2 ρ'
 | r=>r
noncomputable def see (ρ:DS):DE:=ρ.map (Sl.see true)
noncomputable def sIf (t:DE->R Bool) (g1 g2:DS->SR):DS->SR:=fun ρ=>(t (see ρ)).toS fun b=>if b=true then g1 ρ else g2 ρ
noncomputable def z2m (fr:Bool) (i:Nat) (m:List Bool) (f:DE->R D):DS->SR:=fun ρ=>(f (vis m ρ)).toS fun d=>.nx (zhs fr i d (z59 (keeps fr d) m ρ))
noncomputable def z4s (m:List Bool) (f:DE->R D):DS->SR:=fun ρ=>(f (vis m ρ)).toS fun d=>.rt d
noncomputable def zu9:DS->SR:=fun _=>.rt .non
noncomputable def zal (i:Nat):DS->SR:=fun ρ=>match ρ[i]? with
 | some (.ow d)=>.rt d
 | _=>.st
noncomputable def zua (f:DE->R D):DS->SR:=fun ρ=>(f (see ρ)).toS fun _=>.nx ρ
section
variable {K:Frag} {EX:XW} {fr:Bool} {Hc Hb H0 H H':Hp} {ρ:DS} {σ:St} {De:Ends} {m:List Bool}
theorem SK.toS {α:Type} {r:R α} {k:α->SR}:SK K EX fr Hc Hb De (r.toS k)=Rk EX.at r fun a=>SK K EX fr Hc Hb De (k a):=by cases r<;>rfl
theorem zev:∀(ρ:DS),vis (List.replicate ρ.length true) ρ=see ρ
 | []=>rfl
 | s::r=>by
  show s.see true::vis (List.replicate r.length true) r=_
  rw [zev r];rfl
theorem RS.extE (R:RS K Hc Hb H0 ρ σ H) (m:List Bool):Ext Hc Hb (HeOf m ρ σ H0 H) H:=
 ⟨R.ext.1.trans (R.he0 m),R.heH m,fun a h1 h2=>by
  have hb:¬Msk m ρ σ a:=fun z=>h1 (R.msk z).2.1
  rw [z3x hb];exact R.ext.2.2 a h1 h2⟩
theorem RS.te (I:RS K Hc Hb H0 ρ σ H) (sb:Same EX.hb Hb) {f:DE->R D} {fr':Bool} {k:D->Prop} {Q:VK} (h:Rk EX.at (f (vis m ρ)) k)
  (hk:∀d,k d->∀v H' H0n,RS K Hc Hb H0n (z59 (keeps fr' d) m ρ) σ H'->Apt K fr' Hb H0n (z59 (keeps fr' d) m ρ) σ H' d v->Q v H'):TEd K EX fr' f σ H Q:=
 ⟨sb.trans I.sb,vis m ρ,HeOf m ρ σ H0 H,I.heH m,I.re m,h.mono fun d z v H' o=>by
  obtain ⟨H0n,R',a⟩:=I.out o
  exact hk d z v H' H0n R' a⟩
theorem RS.tt (I:RS K Hc Hb H0 ρ σ H) (sb:Same EX.hb Hb) {f:DE->R Bool} {k:Bool->Prop} {Q:Bool->Hp->Prop} (h:Rk EX.at (f (see ρ)) k) (hk:∀b,k b->∀H',RS K Hc Hb H0 ρ σ H'->Q b H'):TTd K EX f σ H Q:=by
 refine ⟨sb.trans I.sb,see ρ,HeOf (List.replicate ρ.length true) ρ σ H0 H,I.heH _,?_,h.mono fun b z H' s=>hk b z H' (I.grow s)⟩
 rw [<-zev];exact I.re _
theorem zxl (h:TSd K EX fr sNx De σ H):zo3 De σ H:=by
 obtain ⟨Hc,Hb,H0,ρ,sb,R,h⟩:=h
 exact h σ H H0 R
theorem zub {g1 g2:DS->SR} (h:TSd K EX fr (z12 g1 g2) De σ H):zw6 (TSd K EX fr g1) (TSd K EX fr g2) De σ H:=by
 obtain ⟨Hc,Hb,H0,ρ,sb,R,h⟩:=h
 refine ⟨Hc,Hb,H0,ρ,sb,R,?_⟩
 unfold z12 at h
 cases q:g1 ρ with
 | nx ρ'=>rw [q] at h;exact fun σ' H' H0' R'=>⟨Hc,Hb,H0',ρ',sb,R',h⟩
 | bk ρ'=>rw [q] at h;exact h
 | ct ρ'=>rw [q] at h;exact h
 | rt d=>rw [q] at h;exact h
 | er x=>rw [q] at h;exact h
 | st=>rw [q] at h;exact h
theorem zp5 {t:DE->R Bool} {g1 g2:DS->SR} (h:TSd K EX fr (sIf t g1 g2) De σ H):zw7 (TTd K EX t) (TSd K EX fr g1) (TSd K EX fr g2) De σ H:=by
 obtain ⟨Hc,Hb,H0,ρ,sb,R,h⟩:=h
 unfold sIf at h
 rw [SK.toS] at h
 refine R.tt sb h fun b h H' R'=>?_
 cases b with
 | true=>exact ⟨Hc,Hb,H0,ρ,sb,R',h⟩
 | false=>exact ⟨Hc,Hb,H0,ρ,sb,R',h⟩
theorem zp6 {i:Nat} {f:DE->R D} {fr':Bool} (h:TSd K EX fr (z2m fr' i m f) De σ H):zhd (TEd K EX fr' f) (z34 i) De σ H:=by
 obtain ⟨Hc,Hb,H0,ρ,sb,R,h⟩:=h
 unfold z2m at h
 rw [SK.toS] at h
 exact R.te sb h fun d h v H' H0n R' a=>h _ H' H0n (R'.put a i)
theorem zuc {f:DE->R D} (h:TSd K EX fr (z4s m f) De σ H):zth (TEd K EX fr f) De σ H:=by
 obtain ⟨Hc,Hb,H0,ρ,sb,R,h⟩:=h
 unfold z4s at h
 rw [SK.toS] at h
 exact ⟨sb.trans R.sb,vis m ρ,HeOf m ρ σ H0 H,R.heH m,R.re m,h.mono fun d z v H' o=>z v H' (o.after R.sb (R.extE m))⟩
theorem zp7 {i:Nat} (h:TSd K EX true (zal i) De σ H):zth (zag i) De σ H:=by
 obtain ⟨Hc,Hb,H0,ρ,sb,R,h⟩:=h
 unfold zal at h
 split at h
 . rename_i d q
   obtain ⟨a,h1,h2,h3,h4⟩:=R.ow i d q
   show zag i σ H De.rt
   unfold zag
   rw [h1]
   exact h _ H (.fresh R.sb R.ext h3 h2 h4)
 . exact h.elim
theorem RS.mutate (R:RS K Hc Hb H0 ρ σ H) {i:Nat} {d d':D} {a:Addr} {o:HO} (h:ρ[i]?=some (.ow d)) (ha:σ[i]?=some (some (.ref a))) (ob:OB K H0 (upd H a o) a d'):RS K Hc Hb H0 (ρ.set i (.ow d')) σ (upd H a o):=by
 obtain ⟨a',q1,q2,q3,q4⟩:=R.ow i d h
 rw [ha] at q1;cases q1
 have hi:i<ρ.length:=(List.getElem?_eq_some_iff.mp h).1
 have other:∀{j:Nat} {s:Sl},j≠i->(ρ.set i s)[j]?=ρ[j]?:=fun {j s} h=>by rw [List.getElem?_set_ne (Ne.symm h)]
 have here:(ρ.set i (.ow d'))[i]?=some (.ow d'):=by rw [List.getElem?_set_self hi]
 have sm:∀{H1:Hp},Same H1 H->H1 a=none->Same H1 (upd H a o):=fun s n=>s.upd_at n
 refine ⟨sm R.sb q3,⟨R.ext.1,sm R.ext.2.1 q2,R.ext.2.2⟩,by rw [List.length_set];exact R.len,fun j d2 q=>?_,fun j d2 q=>?_,fun j k d1 d2 b z1 z2=>?_⟩
 . have hj:j≠i:=fun z=>by subst z;rw [here] at q;cases q
   rw [other hj] at q
   exact R.im j d2 q
 . by_cases hj:j=i
   . subst hj
     rw [here] at q;cases q
     exact ⟨a,ha,q2,q3,ob⟩
   . rw [other hj] at q
     obtain ⟨b,h1,h2,h3,h4⟩:=R.ow j d2 q
     have hb:b≠a:=fun z=>hj (R.ap j i d2 d b q h h1 (by rw [z];exact ha))
     exact ⟨b,h1,h2,h3,h4.at (z0a hb)⟩
 . have back:∀{j:Nat} {d1:D},(ρ.set i (.ow d'))[j]?=some (.ow d1)->∃d0,ρ[j]?=some (.ow d0):=fun {j d1} z=>by
    by_cases hj:j=i
    . subst hj;exact ⟨d,h⟩
    . rw [other hj] at z;exact ⟨_,z⟩
   obtain ⟨e1,z1⟩:=back z1
   obtain ⟨e2,z2⟩:=back z2
   exact R.ap j k e1 e2 b z1 z2
def zud (K:Frag) (mt:D->List D->Option D) (r:V->List V->Hp->VK->Prop):Prop:=∀(H0 H:Hp) (a:Addr) (d d':D) (ds:List D) (vs:List V) (Q:VK),Same H0 H->H0 a=none->OB K H0 H a d->RDs K H0 ds vs->mt d ds=some d' ->
 (∀v o,OB K H0 (upd H a o) a d'->Q v (upd H a o))->r (.ref a) vs H Q
noncomputable def isT (T:String):D->Bool
 | .lst _=>T=="list"
 | .dk _ _=>T=="dict"
 | .dt _ _=>T=="dict"
 | _=>false
def TyD (K:Frag) (T:String):Prop:=∀(H0 H:Hp) (a:Addr) (d:D),OB K H0 H a d->isT T d=true->tyV K T (.ref a) H
noncomputable def zbl (T:String) (mt:D->List D->Option D) (i:Nat) (m:List Bool) (fs:DE->R (List D)):DS->SR:=fun ρ=>match ρ[i]? with
 | some (.ow d0)=>if isT T d0=true then (fs (vis m ρ)).toS fun ds=>match (z59 (z3l ds) m ρ)[i]? with
  | some (.ow d)=>(R.of (mt d ds)).toS fun d'=>.nx ((z59 (z3l ds) m ρ).set i (.ow d'))
  | _=>.st
  else .st
 | _=>.st
theorem zue {T:String} {mt:D->List D->Option D} {r:V->List V->Hp->VK->Prop} {i:Nat} {fs:DE->R (List D)} (hm:zud K mt r) (hT:TyD K T) (h:TSd K EX fr (zbl T mt i m fs) De σ H) :
  zdv (tBM K T r (zag i) (TAd K EX fs)) De σ H:=by
 obtain ⟨Hc,Hb,H0,ρ,sb,R,h⟩:=h
 unfold zbl at h
 split at h
 . rename_i d0 q0
   split at h
   . rename_i hty
     rw [SK.toS] at h
     obtain ⟨a,h1,h2,h3,h4⟩:=R.ow i d0 q0
     unfold zdv tBM zag
     rw [h1]
     refine ⟨hT H0 H a d0 h4 hty,sb.trans R.sb,vis m ρ,HeOf m ρ σ H0 H,R.heH m,R.re m,h.mono fun ds h vs H' H0' s e rds=>?_⟩
     obtain ⟨H0n,R',rd'⟩:=R.outs s e rds
     split at h
     . rename_i d q
       rw [SK.toS] at h
       obtain ⟨d',hd',h⟩:=h.of
       obtain ⟨a',z1,z2,z3,z4⟩:=R'.ow i d q
       rw [h1] at z1;cases z1
       exact hm H0n H' a d d' ds vs _ R'.ext.2.1 z2 z4 rd' hd' fun v o ob=>h σ _ H0n (R'.mutate q h1 ob)
     . exact h.elim
   . exact h.elim
 . exact h.elim
noncomputable def zuf (T:String) (mt:D->List D->Option D) (i:Nat):DS->SR:=fun ρ=>match ρ[i]? with
 | some (.ow d)=>if isT T d=true then (R.of (mt d [])).toS fun d'=>.nx (ρ.set i (.ow d')) else .st
 | _=>.st
def zwm (K:Frag) (st:D->D->D->Option D) (r:zng):Prop:=∀(H0 H:Hp) (a:Addr) (d d' dk dv:D) (y v:V) (Q:Hp->Prop),Same H0 H->H0 a=none->OB K H0 H a d->RD K H0 dk y->RD K H0 dv v->st d dk dv=some d' ->
 (∀o,OB K H0 (upd H a o) a d'->Q (upd H a o))->r (.ref a) y v H Q
noncomputable def zh6 (st:D->D->D->Option D) (i:Nat) (m:List Bool) (fk fv:DE->R D):DS->SR:=fun ρ=>(fv (vis m ρ)).toS fun dv=>match (z59 (keeps false dv) m ρ)[i]? with
 | some (.ow _)=>(fk (vis m (z59 (keeps false dv) m ρ))).toS fun dk=>(match (z59 (keeps false dk) m (z59 (keeps false dv) m ρ))[i]? with
  | some (.ow d)=>(R.of (st d dk dv)).toS fun d'=>.nx ((z59 (keeps false dk) m (z59 (keeps false dv) m ρ)).set i (.ow d'))
  | _=>.st)
 | _=>.st
theorem Apt.rd {ρ:DS} {d:D} {v:V} (a:Apt K false Hb H0 ρ σ H d v):RD K H0 d v:=by
 unfold Apt at a
 rw [if_neg Bool.false_ne_true] at a;exact a
end
section
variable {K:Frag} {EX:XW} {fr:Bool} {Hc Hb H0 H H':Hp} {ρ:DS} {σ:St} {De:Ends} {m:List Bool}
theorem zp8 {st:D->D->D->Option D} {r:zng} {i:Nat} {fk fv:DE->R D} (hs:zwm K st r) (h:TSd K EX fr (zh6 st i m fk fv) De σ H) :
  zhd (TEd K EX false fv) (zt2 (zag i) (TEd K EX false fk) r) De σ H:=by
 obtain ⟨Hc,Hb,H0,ρ,sb,I,h⟩:=h
 unfold zh6 at h
 rw [SK.toS] at h
 refine I.te sb h fun dv h v H1 H1n I1 a1=>?_
 split at h
 . rename_i d0 q0
   rw [SK.toS] at h
   obtain ⟨a,h1,h2,h3,h4⟩:=I1.ow i d0 q0
   unfold zt2 zag
   rw [h1]
   refine ⟨sb.trans I1.sb,vis m _,HeOf m _ σ H1n H1,I1.heH m,I1.re m,h.mono fun dk h y H2 o2=>?_⟩
   obtain ⟨s2,H2',e2,r2⟩:=o2.rd
   obtain ⟨H2n,I2,tk,eq,hn,sub⟩:=I1.frame s2 e2 (keeps false dk)
   have r2':RD K H2n dk y:=by
    cases hk:keeps false dk with
    | true=>exact r2.tk tk (by simpa [keeps] using hk)
    | false=>rw [eq hk];exact r2
   split at h
   . rename_i d q
     rw [SK.toS] at h
     obtain ⟨d',hd',h⟩:=h.of
     obtain ⟨a',z1,z2,z3,z4⟩:=I2.ow i d q
     rw [h1] at z1;cases z1
     exact hs H2n H2 a d d' dk dv y v _ I2.ext.2.1 z2 z4 r2' (a1.rd.mono sub) hd' fun o ob=>h σ _ H2n (I2.mutate q h1 ob)
   . exact h.elim
 . exact h.elim
inductive Tg where
 | n (i:Nat) | t (is:List Nat)
noncomputable def zbm:List Nat->List D->DS->DS
 | i::is,d::ds,ρ=>zbm is ds (zhs false i d ρ)
 | _,_,ρ=>ρ
noncomputable def items:D->Option (List D)
 | .tup ds=>some ds
 | .lst ds=>some ds
 | _=>none
noncomputable def zjc:Tg->D->DS->Option DS
 | .n i,d,ρ=>some (zhs false i d ρ)
 | .t is,d,ρ=>(items d).bind fun ds=>if ds.length=is.length then some (zbm is ds ρ) else none
noncomputable def TGd (K:Frag) (tg:Tg):TG:=fun v σ H Q=>∃Hc Hb H0 ρ d ρ',RS K Hc Hb H0 ρ σ H/\RD K H0 d v/\zjc tg d ρ=some ρ'/\∀σ',RS K Hc Hb H0 ρ' σ' H->Q σ' H
theorem RS.putI (I:RS K Hc Hb H0 ρ σ H) {d:D} {v:V} (r:RD K H0 d v) (i:Nat):RS K Hc Hb H0 (zhs false i d ρ) (σ.set i (some v)) H:=
 I.put (fr:=false) (by unfold Apt;rw [if_neg Bool.false_ne_true];exact r) i
theorem zxm {i:Nat} {v:V} {Q:St->Hp->Prop} (h:TGd K (.n i) v σ H Q):z34 i v σ H Q:=by
 obtain ⟨Hc,Hb,H0,ρ,d,ρ',I,r,e,q⟩:=h
 simp only [zjc,Option.some.injEq] at e
 subst e
 exact q _ (I.putI r i)
noncomputable def zbn:List Nat->TGs
 | []=>zor
 | i::is=>zj9 (z34 i) (zbn is)
theorem z6d:∀(is:List Nat) {ds:List D} {xs:List V} {ρ:DS} {σ:St} {Q:St->Hp->Prop},RS K Hc Hb H0 ρ σ H->RDs K H0 ds xs->ds.length=is.length->(∀σ',RS K Hc Hb H0 (zbm is ds ρ) σ' H->Q σ' H)->zbn is xs σ H Q
 | [],[],_,ρ,σ,Q,I,r,_,q=>by
  simp only [RDs] at r;subst r
  exact q σ I
 | [],_::_,_,_,_,_,_,_,hl,_=>by simp at hl
 | _::_,[],_,_,_,_,_,_,hl,_=>by simp at hl
 | i::is,d::ds,_,ρ,σ,Q,I,r,hl,q=>by
  simp only [RDs] at r
  obtain ⟨x,xs,rfl,r1,r2⟩:=r
  exact z6d is (I.putI r1 i) r2 (by simpa using hl) q
theorem zxn {is:List Nat} {v:V} {Q:St->Hp->Prop} (h:TGd K (.t is) v σ H Q):zeo is.length (zbn is) v σ H Q:=by
 obtain ⟨Hc,Hb,H0,ρ,d,ρ',I,r,e,q⟩:=h
 simp only [zjc] at e
 cases d<;>simp only [items,Option.bind_none,Option.bind_some] at e<;>first | cases e | skip
 . rename_i ds
   split at e
   . rename_i hl
     cases e
     simp only [RD] at r
     obtain ⟨a,xs,rfl,ha,rs⟩:=r
     unfold zeo
     simp only [I.ext.2.1 a _ ha]
     exact ⟨by rw [<-rs.length];exact hl,z6d is I rs hl q⟩
   . cases e
 . rename_i ds
   split at e
   . rename_i hl
     cases e
     simp only [RD] at r
     obtain ⟨a,xs,rfl,ha,rs⟩:=r
     unfold zeo
     simp only [I.ext.2.1 a _ ha]
     exact ⟨by rw [<-rs.length];exact hl,z6d is I rs hl q⟩
   . cases e
noncomputable def zxo (tg:Tg) (m:List Bool) (f:DE->R D):DS->SR:=fun ρ=>(f (vis m ρ)).toS fun d=>match zjc tg d (z59 (keeps false d) m ρ) with
 | some ρ'=>.nx ρ'
 | none=>.st
noncomputable def Hno:Hp:=fun _=>none
def zp9 (K:Frag) (J:It) (H0:Hp) (ds:List D):Prop:=
 (∀(i:Nat) d,ds[i]?=some d->∀H H1,Same H0 H1->Same H1 H->J.go i H/\∀x H',J.yld i H x H'->Same H H'/\∃H1',Ext H1 H H1' H'/\RD K H1' d x)/\∀H,Same H0 H->J.stop ds.length H
noncomputable def TId (K:Frag) (EX:XW) (kp:Bool) (f:DE->R (List D)):TI:=fun σ H Q=>Same EX.hb H/\∃ρ H0,Same H0 H/\RE K H0 ρ σ/\Rk EX.at (f ρ) fun ds=>∀J H' H0',Same H H'->Ext H0 H H0' H'->zp9 K J (if kp=true then Hno else H0') ds->Q J H'
noncomputable def zbo (tg:Tg) (g:DS->SR):List D->DS->SR
 | [],ρ=>.nx ρ
 | d::ds,ρ=>match zjc tg d ρ with
  | none=>.st
  | some ρ1=>match g ρ1 with
   | .nx ρ2=>zbo tg g ds ρ2
   | .ct ρ2=>zbo tg g ds ρ2
   | .bk ρ2=>.nx ρ2
   | .rt d=>.rt d
   | .er x=>.er x
   | .st=>.st
noncomputable def z7c (kp:Bool) (m:List Bool) (f:DE->R (List D)) (tg:Tg) (g:DS->SR):DS->SR:=fun ρ=>(f (vis m ρ)).toS fun ds=>zbo tg g ds (z59 kp m ρ)
theorem Ext.base {Hc':Hp} (a:Ext Hc Hb Hc' H) (b:Ext Hc' Hb H0 H'):Ext Hc Hb H0 H':=⟨a.1.trans b.1,b.2.1,fun c h1 h2=>b.2.2 c h1 (a.2.2 c h1 h2)⟩
theorem RS.base {Hc' H1:Hp} (a:Ext Hc Hb Hc' H1) (I:RS K Hc' Hb H0 ρ σ H):RS K Hc Hb H0 ρ σ H:=⟨I.sb,a.base I.ext,I.len,I.im,I.ow,I.ap⟩
theorem RS.self (I:RS K Hc Hb H0 ρ σ H):RS K H0 Hb H0 ρ σ H:=⟨I.sb,⟨Same.refl _,I.ext.2.1,fun _ _ z=>z⟩,I.len,I.im,I.ow,I.ap⟩
theorem Out.base {Hc':Hp} {d:D} {v:V} (a:Ext Hc Hb Hc' H) (o:Out K fr Hc' Hb d v H'):Out K fr Hc Hb d v H':=by
 obtain ⟨s,H0',e,r⟩:=o
 exact ⟨s,H0',a.base e,r⟩
theorem RS.sees {H1':Hp} (I:RS K Hc Hb H0 ρ σ H) (s:Same H H') (e:Ext H0 H H1' H'):RS K Hc Hb H1' ρ σ H':=
 ⟨I.sb.trans s,⟨I.ext.1.trans e.1,e.2.1,fun a h1 h2=>e.2.2 a (I.sb.ne h1) (I.ext.2.2 a h1 h2)⟩,I.len,fun i d q=>by
  obtain ⟨v,h1,h2⟩:=I.im i d q
  exact ⟨v,h1,h2.mono e.1⟩,fun i d q=>by
  obtain ⟨a,h1,h2,h3,h4⟩:=I.ow i d q
  obtain ⟨u,hu,_⟩:=h4.some
  exact ⟨a,h1,e.2.2 a (z6c hu) h2,h3,h4.mono e.1 s⟩,I.ap⟩
theorem zug {kp:Bool} {f:DE->R (List D)} {tg:Tg} {g:DS->SR} (h:TSd K EX fr (z7c kp m f tg g) De σ H):zoq (TId K EX kp f) (TGd K tg) (TSd K EX fr g) De σ H:=by
 obtain ⟨Hc,Hb,H0,ρ,sb,I,h⟩:=h
 unfold z7c at h
 rw [SK.toS] at h
 refine ⟨sb.trans I.sb,vis m ρ,HeOf m ρ σ H0 H,I.heH m,I.re m,h.mono fun ds h J H1 H1' s1 e1 it=>?_⟩
 obtain ⟨Hn,I1,tk,eq,hn,sub⟩:=I.frame s1 e1 kp
 have it':zp9 K J Hn ds:=by
  cases kp with
  | true=>
   rw [if_pos rfl] at it
   exact ⟨fun i d q H H1 a b=>it.1 i d q H H1 (fun _ _ z=>nomatch z) b,fun H a=>it.2 H fun _ _ z=>nomatch z⟩
  | false=>rw [if_neg Bool.false_ne_true,<-eq rfl] at it;exact it
 have ex1:Ext Hc Hb Hn H1:=I1.ext
 refine ⟨fun i mm σ H=>mm=ds.length - i/\i<=ds.length/\∃ρ H0,RS K Hn Hb H0 ρ σ H/\SK K EX fr Hc Hb De (zbo tg g (ds.drop i) ρ),⟨ds.length,by simp,Nat.zero_le _,_,Hn,I1.self,h⟩,?_⟩
 rintro i mm σ H ⟨rfl,hi,ρ,H0,I2,h⟩
 have sn:Same Hn H0:=I2.ext.1
 by_cases hlt:i<ds.length
 . have hd:ds[i]?=some ds[i]:=by simp [hlt]
   obtain ⟨hgo,hy⟩:=it'.1 i _ hd H H0 sn I2.ext.2.1
   have hdr:ds.drop i=ds[i]::ds.drop (i+1):=List.drop_eq_getElem_cons hlt
   rw [hdr] at h
   refine .inr ⟨hgo,fun σ' H'=>∃ρ' H0',RS K Hn Hb H0' ρ' σ' H'/\SK K EX fr Hc Hb De (zbo tg g (ds.drop (i+1)) ρ'),fun σ' H' ⟨ρ',H0',q⟩=>⟨ds.length - (i+1),by omega,rfl,hlt,ρ',H0',q⟩,fun x H' y=>?_⟩
   obtain ⟨s3,H3,e3,r3⟩:=hy x H' y
   have I3:=I2.sees s3 e3
   unfold zbo at h
   split at h
   . exact h.elim
   . rename_i ρ1 q1
     refine ⟨Hn,Hb,H3,ρ,ds[i],ρ1,I3,r3,q1,fun σ' I4=>⟨Hn,Hb,H3,ρ1,sb,I4,?_⟩⟩
     cases qg:g ρ1 with
     | nx ρ2=>rw [qg] at h;exact fun σ5 H5 H05 I5=>⟨ρ2,H05,I5,h⟩
     | ct ρ2=>rw [qg] at h;exact fun σ5 H5 H05 I5=>⟨ρ2,H05,I5,h⟩
     | bk ρ2=>rw [qg] at h;exact fun σ5 H5 H05 I5=>h σ5 H5 H05 (I5.base ex1)
     | rt d=>rw [qg] at h;exact fun v H5 o=>h v H5 (o.base ex1)
     | er x=>rw [qg] at h;exact h
     | st=>rw [qg] at h;exact h
 . have e:i=ds.length:=by omega
   subst e
   rw [List.drop_length] at h
   refine .inl ⟨it'.2 H (sn.trans I2.ext.2.1),?_⟩
   exact h σ H H0 (I2.base ex1)
noncomputable def R.noE {α:Type} (r:R α):R α:=match r with
 | .er _=>.st
 | r=>r
theorem Rk.noE {α:Type} {EX EX':Ex->Prop} {r:R α} {k:α->Prop} (h:Rk EX r.noE k):Rk EX' r k:=by
 cases r with
 | ok a=>exact h
 | er x=>exact h.elim
 | st=>exact h
def BD (K:Frag) (bn:D->Option (List D)) (B:V->Hp->(List V->Hp->Prop)->Prop):Prop:=∀(H0 H:Hp) (x:V) (d:D) (ds:List D) (Q:List V->Hp->Prop),Same H0 H->RD K H0 d x->bn d=some ds->(∀vs,RDs K H0 ds vs->Q vs H)->B x H Q
noncomputable def b1:D->Option (List D):=fun d=>some [d]
noncomputable def bT (n:Nat):D->Option (List D)
 | .tup ds=>if ds.length=n then some ds else none
 | _=>none
theorem zxp:BD K b1 cB1:=fun H0 H x d ds Q s r e q=>by
 simp only [b1,Option.some.injEq] at e
 subst e
 exact q [x] (.one r)
theorem zwn {n:Nat}:BD K (bT n) (cBT n):=fun H0 H x d ds Q s r e q=>by
 cases d<;>simp only [bT] at e<;>first | cases e | skip
 rename_i es
 split at e
 . rename_i hl
   cases e
   simp only [RD] at r
   obtain ⟨a,xs,rfl,ha,rs⟩:=r
   unfold cBT
   simp only [s a _ ha]
   exact ⟨by rw [<-rs.length];exact hl,q xs rs⟩
 . cases e
noncomputable def sel (ix:List Nat) (ρ:DE):DE:=ix.map fun j=>(ρ[j]?).getD none
noncomputable def z3j (bn:D->Option (List D)) (t:DE->R Bool) (f:DE->R D) (cs:DE):List D->R (List D)
 | []=>.ok []
 | d::ds=>(R.of (bn d)).bind fun bs=>(t (bs.map some++cs)).noE.bind fun b=>if b=true then (f (bs.map some++cs)).noE.bind fun y=>(z3j bn t f cs ds).bind fun ys=>.ok (y::ys) else z3j bn t f cs ds
noncomputable def z2b (fi:DE->R (List D)) (bn:D->Option (List D)) (ix:List Nat) (t:DE->R Bool) (f:DE->R D):DE->R D:=fun ρ=>(fi ρ).bind fun ds=>if ds.length<=100000 then (z3j bn t f (sel ix ρ) ds).bind fun ys=>.ok (.lst ys) else .st
theorem RE.sel {ρ:DE} {vs:List V} {ds:List D} (h:RE K H0 ρ σ) (r:RDs K H0 ds vs) (ix:List Nat):RE K H0 (ds.map some++sel ix ρ) (vs.map some++zh4 ix σ):=by
 have hl:=r.length
 refine ⟨by simp [L2.sel,zh4,hl],fun i d e=>?_⟩
 by_cases hi:i<ds.length
 . rw [List.getElem?_append_left (by simpa using hi),List.getElem?_map] at e
   rw [List.getElem?_append_left (by simpa [<-hl] using hi),List.getElem?_map]
   cases q:ds[i]? with
   | none=>rw [q] at e;cases e
   | some d'=>
    rw [q] at e;cases e
    obtain ⟨x,h1,h2⟩:=r.get' q
    exact ⟨x,by rw [h1];rfl,h2⟩
 . rw [List.getElem?_append_right (by simpa using hi)] at e
   rw [List.getElem?_append_right (by simpa [<-hl] using hi)]
   simp only [List.length_map] at e ⊢
   rw [<-hl]
   unfold L2.sel at e
   unfold zh4
   rw [List.getElem?_map] at e ⊢
   cases q:ix[i - ds.length]? with
   | none=>rw [q] at e;cases e
   | some j=>
    rw [q] at e
    simp only [Option.map_some,Option.some.injEq] at e ⊢
    cases qj:ρ[j]? with
    | none=>rw [qj] at e;cases e
    | some o=>
     rw [qj] at e
     simp only [Option.getD_some] at e
     subst e
     obtain ⟨v,h1,h2⟩:=h.2 j d qj
     exact ⟨v,by rw [h1];rfl,h2⟩
theorem z4t {n:Nat} (h:n<100000):n<sizeLine:=Nat.lt_of_lt_of_le h (by decide)
theorem zew {kp:Bool} {fi:DE->R (List D)} {bn:D->Option (List D)} {B:V->Hp->(List V->Hp->Prop)->Prop} {ix:List Nat} {t:DE->R Bool} {f:DE->R D} {Q:VK} {tt:TT} (hB:BD K bn B) (htt:∀σ H Q,TTd K F0 t σ H Q->tt σ H Q)
  (h:TEd K EX true (z2b fi bn ix t f) σ H Q):zcs (TId K EX kp fi) B ix tt (TEd K F0 false f) σ H Q:=by
 obtain ⟨sx,ρ,H0,s,e,h⟩:=h
 unfold z2b at h
 rw [Rk.bind] at h
 refine ⟨sx,ρ,H0,s,e,h.mono fun ds h J H1 H1' s1 e1 it D hD=>?_⟩
 split at h
 . rename_i hsz
   rw [Rk.bind] at h
   have it':zp9 K J H1' ds:=by
    cases kp with
    | true=>rw [if_pos rfl] at it;exact ⟨fun i d q H H1 a b=>it.1 i d q H H1 (fun _ _ z=>nomatch z) b,fun H a=>it.2 H fun _ _ z=>nomatch z⟩
    | false=>rw [if_neg Bool.false_ne_true] at it;exact it
   have e':=e.mono e1.1
   have hDn:H1' D=none:=e1.2.1.none hD
   refine ⟨fun i mm ys H2=>mm=ds.length - i/\i<=ds.length/\ys.length<=i/\∃acc H2',Same H1 H2/\H2 D=some (.lst ys)/\Ext H1' H1 H2' H2/\H2' D=none/\RDs K H2' acc ys /\
    Rk EX.at (z3j bn t f (L2.sel ix ρ) (ds.drop i)) fun rest=>∀v H',Out K true H0 H (.lst (acc++rest)) v H'->Q v H',⟨ds.length,by simp,Nat.zero_le _,Nat.le_refl _,[],H1',Same.upd_new hD,z0r,(Ext.refl e1.2.1).grow (Same.upd_new hD),hDn,.nil,h⟩,?_⟩
   rintro i mm ys H2 ⟨rfl,hi,hys,acc,H2',s2,hd2,e2,hdn2,r2,h⟩
   refine ⟨hd2,?_⟩
   by_cases hlt:i<ds.length
   . have hd:ds[i]?=some ds[i]:=by simp [hlt]
     obtain ⟨hgo,hy⟩:=it'.1 i _ hd H2 H2' e2.1 e2.2.1
     have hdr:ds.drop i=ds[i]::ds.drop (i+1):=List.drop_eq_getElem_cons hlt
     rw [hdr] at h
     unfold z3j at h
     rw [Rk.bind] at h
     obtain ⟨bs,hbs,h⟩:=h.of
     rw [Rk.bind] at h
     refine .inr ⟨hgo,fun x H3 y=>?_⟩
     obtain ⟨s3,H3',e3,r3⟩:=hy x H3 y
     refine hB H3' H3 x _ bs _ e3.2.1 r3 hbs fun vs rvs=>?_
     have en:=(e'.mono (e2.1.trans e3.1)).sel rvs ix
     have e23:=e2.trans s2 e3
     refine htt _ _ _ ⟨F0.same _,_,H3',e3.2.1,en,(Rk.noE h).mono fun b h H4 s4=>?_⟩
     have s14:=s2.trans (s3.trans s4)
     have hd4:H4 D=some (.lst ys):=s4 _ _ (s3 _ _ hd2)
     have hdn3:H3' D=none:=e3.2.2 D (z6c hd2) hdn2
     have e14:Ext H1' H1 H3' H4:=e23.grow s4
     cases b with
     | false=>
      rw [if_neg Bool.false_ne_true] at h
      dsimp only
      rw [if_neg Bool.false_ne_true]
      exact ⟨ds.length - (i+1),by omega,rfl,hlt,by omega,acc,H3',s14,hd4,e14,hdn3,r2.mono e3.1,h⟩
     | true=>
      rw [if_pos rfl] at h
      dsimp only
      rw [if_pos rfl]
      rw [Rk.bind] at h
      refine ⟨F0.same _,_,H3',e14.2.1,en,(Rk.noE h).mono fun y h w H5 o5=>?_⟩
      obtain ⟨s5,H5',e5,r5⟩:=o5.rd
      have hd5:H5 D=some (.lst ys):=s5 _ _ hd4
      have hdn5:H5' D=none:=e5.2.2 D (z6c hd4) hdn3
      have e15:=e14.trans s14 e5
      rw [Rk.bind] at h
      refine ⟨hd5,z4t (by omega),ds.length - (i+1),by omega,rfl,hlt,by rw [List.length_append];show ys.length+1<=i+1;omega,acc++[y],H5',(s14.trans s5).upd_at hD,z0r,⟨e15.1,e15.2.1.upd_at hdn5,e15.2.2⟩,hdn5,((r2.mono (e3.1.trans e5.1))).append (.one r5),?_⟩
      exact h.mono fun rest h v H' o=>h v H' (by simpa using o)
   . have ei:i=ds.length:=by omega
     subst ei
     rw [List.drop_length] at h
     refine .inl ⟨it'.2 H2 (e2.1.trans e2.2.1),h _ H2 ?_⟩
     rw [List.append_nil]
     refine Out.after s1 e1 (.fresh s2 e2 hD hdn2 ?_)
     simp only [OB]
     exact ⟨ys,hd2,r2⟩
 . exact h.elim
noncomputable def mOf (fr:Bool) (n k:Nat) (g:DS->SR):List D->R D:=fun ds=>if ds.length=n then (match g (ds.map .im++List.replicate k .em) with
 | .rt d=>.ok d
 | .nx _=>if fr=true then .st else .ok .non
 | .er x=>.er x
 | _=>.st) else .st
def xNm (mg:Str->Option Value) (E:XK) (x:Ex) (H:Hp):Prop:=∃C,mg (x.cls:Str)=some (.ref C)/\E (.ref C) none H
noncomputable def spD (K:Frag) (mg:Str->Option Value) (fr:Bool) (m:List D->R D) (n:Nat):Sp:=fun vs H Q E=>∃ds H0,Same H0 H/\RDs K H0 ds vs/\ds.length=n/\Rk (XW.at ⟨H,xNm mg E⟩) (m ds) fun d=>∀v H',Out K fr H0 H d v H'->Q v H'
noncomputable def z9e (sp:Sp) (E:XK) (t:TA):TE:=fun σ H Q=>t σ H fun vs H1=>sp vs H1 Q E
theorem zpa {mg:Str->Option Value} {E:XK} {m:List D->R D} {n:Nat} {fs:DE->R (List D)} {Q:VK} (hl:∀ds,ds.length≠n->m ds=.st) (hE:∀x H,EX.p x H->xNm mg E x H) (h:TEd K EX fr (z18 m fs) σ H Q):z9e (spD K mg fr m n) E (TAd K EX fs) σ H Q:=by
 obtain ⟨sx,ρ,H0,s,e,h⟩:=h
 unfold z18 at h
 rw [Rk.bind] at h
 refine TAd.go sx s e h fun ds h vs H1 H1' s1 e1 r1=>?_
 refine ⟨ds,H1',e1.2.1,r1,?_,?_⟩
 . apply Classical.byContradiction
   intro hn
   rw [hl ds hn] at h
   exact h
 . cases q:m ds with
   | ok d=>rw [q] at h;exact fun v H' o=>h v H' (o.after s1 e1)
   | er x=>rw [q] at h;exact fun H' s'=>hE x H' (h H' ((sx.trans s1).trans s'))
   | st=>rw [q] at h;exact h
theorem zlj {n k:Nat} {g:DS->SR} (ds:List D) (h:ds.length≠n):mOf fr n k g ds=.st:=by unfold mOf;rw [if_neg h]
theorem zht {vs:List V} {ds:List D} (s:Same H0 H) (r:RDs K H0 ds vs) (k:Nat):RS K H0 H H0 (ds.map .im++List.replicate k .em) (vs.map some++List.replicate k none) H:=by
 have hl:=r.length
 have noow:∀(i:Nat) d,(ds.map Sl.im++List.replicate k Sl.em)[i]?≠some (.ow d):=fun i d q=>by
  rcases List.mem_append.mp (List.mem_of_getElem? q) with z | z
  . obtain ⟨_,_,z⟩:=List.mem_map.mp z;cases z
  . have:=(List.mem_replicate.mp z).2;cases this
 refine ⟨Same.refl _,.refl s,by simp [hl],fun i d q=>?_,fun i d q=>absurd q (noow i d),fun i j d e a q=>absurd q (noow i d)⟩
 by_cases hi:i<ds.length
 . rw [List.getElem?_append_left (by simpa using hi),List.getElem?_map] at q
   rw [List.getElem?_append_left (by simpa [<-hl] using hi),List.getElem?_map]
   cases qd:ds[i]? with
   | none=>rw [qd] at q;cases q
   | some d'=>
    rw [qd] at q
    simp only [Option.map_some,Option.some.injEq,Sl.im.injEq] at q
    subst q
    obtain ⟨x,h1,h2⟩:=r.get' qd
    exact ⟨x,by rw [h1];rfl,h2⟩
 . rw [List.getElem?_append_right (by simpa using hi)] at q
   have:=(List.mem_replicate.mp (List.mem_of_getElem? q)).2
   cases this
theorem zpb {n k:Nat} {g:DS->SR} {vs:List V} {Q:VK} {E:XK} {mg:Str->Option Value} (h:spD K mg fr (mOf fr n k g) n vs H Q E) :
  TSd K ⟨H,xNm mg E⟩ fr g { nx:=fun _ H'=>Q .non H',rt:=Q } (vs.map some++List.replicate k none) H:=by
 obtain ⟨ds,H0,s,r,hn,h⟩:=h
 refine ⟨H0,H,H0,_,Same.refl _,zht s r k,?_⟩
 unfold mOf at h
 rw [if_pos hn] at h
 cases q:g (ds.map .im++List.replicate k .em) with
 | nx ρ=>
  rw [q] at h
  cases fr with
  | true=>exact h.elim
  | false=>exact fun σ H' H0' I=>h _ H' (.val I.sb I.ext (by simp only [RD]))
 | rt d=>rw [q] at h;exact h
 | er x=>rw [q] at h;exact h
 | bk ρ=>rw [q] at h;exact h.elim
 | ct ρ=>rw [q] at h;exact h.elim
 | st=>rw [q] at h;exact h.elim
end
theorem ObjOk.there {P:Program} {w:World} {H:Hp} {h:Heap} {a:Addr} {o:HO} (x:ObjOk P w H h a o):∃ob,h.get? a=some ob:=by
 induction o with
 | lst xs=>obtain ⟨_,_,_,_,e⟩:=x;exact ⟨_,e⟩
 | tup xs=>obtain ⟨_,_,_,ob,e,_⟩:=x;exact ⟨_,e⟩
 | dK kvs=>obtain ⟨_,_,_,_,o,_,_,e,_⟩:=x;exact ⟨_,e⟩
 | dT kvs=>obtain ⟨_,_,_,_,o,_,_,e,_⟩:=x;exact ⟨_,e⟩
 | set S n=>obtain ⟨o,_,_,_,e,_⟩:=x;exact ⟨_,e⟩
 | ins C dx fs=>obtain ⟨_,_,_,e,_⟩:=x;exact ⟨_,e⟩
 | own y=>exact x
 | xd fs=>obtain ⟨_,⟨_,_,_,e,_⟩,_⟩:=x;exact ⟨_,e⟩
 | rng lo hi=>obtain ⟨_,_,_,e⟩:=x;exact ⟨_,e⟩
 | frz ob u ih=>exact ⟨_,x.1⟩
 | tbl ps=>exact ⟨_,x⟩
 | met f y=>exact ⟨_,x⟩
 | ext φ=>exact x.2.1
theorem HOk.none {P:Program} {w:World} {H:Hp} {h:Heap} {a:Addr} (x:HOk P w H h) (e:h.get? a=Option.none):H a=Option.none:=by
 cases q:H a with
 | none=>rfl
 | some o=>
  obtain ⟨ob,z⟩:=(x a o q).there
  rw [e] at z;cases z
def Fly (h0:Heap) (H':Hp) (C a:Addr) (h:Heap):Prop:=∃oe vs T oT ts a0,h.get? a=some oe/\oe.cls=.ref C/\vs[0]?=some a0/\oe.data=.fields vs/\vs[1]?=some (.ref T)/\T≠a/\h.get? T=some oT/\oT.data=.fields ts/\ts[3]?=some Value.none /\
 h0.get? a=none/\h0.get? T=none/\H' a=none/\H' T=none
structure XOut (P:Program) (w:World) (outer:List Env) (H:Hp) (s:Shared) (C a:Addr) (H':Hp) (s':Shared):Prop where
 os:s'.os=s.os
 bare:AllBare s'.gens
 un:Un (frs outer) [] H H' s.heap s'.heap
 hok:HOk P w H' s'.heap
 fly:Fly s.heap H' C a s'.heap
noncomputable def CX1 (P:Program) (w:World):CXT:=fun outer H s E e s'=>∃C a H',e=.ref a/\XOut P w outer H s C a H' s'/\E (.ref C) none H'
theorem z9f {l:List Addr} {h:Heap} {b:Addr} (e:(hideAll h l).get? b=none):b∈l\/h.get? b=none:=by
 by_cases hb:b∈l
 . exact .inl hb
 . cases q:h.get? b with
   | none=>exact .inr rfl
   | some o=>rw [hideAll_get l q hb] at e;cases e
section
variable {X:Cx} {pins:List (Addr×Obj)} {σ:List (Option V)} {H1 H2:Hp} {s1 s2:Shared} {h' B:Heap} {Z:List Addr} {C a:Addr} {a0:Value}
theorem Inv.stack2 (I:Inv X pins σ H1 s1) (un:Un (frs X.stack) [] H1 H2 s1.heap s2.heap):s2.heap.FunFrames X.base X.stack:=by
 have all:∀(l:List Env),(∀b∈frs l,b∈frs X.stack)->s1.heap.FunFrames X.base l->s2.heap.FunFrames X.base l:=by
  intro l
  induction l with
  | nil=>intro _ _;trivial
  | cons env r ih=>
   intro hs hl
   obtain ⟨hk,⟨L,o,hf,hn,ho,hd⟩,hr⟩:=hl
   have hL:L∈frs X.stack:=hs L (by unfold frs;rw [List.filterMap_cons,hf];exact List.mem_cons_self)
   obtain ⟨sl,e⟩:=un.slot L o ho (I.stkFree L hL) hL (by simp)
   exact ⟨hk,⟨L,_,hf,hn,e,hd⟩,ih (fun b hb=>hs b (by unfold frs;rw [List.filterMap_cons,hf];exact List.mem_cons_of_mem _ hb)) hr⟩
 exact all X.stack (fun _ hb=>hb) I.stack
theorem z7d (I:Inv X pins σ H1 s1) (hst:X.stack=X.env::X.outer) (hex:X.ex=[]) (hos:s2.os=s1.os) (hbare:AllBare s2.gens) (un:Un (frs X.stack) [] H1 H2 s1.heap s2.heap) (hok:HOk X.prog X.w H2 s2.heap)
  (hZ:∀b∈Z,s1.heap.get? b=none/\H2 b=none) (ha:s1.heap.get? a=none) (hHa:H2 a=none) (keep:∀b o,s2.heap.get? b=some o->b∉Z->b∉frs X.stack->h'.get? b=some o)
  (up:s2.heap.UpToSlots h') (hB:∀b,B.get? b=none->b∈frs X.stack\/(s1.heap.get? b=none/\H2 b=none)) (hfl:Heap.FlyingW B X.outer a (.ref C) a0 h') :
  XOut X.prog X.w X.outer X.H₀ X.s₀ C a H2 { s2 with heap:=h' }:=by
 have base:Un X.fs [] X.H₀ H1 X.s₀.heap s1.heap:=hex ▸ I.base
 have F2:=I.stack2 un
 have sub:∀b∈frs X.outer,b∈frs X.stack:=fun b hb=>by
  rw [hst];unfold frs
  cases q:X.env.frame with
  | none=>rw [List.filterMap_cons,q];exact hb
  | some L=>rw [List.filterMap_cons,q];exact List.mem_cons_of_mem _ hb
 have neL:∀b o,X.s₀.heap.get? b=some o->b≠X.env.locals:=fun b o e=>Nat.ne_of_lt (Nat.lt_of_lt_of_le (Heap.lt_size e) I.ok.above)
 have nost:∀b o,X.s₀.heap.get? b=some o->b∉frs X.outer->b∉frs X.stack:=fun b o e hb z=>(List.mem_cons.mp (I.stkSub b z)).elim (neL b o e) hb
 have fresh0:∀b,s1.heap.get? b=none->X.s₀.heap.get? b=none:=fun b e=>by
  cases q:X.s₀.heap.get? b with
  | none=>rfl
  | some o=>
   obtain ⟨o',z⟩:=base.there b o q (by simp)
   rw [e] at z;cases z
 have noZ:∀b o,X.s₀.heap.get? b=some o->b∉Z:=fun b o e hb=>by
  rw [fresh0 b (hZ b hb).1] at e;cases e
 have frFree:∀b∈frs X.stack,H2 b=none:=fun b hb=>by
  obtain ⟨_,o,ho,_⟩:=I.stack.mem hb
  exact un.free b o ho (I.stkFree b hb) (by simp)
 have slotF:∀b∈frs X.stack,∀o,s2.heap.get? b=some o->∃sl,h'.get? b=some { o with slots:=sl }:=fun b hb o e=>by
  obtain ⟨_,o',ho',hd⟩:=F2.mem hb
  rw [e] at ho';cases ho'
  exact up b o e hd
 refine ⟨by show s2.os=_;rw [hos,I.os],hbare,⟨fun b o e n hb _=>?_,fun b o e n hb _=>?_,fun b o e n _=>?_,fun b o e _=>?_,fun b xs e=>un.tups b xs (base.tups b xs e),fun b o u e=>un.frzs b o u (base.frzs b o u e),fun b ps e=>?_⟩,fun b o e=>?_,?_⟩
 . exact keep b o (un.keep b o (base.keep b o e n hb (by simp)) (base.free b o e n (by simp)) (nost b o e hb) (by simp)) (noZ b o e) (nost b o e hb)
 . obtain ⟨sl,e1⟩:=base.slot b o e n hb (by simp)
   obtain ⟨sl2,e2⟩:=un.slot b _ e1 (base.free b o e n (by simp)) (sub b hb) (by simp)
   obtain ⟨sl3,e3⟩:=slotF b (sub b hb) _ e2
   exact ⟨sl3,e3⟩
 . obtain ⟨o1,e1⟩:=base.there b o e (by simp)
   exact un.free b o1 e1 (base.free b o e n (by simp)) (by simp)
 . obtain ⟨o1,e1⟩:=base.there b o e (by simp)
   obtain ⟨o2,e2⟩:=un.there b o1 e1 (by simp)
   by_cases hb:b∈frs X.stack
   . obtain ⟨sl,e3⟩:=slotF b hb _ e2
     exact ⟨_,e3⟩
   . exact ⟨o2,keep b o2 e2 (noZ b o e) hb⟩
 . obtain ⟨m1,e1⟩:=base.tbls b ps e
   obtain ⟨m2,e2⟩:=un.tbls b _ e1
   exact ⟨m1++m2,by rw [e2,Array.append_assoc]⟩
 . refine (hok b o e).stay (fun c v hc q=>keep c v q (fun hz=>?_) fun hf=>?_) (fun _ q=>q) fun _ _ q=>q
   . have:=(hZ c hz).2
     rcases hc with rfl | hc
     . rw [e] at this;cases this
     . rw [hc] at this;cases this
   . have:=frFree c hf
     rcases hc with rfl | hc
     . rw [e] at this;cases this
     . rw [hc] at this;cases this
 . obtain ⟨_,_,_,oe,vs,T,oT,ts,he,⟨hc,h0⟩,hd,h1,hnT,hTe,hT,hdT,h3⟩:=hfl
   have hTn:s1.heap.get? T=none/\H2 T=none:=by
    rcases hB T hnT with z | z
    . obtain ⟨_,o',ho',hd'⟩:=F2.mem z
      obtain ⟨sl,e3⟩:=slotF T z o' ho'
      rw [hT] at e3;cases e3
      exact absurd hdT (hd' ts)
    . exact z
   exact ⟨oe,vs,T,oT,ts,a0,he,hc,h0,hd,h1,hTe,hT,hdT,h3,fresh0 a ha,fresh0 T hTn.1,hHa,hTn.2⟩
theorem zhu (I:Inv X pins σ H1 s1) (hst:X.stack=X.env::X.outer) (hex:X.ex=[]) (hf:X.env.frame=some X.env.locals) (x:XOut X.prog X.w X.stack H1 s1 C a H2 s2) {E:Value->Shared->Prop} {Q:Unit->Shared->Prop}
  (h:∀s',XOut X.prog X.w X.outer X.H₀ X.s₀ C a H2 s'->Q () s'):wpAny (model X.prog X.w) X.A (leaving X.env (.ref a)) Q E s2:=by
 obtain ⟨oe,vs,T,oT,ts,a0,he,hc,h0,hd,h1,hTe,hT,hdT,h3,na,nT,ha,hHT⟩:=id x.fly
 have F2:=I.stack2 x.un
 have hin:∀env∈X.stack,∀b,env.frame=some b->b∈a::T::frs X.stack:=fun env he b hb=>List.mem_cons_of_mem _ (List.mem_cons_of_mem _ (List.mem_filterMap.mpr ⟨env,he,hb⟩))
 have hfr:X.A.frames=some (X.env::X.outer):=by rw [<-hst];exact I.ok.frames
 refine wpAny_leaves_onW (base:=hideAll s2.heap (a::T::frs X.stack)) (cls:=.ref C) (a0:=a0) hfr hf ⟨fun b o q=>PySem.W.of_hideAll _ q,PySem.W.hideAll_none _ (.head _),hst ▸ PySem.W.funFrames_hide F2 hin,?_⟩ fun h' hfl up=>h _ (z7d (Z:=[a,T]) I hst hex x.os x.bare x.un x.hok (fun b hb=>?_) na ha (fun b o q hz hfs=>hfl.1 b o (hideAll_get _ q ?_)) up (fun b q=>?_) hfl)
 . exact ⟨oe,vs,T,oT,ts,he,⟨hc,h0⟩,hd,h1,PySem.W.hideAll_none _ (.tail _ (.head _)),hTe,hT,hdT,h3⟩
 . rcases List.mem_cons.mp hb with rfl | hb
   . exact ⟨na,ha⟩
   . have:b=T:=by simpa using hb
     subst this;exact ⟨nT,hHT⟩
 . intro z
   rcases List.mem_cons.mp z with rfl | z
   . exact hz (.head _)
   . rcases List.mem_cons.mp z with rfl | z
     . exact hz (.tail _ (.head _))
     . exact hfs z
 . rcases z9f q with z | z
   . rcases List.mem_cons.mp z with rfl | z
     . exact .inr ⟨na,ha⟩
     . rcases List.mem_cons.mp z with rfl | z
       . exact .inr ⟨nT,hHT⟩
       . exact .inl z
   . refine .inr ⟨?_,x.hok.none z⟩
     cases q1:s1.heap.get? b with
     | none=>rfl
     | some o=>
      obtain ⟨o',e'⟩:=x.un.there b o q1 (by simp)
      rw [z] at e';cases e'
theorem zcx (I:Inv X pins σ H1 s1) (hst:X.stack=X.env::X.outer) (hex:X.ex=[]) (hf:X.env.frame=some X.env.locals) {args:List Value} (hx:Heap.MadeExcOf s1.heap s2.heap a (.ref C) args) (hos:s2.os=s1.os) (hbare:AllBare s2.gens) {E:Value->Shared->Prop} {Q:Unit->Shared->Prop}
  (h:∀s',XOut X.prog X.w X.outer X.H₀ X.s₀ C a H1 s'->Q () s'):wpAny (model X.prog X.w) X.A (leaving X.env (.ref a)) Q E s2:=by
 have hin:∀env∈X.stack,∀b,env.frame=some b->b∈frs X.stack:=fun env he b hb=>List.mem_filterMap.mpr ⟨env,he,hb⟩
 have hfr:X.A.frames=some (X.env::X.outer):=by rw [<-hst];exact I.ok.frames
 obtain ⟨t,het,htn,ht⟩:=hx.there
 refine wpAny_leaves_madeW (base:=hideAll s1.heap (frs X.stack)) (h:=s1.heap) hfr hf (fun b o q=>PySem.W.of_hideAll _ q) (hst ▸ PySem.W.funFrames_hide I.stack hin) hx fun h' t' hfl htup htb up=>h _ ?_
 refine z7d (B:=hideAll s1.heap (frs X.stack)) (Z:=s2.heap.objs.size::(List.range s2.heap.objs.size).filter fun b=>(s1.heap.get? b).isNone) I hst hex hos hbare (Un.kept hx.keeps) (I.hok.kept hx.keeps) (fun b hb=>?_) hx.new (I.hok.none hx.new) (fun b o q hz hfs=>?_) up (fun b q=>?_) hfl
 . rcases List.mem_cons.mp hb with rfl | hb
   . have e:s1.heap.get? s2.heap.objs.size=none:=by
      cases q:s1.heap.get? s2.heap.objs.size with
      | none=>rfl
      | some o=>exact absurd (Heap.lt_size (hx.keeps _ o q)) (Nat.lt_irrefl _)
     exact ⟨e,I.hok.none e⟩
   . have e:=(List.mem_filter.mp hb).2
     have e:s1.heap.get? b=none:=by simpa using e
     exact ⟨e,I.hok.none e⟩
 . cases e:s1.heap.get? b with
   | none=>exact absurd (.tail _ (List.mem_filter.mpr ⟨List.mem_range.mpr (Heap.lt_size q),by simp [e]⟩)) hz
   | some o'=>
    have:=hx.keeps b o' e
    rw [q] at this;cases this
    exact hfl.1 b o (hideAll_get _ e hfs)
 . rcases z9f q with z | z
   . exact .inl z
   . exact .inr ⟨z,I.hok.none z⟩
end
noncomputable def eOf (EX:XW) (mg:Str->Option Value):XK:=fun cv _ H=>∃x:Ex,EX.p x H/\mg (x.cls:Str)=some cv
structure Lnd (X:Cx) (EX:XW):Prop where
 nm:∀x H,EX.p x H->∃C,X.mg (x.cls:Str)=some (.ref C)
 on:zb9 (CX1 X.prog X.w) X (eOf EX X.mg)
 md:∀(pins:List (Addr×Obj)) (σ:St) (H:Hp) (s:Shared) (a C:Addr) (s':Shared) (x:Ex) (args:List Value),Inv X pins σ H s->Heap.MadeExcOf s.heap s'.heap a (.ref C) args->s'.os=s.os->AllBare s'.gens->X.mg (x.cls:Str)=some (.ref C)->EX.p x H->X.xe (.ref a) s'
theorem zuh {X:Cx}:Lnd X F0:=⟨fun _ _ z=>z.elim,fun _ _ _ _ _ _ _ ⟨_,_,_,_,_,_,z,_⟩=>z.elim,fun _ _ _ _ _ _ _ _ _ _ _ _ _ _ z=>z.elim⟩
theorem z5a {P:Program} {w:World} {K:Frag} {mg:Str->Option Value} {base:Heap} {N:List Str} {qual:Str} {sc:Scope} {f:Addr} {cdv:Value} {A:Around} {outer:List Env} {s:Shared} {H:Hp} {E:XK} :
  Lnd (zh3 (CX1 P w) P w K mg base N qual sc f cdv A outer s H E) ⟨H,xNm mg E⟩:=by
 refine ⟨fun x H ⟨C,hC,_⟩=>⟨C,hC⟩,?_,?_⟩
 . rintro pins σ H1 s1 e s' I ⟨C,a,H',rfl,xo,x,⟨C',hC',hE⟩,hmg⟩
   have hmg:mg (x.cls:Str)=some (.ref C):=hmg
   rw [hC'] at hmg
   cases hmg
   exact zhu I rfl rfl rfl xo fun s'' y=>⟨_,a,H',rfl,y,hE⟩
 . rintro pins σ H1 s1 a C s' x args I hx ho hb hmg ⟨C',hC',hE⟩
   have hmg:mg (x.cls:Str)=some (.ref C):=hmg
   rw [hC'] at hmg
   cases hmg
   exact zcx I rfl rfl rfl hx ho hb fun s'' y=>⟨_,a,H1,rfl,y,hE⟩
def z35 (P:Program) (w:World) (K:Frag) (mg:Str->Option Value) (base:Heap) (x:Str) (ps:List Str) (k:Nat) (sp:Sp):Prop:=
 ∃f fd,FnOk P w K mg base (CX1 P w) k f fd ps sp/\Binds K fd ps []/\mg x=some (.ref f)/\keepIn K (.ref f)=true
section
variable {X:Cx} {x:Str} {p pos:Pos} {e:Expr} {es:List Expr} {t:TA} {ps:List Str} {k j:Nat} {sp:Sp} {E:XK}
theorem zex (G:z35 X.prog X.w X.K X.mg X.base x ps k sp) (hx:zb9 (CX1 X.prog X.w) X E) (hr:Room j X.A) (hg:Gl X x) (ha:PA X (e::es) t) (hkj:k<=j:=by omega) (hdb:(x==("__debug__":Str))=false:=by decide)
  (he:starEach (e::es) X.env=(false,eval e X.env)::starEach es X.env:=by rfl) (hpl:(backTo pos (starEach es X.env)).any (·.1)=false:=by rfl):PE X (.Call (.Name x p) (e::es) [] pos) (z9e sp E t):=by
 obtain ⟨f,fd,F,b,m,kp⟩:=G
 refine (zks F (hr.mono hkj) hg m kp b .nil hx ha hdb he hpl).imp fun σ H Q q=>?_
 unfold zoc
 unfold z9e at q
 simpa only [List.append_nil] using q
end
theorem Fun.okX {P:Program} {w:World} {K:Frag} {mg:Str->Option Value} {base:Heap} {x qual:Str} {st:Stmt} {f:Addr} {fd:FuncData} {N ps:List Str} {k:Nat} {sp:Sp} {CX:CXT} (F:Fun K x qual st f fd) (S:FnScope N ps (z03 st)) (len:∀vs H Q E,sp vs H Q E->vs.length=ps.length)
  (hbody:∀(cdv:Value) (A:Around) (outer:List Env) (s:Shared) (H:Hp) (vs:List V) (Q:VK) (E:XK),Room k (A.deeper (envOfC qual (z03 st) s.heap.objs.size f cdv))->sp vs H Q E ->
   ∃t,PSs (zh3 CX P w K mg base N qual (z03 st) f cdv A outer s H E) (z0e st) t/\t { nx:=fun _ H'=>Q .non H',rt:=Q } (start N vs) H):FnOk P w K mg base CX (k+1) f fd ps sp:=by
 obtain ⟨oc,od,kV,doc,pm,an,cdv,ct,osl,rfl,lk,hcd⟩:=F.ex
 refine zoe lk hcd S len fun A outer s H vs Q E hr hsp=>?_
 exact hbody cdv A outer s H vs Q E hr hsp
section
variable {K:Frag} {H:Hp} {v:V}
theorem RD.int {i:Int} (h:RD K H (.int i) v):v=.int i:=by simpa only [RD] using h
theorem RD.str {i:Str} (h:RD K H (.str i) v):v=.str i:=by simpa only [RD] using h
theorem RD.non (h:RD K H .non v):v=.non:=by simpa only [RD] using h
theorem RD.tup {ds:List D} (h:RD K H (.tup ds) v):∃a xs,v=.ref a/\H a=some (.tup xs)/\RDs K H ds xs:=by simpa only [RD] using h
theorem RD.lst {ds:List D} (h:RD K H (.lst ds) v):∃a xs,v=.ref a/\H a=some (.lst xs)/\RDs K H ds xs:=by simpa only [RD] using h
theorem RD.dk {ks:List Key} {ds:List D} (h:RD K H (.dk ks ds) v):∃a xs,v=.ref a/\H a=some (.dK (ks.zip xs))/\ks.length=xs.length/\RDs K H ds xs:=by simpa only [RD] using h
theorem RD.dt {ks:List (List Key)} {ds:List D} (h:RD K H (.dt ks ds) v):∃a xs,v=.ref a/\H a=some (.dT (ks.zip xs))/\ks.length=xs.length/\RDs K H ds xs:=by simpa only [RD] using h
theorem RD.scr {ns:List Int} (h:RD K H (.scr ns) v):∃a,v=.ref a/\SqL K H a (ns.map V.int):=by
 simp only [RD] at h
 obtain ⟨a,e,h | h⟩:=h
 . exact ⟨a,e,.inl (.inr h)⟩
 . exact ⟨a,e,.inr h⟩
theorem RD.mkInt (i:Int):RD K H (.int i) (.int i):=by simp only [RD]
theorem RD.mkBl (i:Bool):RD K H (.bl i) (.bl i):=by simp only [RD]
theorem RD.mkNon:RD K H .non .non:=by simp only [RD]
theorem RD.mkStr (i:Str):RD K H (.str i) (.str i):=by simp only [RD]
theorem RD.mkTup {a:Addr} {xs:List V} {ds:List D} (h:H a=some (.tup xs)) (r:RDs K H ds xs):RD K H (.tup ds) (.ref a):=by simp only [RD];exact ⟨a,xs,rfl,h,r⟩
end
noncomputable def dI (g:Int->Int->D):D->D->Option D
 | .int i,.int j=>some (g i j)
 | _,_=>none
noncomputable def dIC (C:Int->Int->Prop) [∀i j,Decidable (C i j)] (g:Int->Int->D):D->D->Option D
 | .int i,.int j=>if C i j then some (g i j) else none
 | _,_=>none
noncomputable def dOr (o p:D->D->Option D):D->D->Option D:=fun d e=>match o d e with
 | some z=>some z
 | none=>p d e
section
variable {K:Frag}
theorem OpD.weak {fr:Bool} {o:D->D->Option D} {r:R2} (h:OpD K fr o r):OpD K false o r:=fun H0 H x y d e z Q s rx ry ho k=>h H0 H x y d e z Q s rx ry ho fun v H' q=>k v H' q.weak
theorem OpD.or {f1 f2:Bool} {o p:D->D->Option D} {r q:R2} (h1:OpD K f1 o r) (h2:OpD K f2 p q):OpD K false (dOr o p) (fun x y H Q=>r x y H Q\/q x y H Q):=by
 intro H0 H x y d e z Q s rx ry ho k
 unfold dOr at ho
 split at ho
 . rename_i z' hz
   cases ho
   exact .inl (h1.weak H0 H x y d e z Q s rx ry hz k)
 . exact .inr (h2.weak H0 H x y d e z Q s rx ry ho k)
theorem zt7 {gv:Int->Int->V} {gd:Int->Int->D} (h:∀i j H,RD K H (gd i j) (gv i j)):OpD K false (dI gd) (cI gv):=by
 intro H0 H x y d e z Q s rx ry ho k
 cases d<;>simp only [dI] at ho<;>first | cases ho | skip
 cases e<;>simp only [dI] at ho<;>first | cases ho | skip
 cases rx.int;cases ry.int
 exact k _ H (.pure s (h _ _ _))
theorem zey {C:Int->Int->Prop} [∀i j,Decidable (C i j)] {gv:Int->Int->V} {gd:Int->Int->D} (h:∀i j H,RD K H (gd i j) (gv i j)):OpD K false (dIC C gd) (cIC C gv):=by
 intro H0 H x y d e z Q s rx ry ho k
 cases d<;>simp only [dIC] at ho<;>first | cases ho | skip
 cases e<;>simp only [dIC] at ho<;>first | cases ho | skip
 cases rx.int;cases ry.int
 split at ho
 . rename_i hcc
   cases ho
   exact ⟨hcc,k _ H (.pure s (h _ _ _))⟩
 . cases ho
instance (i j:Int):Decidable (CMul i j):=by unfold CMul;infer_instance
instance (i j:Int):Decidable (zkp i j):=by unfold zkp;infer_instance
instance (i j:Int):Decidable (ze0 i j):=by unfold ze0;infer_instance
noncomputable def z36:D->D->Option D:=dI fun i j=>.int (i+j)
noncomputable def zt8:D->D->Option D:=dI fun i j=>.int (i - j)
noncomputable def zez:D->D->Option D:=dIC CMul fun i j=>.int (i * j)
noncomputable def zbp:D->D->Option D:=dIC zkp fun i j=>.int (i / j)
noncomputable def z3m:D->D->Option D:=dIC (fun _ j=>0<j) fun i j=>.int (i % j)
noncomputable def z7e:D->D->Option D:=dIC ze0 fun i j=>.int (i ^ j.toNat)
noncomputable def zpc:D->D->Option D:=dI fun i j=>.bl (decide (i<j))
noncomputable def dLe:D->D->Option D:=dI fun i j=>.bl (decide (i<=j))
noncomputable def zui:D->D->Option D:=dI fun i j=>.bl (decide (j<i))
noncomputable def dGe:D->D->Option D:=dI fun i j=>.bl (decide (j<=i))
theorem z1t:OpD K false z36 (cI fun i j=>.int (i+j)):=zt7 fun _ _ _=>.mkInt _
theorem zjd:OpD K false zt8 (cI fun i j=>.int (i - j)):=zt7 fun _ _ _=>.mkInt _
theorem zf0:OpD K false zez (cIC CMul fun i j=>.int (i * j)):=zey fun _ _ _=>.mkInt _
theorem z9g:OpD K false zbp (cIC zkp fun i j=>.int (i / j)):=zey fun _ _ _=>.mkInt _
theorem z2k:OpD K false z3m (cIC (fun _ j=>0<j) fun i j=>.int (i % j)):=zey fun _ _ _=>.mkInt _
theorem z4u:OpD K false z7e (cIC ze0 fun i j=>.int (i ^ j.toNat)):=zey fun _ _ _=>.mkInt _
theorem zf1:OpD K false zpc (cI fun i j=>.bl (decide (i<j))):=zt7 fun _ _ _=>.mkBl _
theorem zpd:OpD K false zui (cI fun i j=>.bl (decide (j<i))):=zt7 fun _ _ _=>.mkBl _
noncomputable def znl:D->Option D
 | .int i=>some (.int (-i))
 | _=>none
theorem zf2:UnD K false znl (cU fun i=>.int (-i)):=by
 intro H0 H x d z Q s rx ho k
 cases d<;>simp only [znl] at ho<;>first | cases ho | skip
 cases rx.int
 exact k _ H (.pure s (.mkInt _))
noncomputable def znm:D->D->Option D
 | .lst ds,.lst es=>if ds.length+es.length<=100000 then some (.lst (ds++es)) else none
 | _,_=>none
theorem zt9 {n:Nat} (h:n<=100000):n<=sizeLine:=Nat.le_trans h (by decide)
theorem zpe:OpD K true znm zwi:=by
 intro H0 H x y d e z Q s rx ry ho k
 cases d<;>simp only [znm] at ho<;>first | cases ho | skip
 cases e<;>simp only [znm] at ho<;>first | cases ho | skip
 split at ho<;>cases ho
 rename_i hl
 obtain ⟨a,xs,rfl,ha,ra⟩:=rx.lst
 obtain ⟨b,ys,rfl,hb,rb⟩:=ry.lst
 refine ⟨a,b,xs,ys,rfl,rfl,s _ _ ha,s _ _ hb,by rw [<-ra.length,<-rb.length];exact zt9 hl,fun p hp=>k _ _ (.new s hp fun H' hH=>?_)⟩
 simp only [OB]
 exact ⟨_,hH,ra.append rb⟩
end
noncomputable def dEq:D->D->Option D:=fun d e=>if d.pl=true/\e.pl=true/\d.dep<=20 then some (.bl (eqD d e)) else none
noncomputable def dNe:D->D->Option D:=fun d e=>if d.pl=true/\e.pl=true/\d.dep<=20 then some (.bl (!eqD d e)) else none
noncomputable def zwo (K:Frag):R2:=fun x y H Q=>∃d e,RD K H d x/\RD K H e y/\d.pl=true/\e.pl=true/\d.dep<=20/\Q (.bl (eqD d e)) H
noncomputable def zwp (K:Frag):R2:=fun x y H Q=>∃d e,RD K H d x/\RD K H e y/\d.pl=true/\e.pl=true/\d.dep<=20/\Q (.bl (!eqD d e)) H
noncomputable def znn (neg:Bool):D->D->Option D:=fun d c=>match c with
 | .lst es=>if d.pl=true/\pls es=true/\z3v es<=20 then some (.bl (if neg then !(es.any fun e=>eqD e d) else es.any fun e=>eqD e d)) else none
 | .tup es=>if d.pl=true/\pls es=true/\z3v es<=20 then some (.bl (if neg then !(es.any fun e=>eqD e d) else es.any fun e=>eqD e d)) else none
 | _=>none
noncomputable def zta (K:Frag) (neg:Bool):R2:=fun x y H Q=>∃p xs d es,y=.ref p/\(H p=some (.lst xs)\/H p=some (.tup xs))/\RD K H d x/\RDs K H es xs/\d.pl=true/\pls es=true/\z3v es<=20/\Q (.bl (if neg then !(es.any fun e=>eqD e d) else es.any fun e=>eqD e d)) H
section
variable {X:Cx} {K:Frag}
theorem z4v (hu:X.A.units+64<cLine):OpR X (compareOp .Eq) (zwo X.K):=by
 intro pins s σ H x y v u Q I rx ry h
 obtain ⟨d,e,h1,h2,p1,p2,h3,q⟩:=h
 exact zox (n:=20) I p1 p2 h3 (by omega) h1 h2 rx ry X.prog X.w X.xe _ ⟨.bl _,H,I,rfl,q⟩
theorem z5b (hu:X.A.units+64<cLine):OpR X (compareOp .NotEq) (zwp X.K):=by
 intro pins s σ H x y v u Q I rx ry h
 obtain ⟨d,e,h1,h2,p1,p2,h3,q⟩:=h
 exact zoy (n:=20) I p1 p2 h3 (by omega) h1 h2 rx ry X.prog X.w X.xe _ ⟨.bl _,H,I,rfl,q⟩
theorem z4w:OpD K false dEq (zwo K):=by
 intro H0 H x y d e z Q s rx ry ho k
 unfold dEq at ho
 split at ho<;>cases ho
 rename_i h
 exact ⟨d,e,rx.mono s,ry.mono s,h.1,h.2.1,h.2.2,k _ H (.pure s (.mkBl _))⟩
theorem z5c:OpD K false dNe (zwp K):=by
 intro H0 H x y d e z Q s rx ry ho k
 unfold dNe at ho
 split at ho<;>cases ho
 rename_i h
 exact ⟨d,e,rx.mono s,ry.mono s,h.1,h.2.1,h.2.2,k _ H (.pure s (.mkBl _))⟩
theorem zuj (hu:X.A.units+64<cLine):OpR X (compareOp .In) (zta X.K false):=by
 intro pins s σ H x y v u Q I rx ry h
 obtain ⟨p,xs,d,es,rfl,hp,hx,hes,pd,pe,hd,q⟩:=h
 cases ry
 rcases hp with hq | hq
 . obtain ⟨its,rv,pl,_⟩:=I.list (.of hq)
   refine SeqAt.in_listAt (hitD X.K H d) pl.isList (fun y hy=>z6b (A:=X.A) I (by omega) pd hx rx pe hes rv hd y (by simpa using hy)) ⟨.bl _,H,I,rfl,?_⟩
   rw [show its.toArray.any (hitD X.K H d)=its.any (hitD X.K H d) by simp,z4r pe hes rv]
   simpa using q
 . obtain ⟨its,rv,pl,_⟩:=I.tuple (.of hq)
   refine SeqAt.in_tupleAt (hitD X.K H d) pl (fun y hy=>z6b (A:=X.A) I (by omega) pd hx rx pe hes rv hd y (by simpa using hy)) ⟨.bl _,H,I,rfl,?_⟩
   rw [show its.toArray.any (hitD X.K H d)=its.any (hitD X.K H d) by simp,z4r pe hes rv]
   simpa using q
theorem zhv (hu:X.A.units+64<cLine):OpR X (compareOp .NotIn) (zta X.K true):=by
 intro pins s σ H x y v u Q I rx ry h
 obtain ⟨p,xs,d,es,rfl,hp,hx,hes,pd,pe,hd,q⟩:=h
 cases ry
 rcases hp with hq | hq
 . obtain ⟨its,rv,pl,_⟩:=I.list (.of hq)
   refine SeqAt.notIn_listAt (hitD X.K H d) pl.isList (fun y hy=>z6b (A:=X.A) I (by omega) pd hx rx pe hes rv hd y (by simpa using hy)) ⟨.bl _,H,I,rfl,?_⟩
   rw [show its.toArray.any (hitD X.K H d)=its.any (hitD X.K H d) by simp,z4r pe hes rv]
   simpa using q
 . obtain ⟨its,rv,pl,_⟩:=I.tuple (.of hq)
   refine SeqAt.notIn_tupleAt (hitD X.K H d) pl (fun y hy=>z6b (A:=X.A) I (by omega) pd hx rx pe hes rv hd y (by simpa using hy)) ⟨.bl _,H,I,rfl,?_⟩
   rw [show its.toArray.any (hitD X.K H d)=its.any (hitD X.K H d) by simp,z4r pe hes rv]
   simpa using q
theorem od_inS {neg:Bool}:OpD K false (znn neg) (zta K neg):=by
 intro H0 H x y d e z Q s rx ry ho k
 unfold znn at ho
 cases e<;>dsimp only at ho<;>first | cases ho | skip
 . split at ho<;>cases ho
   rename_i es h
   obtain ⟨a,xs,rfl,ha,ra⟩:=ry.tup
   exact ⟨a,xs,d,es,rfl,.inr (s _ _ ha),rx.mono s,ra.mono s,h.1,h.2.1,h.2.2,k _ H (.pure s (.mkBl _))⟩
 . split at ho<;>cases ho
   rename_i es h
   obtain ⟨a,xs,rfl,ha,ra⟩:=ry.lst
   exact ⟨a,xs,d,es,rfl,.inl (s _ _ ha),rx.mono s,ra.mono s,h.1,h.2.1,h.2.2,k _ H (.pure s (.mkBl _))⟩
end
noncomputable def zpf:D->Option Key
 | .int i=>some (.inl i)
 | .str x=>some (.inr x)
 | _=>none
noncomputable def zcy:List D->Option (List Key)
 | []=>some []
 | d::ds=>match zpf d,zcy ds with
  | some k,some ks=>some (k::ks)
  | _,_=>none
theorem zf3 {K:Frag} {H:Hp} {d:D} {k:Key} {v:V} (h:zpf d=some k) (r:RD K H d v):v=kV k:=by
 cases d<;>simp only [zpf] at h<;>first | cases h | skip
 . cases r.int;rfl
 . cases r.str;rfl
theorem zbq {K:Frag} {H:Hp}:∀{ds:List D} {ks:List Key} {xs:List V},zcy ds=some ks->RDs K H ds xs->xs=ks.map kV
 | [],ks,xs,h,r=>by
  simp only [zcy] at h;cases h
  simp only [RDs] at r;subst r;rfl
 | d::ds,ks,xs,h,r=>by
  simp only [RDs] at r
  obtain ⟨x,xs,rfl,r1,r2⟩:=r
  simp only [zcy] at h
  split at h<;>cases h
  rename_i k ks h1 h2
  rw [zf3 h1 r1,zbq h2 r2];rfl
def ROp (K:Frag) (H:Hp):Option D->Option V->Prop
 | some z,w=>∃v,w=some v/\RD K H z v
 | none,w=>w=none
section
variable {κ:Type} [DecidableEq κ]
noncomputable def zam (ks:List κ) (ds:List D) (k:κ):Option D:=((ks.zip ds).find? fun kv=>decide (kv.1=k)).map (·.2)
theorem zan {K:Frag} {H:Hp} (k:κ):∀{ks:List κ} {ds:List D} {xs:List V},ks.length=xs.length->RDs K H ds xs->ROp K H (zam ks ds k) (zbc (ks.zip xs) k)
 | [],ds,xs,_,_=>by simp [zam,zbc,ROp]
 | k'::ks,[],xs,h,r=>by
  simp only [RDs] at r;subst r;simp at h
 | k'::ks,d::ds,xs,h,r=>by
  simp only [RDs] at r
  obtain ⟨x,xs,rfl,r1,r2⟩:=r
  have ih:=zan k (by simpa using h) r2 (ks:=ks)
  simp only [zam,zbc,List.zip_cons_cons,List.find?_cons] at ih ⊢
  by_cases e:k'=k
  . simp only [e,decide_true]
    exact ⟨x,rfl,r1⟩
  . simp only [e,decide_false]
    exact ih
noncomputable def zcz (ks:List κ) (k:κ):List κ:=if k∈ks then ks else ks++[k]
noncomputable def zao {β:Type} (ks:List κ) (ds:List β) (k:κ) (d:β):List β:=if k∈ks then List.zipWith (fun k' d'=>if k'=k then d else d') ks ds else ds++[d]
theorem zlk {K:Frag} {H:Hp} (k:κ) {d:D} {v:V} (rv:RD K H d v) {ks:List κ} {ds:List D} {xs:List V} (r:RDs K H ds xs):RDs K H (zao ks ds k d) (zao ks xs k v):=by
 have zw:∀(ks:List κ) (ds:List D) (xs:List V),RDs K H ds xs->RDs K H (List.zipWith (fun k' d'=>if k'=k then d else d') ks ds) (List.zipWith (fun k' d'=>if k'=k then v else d') ks xs):=by
  intro ks
  induction ks with
  | nil=>intro ds xs _;simp [RDs]
  | cons k' ks ih=>
   intro ds xs r
   cases ds with
   | nil=>simp only [RDs] at r;subst r;simp [RDs]
   | cons d' ds=>
    simp only [RDs] at r
    obtain ⟨x,xs,rfl,r1,r2⟩:=r
    simp only [List.zipWith_cons_cons]
    refine .cons ?_ (ih ds xs r2)
    by_cases e:k'=k
    . rw [if_pos e,if_pos e];exact rv
    . rw [if_neg e,if_neg e];exact r1
 unfold zao
 by_cases m:k∈ks
 . rw [if_pos m,if_pos m];exact zw ks ds xs r
 . rw [if_neg m,if_neg m];exact r.append (.one rv)
end
noncomputable def zap:D->D->Option (Option D)
 | .dk ks ds,k=>(zpf k).map fun k=>zam ks ds k
 | .dt ks ds,.tup es=>(zcy es).map fun k=>zam ks ds k
 | _,_=>none
theorem zf4 {K:Frag} {H:Hp} {d k:D} {x y:V} {o:Option D} (h:zap d k=some o) (rx:RD K H d x) (ry:RD K H k y) :
  ∃a w,x=.ref a/\DGet H a y w/\ROp K H o w:=by
 cases d<;>simp only [zap] at h<;>first | cases h | skip
 . rename_i ks ds
   obtain ⟨a,xs,rfl,ha,hl,rs⟩:=rx.dk
   cases hk:zpf k with
   | none=>rw [hk] at h;cases h
   | some k'=>
    rw [hk] at h
    have h:zam ks ds k'=o:=by simpa using h
    subst h
    cases zf3 hk ry
    exact ⟨a,_,rfl,DGet.k ha,zan k' hl rs⟩
 . rename_i ks ds
   cases k<;>simp only [zap] at h<;>first | cases h | skip
   rename_i es
   obtain ⟨a,xs,rfl,ha,hl,rs⟩:=rx.dt
   obtain ⟨b,ys,rfl,hb,rb⟩:=ry.tup
   cases hk:zcy es with
   | none=>rw [hk] at h;cases h
   | some k'=>
    rw [hk] at h
    have h:zam ks ds k'=o:=by simpa using h
    subst h
    have e:=zbq hk rb
    subst e
    exact ⟨a,_,rfl,DGet.t ha hb,zan k' hl rs⟩
noncomputable def zuk (neg:Bool):D->D->Option D:=fun k d=>(zap d k).map fun o=>.bl (if neg then !o.isSome else o.isSome)
noncomputable def ztb (neg:Bool):R2:=fun y x H Q=>∃a w,x=.ref a/\DGet H a y w/\Q (.bl (if neg then !w.isSome else w.isSome)) H
noncomputable def zul:D->D->Option D:=fun d k=>(zap d k).bind id
noncomputable def zum:R2:=fun x y H Q=>∃a w,x=.ref a/\DGet H a y (some w)/\Q w H
noncomputable def zbr:D->D->Option D
 | .lst ds,.int i=>atI ds i
 | .tup ds,.int i=>atI ds i
 | .scr ns,.int i=>(atI ns i).map D.int
 | .str z,.int i=>if z.length<=100000 then (atI z.cps.toList i).map fun c=>D.str ⟨#[c]⟩ else none
 | _,_=>none
theorem RDs.atI {K:Frag} {H:Hp} {ds:List D} {xs:List V} {i:Int} {d:D} (r:RDs K H ds xs) (h:L2.atI ds i=some d):∃v,L2.atI xs i=some v/\RD K H d v:=by
 unfold L2.atI at h ⊢
 rw [<-r.length]
 cases q:ixN ds.length i with
 | none=>rw [q] at h;cases h
 | some j=>
  rw [q] at h
  exact r.get' h
theorem zll {α β:Type} (f:α->β) (xs:List α) (i:Int):atI (xs.map f) i=(atI xs i).map f:=by
 unfold atI
 rw [List.length_map]
 cases ixN xs.length i with
 | none=>rfl
 | some j=>simp
section
variable {X:Cx} {K:Frag}
theorem zun (hu:X.A.units+64<cLine):OpR X (compareOp .In) (ztb false):=by
 intro pins s σ H x y v u Q I rx ry h
 obtain ⟨a,w,rfl,g,q⟩:=h
 cases ry
 exact zx6 (by omega) I g rx fun s' I'=>⟨.bl w.isSome,H,I',rfl,by simpa using q⟩
theorem zhw (hu:X.A.units+64<cLine):OpR X (compareOp .NotIn) (ztb true):=by
 intro pins s σ H x y v u Q I rx ry h
 obtain ⟨a,w,rfl,g,q⟩:=h
 cases ry
 exact zkx (by omega) I g rx fun s' I'=>⟨.bl (!w.isSome),H,I',rfl,by simpa using q⟩
theorem zpg {neg:Bool}:OpD K false (zuk neg) (ztb neg):=by
 intro H0 H x y d e z Q s rx ry ho k
 unfold zuk at ho
 cases ho':zap e d with
 | none=>rw [ho'] at ho;cases ho
 | some o=>
  rw [ho'] at ho;cases ho
  obtain ⟨a,w,rfl,g,m⟩:=zf4 ho' (ry.mono s) (rx.mono s)
  refine ⟨a,w,rfl,g,k _ H ?_⟩
  have e:w.isSome=o.isSome:=by
   cases o with
   | none=>rw [show w=none from m];rfl
   | some z=>obtain ⟨v,e,_⟩:=m;rw [e];rfl
  rw [e]
  exact .pure s (.mkBl _)
noncomputable def dIn (neg:Bool):D->D->Option D:=dOr (znn neg) (zuk neg)
noncomputable def zuo (K:Frag) (neg:Bool):R2:=fun x y H Q=>zta K neg x y H Q\/ztb neg x y H Q
theorem zlm (hu:X.A.units+64<cLine):OpR X (compareOp .In) (zuo X.K false):=(zuj hu).or (zun hu)
theorem z88 (hu:X.A.units+64<cLine):OpR X (compareOp .NotIn) (zuo X.K true):=(zhv hu).or (zhw hu)
theorem zd0 {neg:Bool}:OpD K false (dIn neg) (zuo K neg):=od_inS.or zpg
theorem zln (hu:X.A.units+64<cLine):IxR X zum:=by
 intro value slice pins s σ H x y v u Q I rx ry h hs
 obtain ⟨a,w,rfl,g,q⟩:=h
 cases rx
 exact tail_any (ops:=[.ref a,u]) (zaf I g) PySem.F.slot_dict_getitem.lookup (zea (by omega) I g ry fun w' s3 I3 rw'=>⟨w,H,I3,rw',q⟩) hs
theorem zph:OpD K false zul zum:=by
 intro H0 H x y d e z Q s rx ry ho k
 unfold zul at ho
 cases ho':zap d e with
 | none=>rw [ho'] at ho;cases ho
 | some o=>
  rw [ho'] at ho
  have ho:o=some z:=ho
  subst ho
  obtain ⟨a,w,e0,g,m⟩:=zf4 ho' rx ry
  obtain ⟨v,rfl,rv⟩:=m
  subst e0
  refine ⟨a,v,rfl,?_,k _ H (.pure s rv)⟩
  rcases g with ⟨kvs,kk,e1,e2,e3⟩ | ⟨kvs,kk,b,e1,e2,e3,e4⟩
  . refine .inl ⟨kvs,kk,?_,e2,e3⟩
    rcases e1 with e1 | ⟨o,e1⟩
    . exact .inl (s _ _ e1)
    . exact .inr ⟨o,s _ _ e1⟩
  . refine .inr ⟨kvs,kk,b,?_,e2,s _ _ e3,e4⟩
    rcases e1 with e1 | ⟨o,e1⟩
    . exact .inl (s _ _ e1)
    . exact .inr ⟨o,s _ _ e1⟩
theorem od_ixS:OpD K false zbr (rIx K):=by
 intro H0 H x y d e z Q s rx ry ho k
 cases d<;>simp only [zbr] at ho<;>first | cases ho | skip
 . -- a text
   cases e<;>simp only [zbr] at ho<;>first | cases ho | skip
   cases rx.str;cases ry.int
   split at ho
   . rename_i z' i hl
     cases hc:atI z'.cps.toList i with
     | none=>rw [hc] at ho;cases ho
     | some c=>
      rw [hc] at ho;cases ho
      exact .inr (.inr ⟨z',i,c,rfl,rfl,zt9 hl,hc,k _ H (.pure s (.mkStr _))⟩)
   . cases ho
 . cases e<;>simp only [zbr] at ho<;>first | cases ho | skip
   obtain ⟨a,xs,rfl,ha,ra⟩:=rx.tup
   cases ry.int
   obtain ⟨v,hv,rv⟩:=ra.atI ho
   exact .inr (.inl ⟨a,xs,_,v,rfl,rfl,.of (s _ _ ha),hv,k _ H (.pure s rv)⟩)
 . cases e<;>simp only [zbr] at ho<;>first | cases ho | skip
   obtain ⟨a,xs,rfl,ha,ra⟩:=rx.lst
   cases ry.int
   obtain ⟨v,hv,rv⟩:=ra.atI ho
   exact .inl ⟨a,xs,_,v,rfl,rfl,.of (s _ _ ha),hv,k _ H (.pure s rv)⟩
 . cases e<;>simp only [zbr] at ho<;>first | cases ho | skip
   rename_i ns i
   cases ry.int
   obtain ⟨a,rfl,ha⟩:=(rx.mono s).scr
   cases hc:atI ns i with
   | none=>rw [hc] at ho;cases ho
   | some c=>
    rw [hc] at ho;cases ho
    exact .inl ⟨a,_,i,.int c,rfl,rfl,ha,by rw [zll,hc];rfl,k _ H (.pure s (.mkInt _))⟩
noncomputable def dIx:D->D->Option D:=dOr zbr zul
noncomputable def zwq (K:Frag):R2:=fun x y H Q=>rIx K x y H Q\/zum x y H Q
theorem z89 (hu:X.A.units+64<cLine):IxR X (zwq X.K):=ix_seq.or (zln hu)
theorem z37:OpD K false dIx (zwq K):=od_ixS.or zph
end
structure QE (X:Cx) (EX:XW) (fr:Bool) (e:Expr) (f:DE->R D):Prop where
 h:PE X e (TEd X.K EX fr f)
structure QT (X:Cx) (EX:XW) (e:Expr) (t:DE->R Bool):Prop where
 h:PT X e (TTd X.K EX t)
structure QW (X:Cx) (EX:XW) (e:Expr) (t:DE->R Bool):Prop where
 h:PW X e (TTd X.K EX t)
structure QA (X:Cx) (EX:XW) (es:List Expr) (f:DE->R (List D)):Prop where
 h:PA X es (TAd X.K EX f)
structure QI (X:Cx) (EX:XW) (kp:Bool) (tg e:Expr) (f:DE->R (List D)):Prop where
 h:PI X tg e (TId X.K EX kp f)
structure QG (X:Cx) (tg:Expr) (t:Tg):Prop where
 h:PG X tg (TGd X.K t)
structure QGs (X:Cx) (ts:List Expr) (is:List Nat):Prop where
 h:PGs X ts (zbn is)
structure QS (X:Cx) (EX:XW) (fr:Bool) (st:Stmt) (g:DS->SR):Prop where
 h:PS X st (TSd X.K EX fr g)
structure QB (X:Cx) (EX:XW) (fr:Bool) (sts:List Stmt) (g:DS->SR):Prop where
 h:PSs X sts (TSd X.K EX fr g)
section
variable {X:Cx} {EX:XW} {fr:Bool} {a b c e:Expr} {es rest:List Expr} {fa fb:DE->R D} {fs:DE->R (List D)} {t u:DE->R Bool} {pos p:Pos} {x:Str}
theorem PA.imp {es:List Expr} {t t':TA} (h:PA X es t) (hi:∀σ H Q,t' σ H Q->t σ H Q):PA X es t':=fun pos pins s σ H Q I q=>h pos pins s σ H Q I (hi σ H Q q)
theorem PW.imp {e:Expr} {t t':TT} (h:PW X e t) (hi:∀σ H Q,t' σ H Q->t σ H Q):PW X e t':=fun wh pins s σ H Q I q=>h wh pins s σ H Q I (hi σ H Q q)
theorem PI.imp {tg e:Expr} {t t':TI} (h:PI X tg e t) (hi:∀σ H Q,t' σ H Q->t σ H Q):PI X tg e t':=fun pins s σ H Q I q=>h pins s σ H Q I (hi σ H Q q)
theorem PS.imp {st:Stmt} {t t':TS} (h:PS X st t) (hi:∀D σ H,t' D σ H->t D σ H):PS X st t':=fun pins s σ H D I q=>h pins s σ H D I (hi D σ H q)
theorem PSs.imp {st:List Stmt} {t t':TS} (h:PSs X st t) (hi:∀D σ H,t' D σ H->t D σ H):PSs X st t':=fun pins s σ H D I q=>h pins s σ H D I (hi D σ H q)
theorem QE.wk {f:DE->R D} (h:QE X EX true e f):QE X EX false e f:=⟨h.h.imp fun _ _ _ q=>q.weak⟩
theorem qv (i:Nat) {x:Str} {pos:Pos} (hN:X.N[i]?=some x:=by rfl) (hv:Vis X.env.scope x:=by first | exact Or.inl rfl | exact Or.inr (Or.inl rfl) | exact Or.inr (Or.inr rfl)) (hd:(x==("__debug__":Str))=false:=by decide)
 (hcd:(x==("__classdict__":Str))=false:=by decide):QE X EX false (.Name x pos) (z02 i):=⟨(zdt hN hv hd hcd).imp fun σ H Q q=>ztz q⟩
theorem z06 {i j pos}:QE X EX false (.Constant (.int i) j pos) (eC (.int i)):=⟨pe_int.imp fun σ H Q q=>zai (fun _=>.mkInt i) q⟩
theorem zdn {i j pos}:QE X EX false (.Constant (.bool i) j pos) (eC (.bl i)):=⟨pe_bl.imp fun σ H Q q=>zai (fun _=>.mkBl i) q⟩
theorem zlo {j pos}:QE X EX false (.Constant .none j pos) (eC .non):=⟨pe_non.imp fun σ H Q q=>zai (fun _=>.mkNon) q⟩
theorem z0c {op:Operator} {r:R2} {o:D->D->Option D} (ho:OpR X (binaryOp op) r) (od:OpD X.K fr o r) (ha:QE X EX false a fa) (hb:QE X EX false b fb):QE X EX fr (.BinOp a op b pos) (eOp o fa fb):=⟨(ztj ho ha.h hb.h).imp fun _ _ _ q=>zt6 od q⟩
theorem zup {op:UnaryOp} {r:V->Hp->VK->Prop} {o:D->Option D} (ho:UnR X (unaryOp op) r) (od:UnD X.K fr o r) (ha:QE X EX false a fa):QE X EX fr (.UnaryOp op a pos) (eUn o fa):=⟨(ztk ho ha.h).imp fun _ _ _ q=>zxg od q⟩
theorem zd1 {op:CmpOp} {r:R2} {o:D->D->Option D} (ho:OpR X (compareOp op) r) (od:OpD X.K false o r) (ha:QE X EX false a fa) (hb:QE X EX false b fb) (hm:behindInMarks op b=false) :
 QE X EX false (.Compare a [op] [b] pos) (eOp o fa fb):=⟨(zkq ho ha.h hb.h hm).imp fun _ _ _ q=>zt6 od q⟩
theorem z8a {r:R2} {o:D->D->Option D} (ho:IxR X r) (od:OpD X.K false o r) (ha:QE X EX false a fa) (hb:QE X EX false b fb) (hs:ze7 b:=by exact fun _ _=>rfl):QE X EX false (.Subscript a b pos) (eOp o fa fb):=⟨(ztn ho ha.h hb.h hs).imp fun _ _ _ q=>zt6 od q⟩
theorem z04:QA X EX [] z09:=⟨pa_nil.imp fun _ _ _ q=>zu0 q⟩
theorem z00 (ha:QE X EX false e fa) (hr:QA X EX es fs) (hs:starEach (e::es) X.env=(false,eval e X.env)::starEach es X.env:=by rfl):QA X EX (e::es) (z01 fa fs):=⟨(z65 ha.h hr.h hs).imp fun _ _ _ q=>zoz q⟩
theorem z1g {x1} (h:QA X EX es fs):QE X EX false (.Tuple es x1 pos) (z2z fs):=⟨(zoa h.h).imp fun _ _ _ q=>zu1 q⟩
theorem zd2 (h:QA X EX es fs):QE X EX true (.List es pos) (zh5 fs):=⟨(zob h.h).imp fun _ _ _ q=>zu2 q⟩
theorem zuq (hc:QT X EX c t) (ha:QE X EX fr a fa) (hb:QE X EX fr b fb):QE X EX fr (.IfExp c a b pos) (eIf t fa fb):=⟨(zhb hc.h ha.h hb.h).imp fun _ _ _ q=>zxh q⟩
theorem zlp (ha:QE X EX false a fa) (hb:QE X EX false (.BoolOp .And (b::rest) pos) fb):QE X EX false (.BoolOp .And (a::b::rest) pos) (zli fa fb):=⟨(zl4 ha.h hb.h).imp fun _ _ _ q=>zu6 q⟩
theorem zlq {op} (h:QE X EX false a fa):QE X EX false (.BoolOp op [a] pos) fa:=⟨zo2 h.h⟩
noncomputable def z9h:D->Option Bool
 | .bl b=>some b
 | .int i=>some (i != 0)
 | .non=>some false
 | .str z=>if z.length<=100000 then some ((z.length:Int) != 0) else none
 | .lst ds=>some (!ds.isEmpty)
 | .tup ds=>some (!ds.isEmpty)
 | .dk ks _=>some (!ks.isEmpty)
 | _=>none
theorem z4g {α β:Type} {xs:List α} {ys:List β} (h:xs.length=ys.length):xs.isEmpty=ys.isEmpty:=by
 cases xs<;>cases ys<;>first | rfl | simp at h
theorem zje {K:Frag}:zty K z9h z9c:=by
 intro H0 H x d b Q s rx ht q
 cases d<;>simp only [z9h] at ht<;>first | cases ht | skip
 . cases rx.non;exact q
 . cases rx.bl;exact q
 . cases rx.int;exact q
 . split at ht<;>cases ht
   rename_i h
   cases rx.str
   exact ⟨zt9 h,q⟩
 . obtain ⟨p,xs,rfl,hp,r⟩:=rx.tup
   unfold z9c
   dsimp only
   rw [zeg (s _ _ hp)]
   rw [z4g r.length] at q;exact q
 . obtain ⟨p,xs,rfl,hp,r⟩:=rx.lst
   unfold z9c
   dsimp only
   rw [zef (s _ _ hp)]
   rw [z4g r.length] at q;exact q
 . rename_i ks es
   obtain ⟨p,xs,rfl,hp,hl,r⟩:=rx.dk
   unfold z9c
   dsimp only
   have e:z5x H p=none:=by unfold z5x;rw [s _ _ hp]
   rw [e]
   dsimp only
   rw [s _ _ hp]
   dsimp only
   rw [z4g (show ks.length=(List.zip ks xs).length by rw [List.length_zip,<-hl,Nat.min_self])] at q
   exact q
theorem zpi (ha:QE X EX false a fa):QE X EX false (.UnaryOp .Not a pos) (eUn (fun d=>(z9h d).map fun b=>.bl (!b)) fa):=⟨(zl5 ha.h).imp fun _ _ _ q=>zp4 zje q⟩
theorem z8b (ha:QE X EX false a fa) (he:∀whole,isTrue a X.env whole=(do let v <-whole;standAt a.pos;holding [v] (truthy v)):=by intro _;rfl):QT X EX a (z25 z9h fa):=⟨(zom ha.h he).imp fun _ _ _ q=>zu7 zje q⟩
theorem z19 {op:CmpOp} {r:R2} {o:D->D->Option D} (ho:OpR X (compareOp op) r) (od:OpD X.K false o r) (ha:QE X EX false a fa) (hb:QE X EX false b fb) (hm:behindInMarks op b=false) :
 QT X EX (.Compare a [op] [b] pos) (z25 asB (eOp o fa fb)):=⟨(zl3 ho ha.h hb.h hm).imp fun _ _ _ q=>zu8 od q⟩
theorem QW.pt (h:QW X EX a t):QT X EX a t:=⟨h.h.pt⟩
theorem z8c (ha:QT X EX a t):QT X EX (.UnaryOp .Not a pos) (zcw t):=⟨(zo1 ha.h).imp fun _ _ _ q=>zp1 q⟩
theorem zjf (ha:QT X EX a t):QW X EX (.BoolOp .And [a] pos) t:=⟨zkn ha.h⟩
theorem z8d (ha:QT X EX a t):QW X EX (.BoolOp .Or [a] pos) t:=⟨znz ha.h⟩
theorem zpj (ha:QT X EX a t) (hb:QW X EX (.BoolOp .And (b::rest) pos) u):QW X EX (.BoolOp .And (a::b::rest) pos) (znk t u):=⟨(zo0 ha.h hb.h).imp fun _ _ _ q=>zp0 q⟩
theorem zaq (ha:QT X EX a t) (hb:QW X EX (.BoolOp .Or (b::rest) pos) u):QW X EX (.BoolOp .Or (a::b::rest) pos) (bOr t u):=⟨(ztg ha.h hb.h).imp fun _ _ _ q=>zu3 q⟩
variable {g:D->DE->R D} {gt:D->DE->R Bool} {op op':CmpOp} {ops:List CmpOp} {r:R2} {o:D->D->Option D} {r':Expr} {rs:List Expr}
theorem z6e {id:String} {rr:List V->Hp->VK->Prop} {m:List D->Option D} (hc:CallR X (.builtin id) rr) (od:z5y X.K fr m rr) (hg:Gl X x) (hm:X.mg x=none) (hv:bootBuiltins x=some (.builtin id)) (ha:QA X EX (e::es) fs) (hn:x≠"__name__":=by decide) (hdb:(x==("__debug__":Str))=false:=by decide)
 (he:starEach (e::es) X.env=(false,eval e X.env)::starEach es X.env:=by rfl) (hpl:(backTo pos (starEach es X.env)).any (·.1)=false:=by rfl):QE X EX fr (.Call (.Name x p) (e::es) [] pos) (eCB m fs):=⟨(z7y hc hg hm hv ha.h hn hdb he hpl).imp fun _ _ _ q=>zwl od q⟩
theorem zf5 {T:String} {rr:List V->Hp->VK->Prop} {m:List D->Option D} (hc:CallR X (.type T) rr) (od:z5y X.K fr m rr) (hg:Gl X x) (hm:X.mg x=none) (hv:bootBuiltins x=some (.type T)) (ha:QA X EX (e::es) fs) (hn:x≠"__name__":=by decide) (hdb:(x==("__debug__":Str))=false:=by decide)
 (he:starEach (e::es) X.env=(false,eval e X.env)::starEach es X.env:=by rfl) (hpl:(backTo pos (starEach es X.env)).any (·.1)=false:=by rfl):QE X EX fr (.Call (.Name x p) (e::es) [] pos) (eCB m fs):=⟨(ze6 hc hg hm hv ha.h hn hdb he hpl).imp fun _ _ _ q=>zwl od q⟩
theorem z1p {ps:List Str} {k j n kk:Nat} {gg:DS->SR} (L:Lnd X EX) (G:z35 X.prog X.w X.K X.mg X.base x ps k (spD X.K X.mg fr (mOf fr n kk gg) n)) (hr:Room j X.A) (hg:Gl X x) (ha:QA X EX (e::es) fs) (hkj:k<=j:=by omega) (hdb:(x==("__debug__":Str))=false:=by decide)
 (he:starEach (e::es) X.env=(false,eval e X.env)::starEach es X.env:=by rfl) (hpl:(backTo pos (starEach es X.env)).any (·.1)=false:=by rfl):QE X EX fr (.Call (.Name x p) (e::es) [] pos) (z18 (mOf fr n kk gg) fs):=⟨(zex G L.on hr hg ha.h hkj hdb he hpl).imp fun _ _ _ q=>zpa zlj (fun x H z=>by obtain ⟨C,hC⟩:=L.nm x H z;exact ⟨C,hC,x,z,hC⟩) q⟩
end
noncomputable def z5d:D->String
 | .non=>"NoneType"
 | .bl _=>"bool"
 | .int _=>"int"
 | .str _=>"str"
 | .tup _=>"tuple"
 | .lst _=>"list"
 | .dk _ _=>"dict"
 | .dt _ _=>"dict"
 | .dn _ _=>"?"
 | .scr _=>"?"
 | .exc _=>"?"
noncomputable def z7f (c:String):D->Option D:=fun d=>if z68 c=true/\z5d d≠"?" then some (.bl (zeh (z5d d) c)) else none
theorem zlr {K:Frag} {H:Hp} {d:D} {v:V} (h:z5d d≠"?") (r:RD K H d v):z83 H v=some (z5d d):=by
 cases d
 . cases r.non;rfl
 . cases r.bl;rfl
 . cases r.int;rfl
 . cases r.str;rfl
 . obtain ⟨a,xs,rfl,ha,_⟩:=r.tup;simp only [z83,ha,z5d]
 . obtain ⟨a,xs,rfl,ha,_⟩:=r.lst;simp only [z83,ha,z5d]
 . obtain ⟨a,xs,rfl,ha,_⟩:=r.dk;simp only [z83,ha,z5d]
 . obtain ⟨a,xs,rfl,ha,_⟩:=r.dt;simp only [z83,ha,z5d]
 . exact absurd rfl h
 . exact absurd rfl h
 . exact absurd rfl h
theorem zur {K:Frag} {EX:XW} {σ:St} {H:Hp} {Q:VK} {c:String} {f:DE->R D} (h:TEd K EX false (eUn (z7f c) f) σ H Q):tCB zt4 (zcq (TEd K EX false f) (zcq (tC (.ty c)) ztl)) σ H Q:=by
 obtain ⟨sx,ρ,H0,s,e,h⟩:=h
 unfold eUn at h
 rw [Rk.bind] at h
 refine TEd.go sx s e h fun d h v H1 H1' s1 e1 r1=>?_
 obtain ⟨z,hz,h⟩:=h.of
 unfold z7f at hz
 split at hz<;>cases hz
 rename_i hc
 show zt4 [v,.ty c] H1 Q
 rw [zot]
 refine ⟨hc.1,?_⟩
 rw [zlr hc.2 (r1.mono e1.2.1)]
 exact h _ H1 (.val s1 e1 (.mkBl _))
theorem zhx {X:Cx} {EX:XW} {a b:Expr} {pos p:Pos} {x c:_} {f:DE->R D} (hg:Gl X x) (hm:X.mg x=none) (hv:bootBuiltins x=some (.builtin "isinstance")) (ha:QE X EX false a f) (hb:PE X b (tC (.ty c))) (hn:x≠"__name__":=by decide) (hdb:(x==("__debug__":Str))=false:=by decide)
 (he:starEach [a,b] X.env=(false,eval a X.env)::starEach [b] X.env:=by rfl) (hpl:(backTo pos (starEach [b] X.env)).any (·.1)=false:=by rfl) (hs:starEach [b] X.env=(false,eval b X.env)::starEach [] X.env:=by rfl) :
 QE X EX false (.Call (.Name x p) [a,b] [] pos) (eUn (z7f c) f):=⟨(z7y ztw hg hm hv (z65 ha.h (z65 hb pa_nil hs) he) hn hdb he hpl).imp fun _ _ _ q=>zur q⟩
noncomputable def z2l:List D->Option (List Int)
 | []=>some []
 | .int i::ds=>(z2l ds).map (i::·)
 | _::_=>none
noncomputable def z38:List D->Option (List Bool)
 | []=>some []
 | .bl i::ds=>(z38 ds).map (i::·)
 | _::_=>none
theorem z7g:∀(ns:List Int),z2l (ns.map D.int)=some ns
 | []=>rfl
 | n::ns=>by simp [z2l,z7g ns]
theorem z6f:∀(ns:List Bool),z38 (ns.map D.bl)=some ns
 | []=>rfl
 | n::ns=>by simp [z38,z6f ns]
theorem z3n {K:Frag} {H:Hp}:∀{ds:List D} {ns:List Int} {xs:List V},z2l ds=some ns->RDs K H ds xs->xs=ns.map V.int
 | [],ns,xs,h,r=>by
  simp only [z2l] at h;cases h
  simp only [RDs] at r;subst r;rfl
 | d::ds,ns,xs,h,r=>by
  simp only [RDs] at r
  obtain ⟨x,xs,rfl,r1,r2⟩:=r
  cases d<;>simp only [z2l] at h<;>first | cases h | skip
  cases q:z2l ds with
  | none=>rw [q] at h;cases h
  | some ms=>
   rw [q] at h;cases h
   cases r1.int
   rw [z3n q r2];rfl
theorem z7h {K:Frag} {H:Hp}:∀{ds:List D} {ns:List Bool} {xs:List V},z38 ds=some ns->RDs K H ds xs->xs=ns.map V.bl
 | [],ns,xs,h,r=>by
  simp only [z38] at h;cases h
  simp only [RDs] at r;subst r;rfl
 | d::ds,ns,xs,h,r=>by
  simp only [RDs] at r
  obtain ⟨x,xs,rfl,r1,r2⟩:=r
  cases d<;>simp only [z38] at h<;>first | cases h | skip
  cases q:z38 ds with
  | none=>rw [q] at h;cases h
  | some ms=>
   rw [q] at h;cases h
   cases r1.bl
   rw [z7h q r2];rfl
noncomputable def zd3:List D->Option D
 | [.lst ds]=>some (.int ds.length)
 | [.tup ds]=>some (.int ds.length)
 | [.dk ks _]=>some (.int ks.length)
 | [.scr ns]=>some (.int ns.length)
 | [.str z]=>if z.length<=100000 then some (.int z.length) else none
 | _=>none
noncomputable def zno:List D->Option D
 | [.lst ds]=>(z2l ds).map fun ns=>.int ns.sum
 | [.tup ds]=>(z2l ds).map fun ns=>.int ns.sum
 | _=>none
noncomputable def zpk:List D->Option D
 | [.lst ds]=>(z38 ds).map fun bs=>.bl (bs.all id)
 | _=>none
noncomputable def z8e:List D->Option D
 | [.int i,.int j]=>some (.int (if j > i then j else i))
 | _=>none
noncomputable def zf6:List D->Option D
 | [.int i,.int j]=>some (.int (if j<i then j else i))
 | _=>none
noncomputable def znp:List D->Option D
 | [.int i]=>some (.int i)
 | [.bl b]=>some (.int (if b then 1 else 0))
 | _=>none
noncomputable def z9i:List D->Option D
 | [.lst ds]=>some (.lst ds)
 | [.tup ds]=>some (.lst ds)
 | [.scr ns]=>some (.lst (ns.map .int))
 | _=>none
noncomputable def zjg:List D->Option D
 | [.lst ds]=>some (.tup ds)
 | [.tup ds]=>some (.tup ds)
 | _=>none
section
variable {X:Cx} {K:Frag}
theorem RDs.uno {H:Hp} {d:D} {xs:List V} (h:RDs K H [d] xs):∃x,xs=[x]/\RD K H d x:=by
 simp only [RDs] at h
 obtain ⟨x,r,rfl,h1,rfl⟩:=h
 exact ⟨x,rfl,h1⟩
theorem RDs.duo {H:Hp} {d e:D} {xs:List V} (h:RDs K H [d,e] xs):∃x y,xs=[x,y]/\RD K H d x/\RD K H e y:=by
 simp only [RDs] at h
 obtain ⟨x,r,rfl,h1,y,r',rfl,h2,rfl⟩:=h
 exact ⟨x,y,rfl,h1,h2⟩
def zpl (K:Frag):List V->Hp->VK->Prop:=fun xs H Q=>(∃p ys,xs=[.ref p]/\(SqL K H p ys\/SqT K H p ys)/\Q (.int ys.length) H)\/(∃a kvs,xs=[V.ref a]/\H a=some (.dK kvs)/\Q (.int kvs.length) H)\/∃z,xs=[.str z]/\z.length<=sizeLine/\Q (.int z.length) H
theorem z7i:CallR X (.builtin "len") (zpl X.K):=call_len_seq.or (call_lenD.or z95)
theorem z7j:z5y K false zd3 (zpl K):=by
 intro H0 H xs ds z Q s r ho k
 unfold zd3 at ho
 split at ho<;>first | cases ho | skip
 . obtain ⟨x,rfl,q1⟩:=r.uno
   obtain ⟨a,ys,rfl,ha,ra⟩:=q1.lst
   exact .inl ⟨a,ys,rfl,.inl (.of (s _ _ ha)),by rw [<-ra.length];exact k _ H (.pure s (.mkInt _))⟩
 . obtain ⟨x,rfl,q1⟩:=r.uno
   obtain ⟨a,ys,rfl,ha,ra⟩:=q1.tup
   exact .inl ⟨a,ys,rfl,.inr (.of (s _ _ ha)),by rw [<-ra.length];exact k _ H (.pure s (.mkInt _))⟩
 . obtain ⟨x,rfl,q1⟩:=r.uno
   obtain ⟨a,ys,rfl,ha,hl,ra⟩:=q1.dk
   refine .inr (.inl ⟨a,_,rfl,s _ _ ha,?_⟩)
   rw [List.length_zip,<-hl,Nat.min_self]
   exact k _ H (.pure s (.mkInt _))
 . obtain ⟨x,rfl,q1⟩:=r.uno
   obtain ⟨a,rfl,ha⟩:=(q1.mono s).scr
   exact .inl ⟨a,_,rfl,.inl ha,by rw [List.length_map];exact k _ H (.pure s (.mkInt _))⟩
 . split at ho<;>cases ho
   rename_i h
   obtain ⟨x,rfl,q1⟩:=r.uno
   cases q1.str
   exact .inr (.inr ⟨_,rfl,zt9 h,k _ H (.pure s (.mkInt _))⟩)
theorem zpm:z5y K false zpk zlc:=by
 intro H0 H xs ds z Q s r ho k
 unfold zpk at ho
 split at ho<;>first | cases ho | skip
 obtain ⟨x,rfl,q1⟩:=r.uno
 obtain ⟨a,ys,rfl,ha,ra⟩:=q1.lst
 rename_i es
 cases q:z38 es with
 | none=>rw [q] at ho;cases ho
 | some ns=>
  rw [q] at ho;cases ho
  rw [zlf]
  exact ⟨ns,by rw [<-z7h q ra];exact .inl (s _ _ ha),k _ H (.pure s (.mkBl _))⟩
theorem z5e:z5y K false z8e zld:=by
 intro H0 H xs ds z Q s r ho k
 unfold z8e at ho
 split at ho<;>first | cases ho | skip
 obtain ⟨x,y,rfl,r1,r2⟩:=r.duo
 cases r1.int;cases r2.int
 rw [zlg]
 exact k _ H (.pure s (.mkInt _))
theorem zf7:z5y K false zf6 zle:=by
 intro H0 H xs ds z Q s r ho k
 unfold zf6 at ho
 split at ho<;>first | cases ho | skip
 obtain ⟨x,y,rfl,r1,r2⟩:=r.duo
 cases r1.int;cases r2.int
 rw [zlh]
 exact k _ H (.pure s (.mkInt _))
theorem zjh:z5y K false znp zos:=by
 intro H0 H xs ds z Q s r ho k
 unfold znp at ho
 split at ho<;>first | cases ho | skip
 . obtain ⟨x,rfl,q1⟩:=r.uno
   cases q1.int
   exact k _ H (.pure s (.mkInt _))
 . obtain ⟨x,rfl,q1⟩:=r.uno
   cases q1.bl
   exact k _ H (.pure s (.mkInt _))
def zji (K:Frag):List V->Hp->VK->Prop:=fun xs H Q=>∃p ys,xs=[.ref p]/\(SqL K H p ys\/SqT K H p ys)/\∀l,H l=none->Q (.ref l) (upd H l (.lst ys))
theorem zar:CallR X (.type "list") (zji X.K):=z96
theorem zas:z5y K true z9i (zji K):=by
 intro H0 H xs ds z Q s r ho k
 have fin:∀{p:Addr} {ys:List V} {es:List D},RDs K H0 es ys->z=.lst es->H p=none->Q (.ref p) (upd H p (.lst ys)):=fun {p ys es} re e hp=>by
  subst e
  refine k _ _ (.new s hp fun H' hH=>?_)
  simp only [OB]
  exact ⟨_,hH,re⟩
 unfold z9i at ho
 split at ho<;>first | cases ho | skip
 . obtain ⟨x,rfl,q1⟩:=r.uno
   obtain ⟨a,ys,rfl,ha,ra⟩:=q1.lst
   exact ⟨a,ys,rfl,.inl (.of (s _ _ ha)),fun l hl=>fin ra rfl hl⟩
 . obtain ⟨x,rfl,q1⟩:=r.uno
   obtain ⟨a,ys,rfl,ha,ra⟩:=q1.tup
   exact ⟨a,ys,rfl,.inr (.of (s _ _ ha)),fun l hl=>fin ra rfl hl⟩
 . obtain ⟨x,rfl,q1⟩:=r.uno
   obtain ⟨a,rfl,ha⟩:=(q1.mono s).scr
   exact ⟨a,_,rfl,.inl ha,fun l hl=>fin (RDs.ofInts _) rfl hl⟩
end
noncomputable def zd4 {α:Type} (xs:List α) (lo hi:Option Int):List α:=(xs.drop (HT.sIx xs.length 0 lo)).take (HT.sIx xs.length xs.length hi - HT.sIx xs.length 0 lo)
noncomputable def dSl:D->Option Int->Option Int->Option D
 | .lst ds,lo,hi=>some (.lst (zd4 ds lo hi))
 | .scr ns,lo,hi=>some (.lst ((zd4 ns lo hi).map .int))
 | _,_,_=>none
noncomputable def TOd (K:Frag) (EX:XW) (f:DE->R (Option Int)):TO:=fun σ H Q=>Same EX.hb H/\∃ρ H0,Same H0 H/\RE K H0 ρ σ/\Rk EX.at (f ρ) fun o=>∀H',Same H H'->Q o H'
noncomputable def oNo:DE->R (Option Int):=fun _=>.ok none
noncomputable def oSo (f:DE->R D):DE->R (Option Int):=fun ρ=>(f ρ).bind fun d=>R.of (match d with | .int i=>some (some i) | _=>none)
noncomputable def eSl (o:D->Option Int->Option Int->Option D) (f:DE->R D) (fl fh:DE->R (Option Int)):DE->R D:=fun ρ=>(f ρ).bind fun d=>(fl ρ).bind fun lo=>(fh ρ).bind fun hi=>R.of (o d lo hi)
def SlD (K:Frag) (fr:Bool) (o:D->Option Int->Option Int->Option D) (r:V->Option Int->Option Int->Hp->VK->Prop):Prop:=∀(H0 H:Hp) (x:V) (d z:D) (lo hi:Option Int) (Q:VK),Same H0 H->RD K H0 d x->o d lo hi=some z->(∀v H',Out K fr H0 H z v H'->Q v H')->r x lo hi H Q
section
variable {X:Cx} {K:Frag} {EX:XW} {fr:Bool} {σ:St} {H:Hp} {Q:VK}
structure QO (X:Cx) (EX:XW) (e:Option Expr) (f:DE->R (Option Int)):Prop where
 h:PO X e (TOd X.K EX f)
theorem PO.imp {e:Option Expr} {t t':TO} (h:PO X e t) (hi:∀σ H Q,t' σ H Q->t σ H Q):PO X e t':=fun pins s σ H Q I q=>h pins s σ H Q I (hi σ H Q q)
theorem zwr {e:Expr} {f:DE->R D} (he:QE X EX false e f):QO X EX (some e) (oSo f):=⟨(zkt he.h).imp fun σ H Q ⟨sx,ρ,H0,s,e,h⟩=>by
 unfold oSo at h
 rw [Rk.bind] at h
 refine TEd.go sx s e h fun d h v H1 H1' s1 e1 r1=>?_
 obtain ⟨o,ho,h⟩:=h.of
 cases d<;>dsimp only at ho<;>first | cases ho | skip
 cases r1.int
 exact ⟨_,rfl,h H1 s1⟩⟩
theorem zxq {o:D->Option Int->Option Int->Option D} {r:V->Option Int->Option Int->Hp->VK->Prop} {f:DE->R D} {fl fh:DE->R (Option Int)} (hs:SlD K fr o r) (h:TEd K EX fr (eSl o f fl fh) σ H Q):tSl r (TEd K EX false f) (TOd K EX fl) (TOd K EX fh) σ H Q:=by
 obtain ⟨sx,ρ,H0,s,e,h⟩:=h
 unfold eSl at h
 rw [Rk.bind] at h
 refine TEd.go sx s e h fun d h v H1 H1' s1 e1 r1=>?_
 rw [Rk.bind] at h
 refine ⟨sx.trans s1,ρ,H1',e1.2.1,e.mono e1.1,h.mono fun lo h H2 s2=>?_⟩
 rw [Rk.bind] at h
 refine ⟨(sx.trans s1).trans s2,ρ,H1',e1.2.1.trans s2,e.mono e1.1,h.mono fun hi h H3 s3=>?_⟩
 obtain ⟨z,hz,h⟩:=h.of
 exact hs H1' H3 v d z lo hi Q (e1.2.1.trans (s2.trans s3)) r1 hz fun w H4 o=>h w H4 (o.after (s1.trans (s2.trans s3)) (e1.grow (s2.trans s3)))
theorem RDs.cut {H:Hp} {ds:List D} {xs:List V} (r:RDs K H ds xs) (lo hi:Option Int):RDs K H (zd4 ds lo hi) (znh xs lo hi):=by
 unfold zd4 znh
 rw [<-r.length]
 exact (r.drop _).take _
theorem zls:SlD K true dSl (zwh K):=by
 intro H0 H x d z lo hi Q s r ho k
 cases d<;>simp only [dSl] at ho<;>first | cases ho | skip
 . obtain ⟨a,xs,rfl,ha,ra⟩:=r.lst
   refine ⟨a,xs,rfl,.of (s _ _ ha),fun p hp=>k _ _ (.new s hp fun H' hH=>?_)⟩
   simp only [OB]
   exact ⟨_,hH,ra.cut lo hi⟩
 . rename_i ns
   obtain ⟨a,rfl,ha⟩:=(r.mono s).scr
   refine ⟨a,_,rfl,ha,fun p hp=>k _ _ (.new s hp fun H' hH=>?_)⟩
   simp only [OB]
   have e:=(RDs.ofInts (K:=K) (H:=H0) ns).cut lo hi
   refine ⟨_,hH,?_⟩
   have e2:∀ns:List Int,zd4 (ns.map D.int) lo hi=(zd4 ns lo hi).map D.int:=fun ns=>by
    unfold zd4;rw [List.length_map,List.map_take,List.map_drop]
   rw [e2] at e
   exact e
theorem zxr {o:D->Option Int->Option Int->Option D} {r:V->Option Int->Option Int->Hp->VK->Prop} {e:Expr} {lo hi:Option Expr} {pos p2:Pos} {f:DE->R D} {fl fh:DE->R (Option Int)} (hr:SlR X r) (hs:SlD X.K fr o r) (he:QE X EX false e f) (hl:QO X EX lo fl) (hu:QO X EX hi fh) :
 QE X EX fr (.Subscript e (.Slice lo hi none p2) pos) (eSl o f fl fh):=⟨(zhf hr he.h hl.h hu.h).imp fun _ _ _ q=>zxq hs q⟩
end
noncomputable def iL (f:DE->R D):DE->R (List D):=fun ρ=>(f ρ).bind fun d=>R.of (items d)
noncomputable def zD (lo:Int) (n:Nat):List D:=(List.range n).map fun (i:Nat)=>D.int (lo+i)
noncomputable def zjj (fs:DE->R (List D)):DE->R (List D):=fun ρ=>(fs ρ).bind fun ds=>R.of (match ds with
 | [.int j]=>if -(2 ^ 62)<=j/\j<2 ^ 62 then some (zD 0 j.toNat) else none
 | _=>none)
noncomputable def iEn (fs:DE->R (List D)):DE->R (List D):=fun ρ=>(fs ρ).bind fun ds=>R.of (match ds with
 | [.lst es]=>some (((zD 0 es.length).zip es).map fun p=>D.tup [p.1,p.2])
 | _=>none)
section
variable {X:Cx} {K:Frag} {EX:XW} {H0:Hp}
theorem zf8 {S:Hp->Prop} {xs:List V} {ds:List D} (hS:∀H,Same H0 H->S H) (r:RDs K H0 ds xs):zp9 K (ItS S xs) H0 ds:=by
 have hl:=r.length
 refine ⟨fun i d e H H1 s1 s2=>⟨⟨hS H (s1.trans s2),by rw [<-hl];exact (List.getElem?_eq_some_iff.mp e).1⟩,fun x H' ⟨e1,e2⟩=>?_⟩,fun H s=>⟨hS H s,by rw [hl];exact Nat.le_refl _⟩⟩
 subst e1
 obtain ⟨x',q1,q2⟩:=r.get' e
 rw [q1] at e2;cases e2
 exact ⟨Same.refl _,H1,.refl s2,q2.mono s1⟩
theorem zpn (lo:Int) (n:Nat):RDs K H0 (zD lo n) (zdm lo n):=by
 have:∀l:List Nat,RDs K H0 (l.map fun (i:Nat)=>D.int (lo+i)) (l.map fun (i:Nat)=>V.int (lo+i)):=by
  intro l
  induction l with
  | nil=>simp [RDs]
  | cons a l ih=>exact .cons (.mkInt _) ih
 exact this _
theorem z5z {tg l:Expr} {f:DE->R D} (hl:QE X EX false l f):QI X EX false tg l (iL f):=⟨(zop hl.h).imp fun σ H Q ⟨sx,ρ,H0,s,e,h⟩=>by
 unfold iL at h
 rw [Rk.bind] at h
 refine TEd.go sx s e h fun d h v H1 H1' s1 e1 r1=>?_
 obtain ⟨ds,hd,h⟩:=h.of
 cases d<;>simp only [items] at hd<;>first | cases hd | skip
 . obtain ⟨a,xs,rfl,ha,ra⟩:=r1.tup
   exact zhm (e1.2.1 _ _ ha) (h _ H1 H1' s1 e1 (zf8 (fun H s=>s _ _ ha) ra))
 . obtain ⟨a,xs,rfl,ha,ra⟩:=r1.lst
   exact zhl (.inl (e1.2.1 _ _ ha)) (h _ H1 H1' s1 e1 (zf8 (fun H s=>.inl (s _ _ ha)) ra))⟩
theorem zxs {tg a:Expr} {p pos:Pos} {fs:DE->R (List D)} (hg:Gl X "range") (hm:X.mg "range"=none) (ha:QA X EX [a] fs) (hs:starEach [a] X.env=[(false,eval a X.env)]:=by rfl):QI X EX true tg (.Call (.Name "range" p) [a] [] pos) (zjj fs):=⟨(ztt hg hm ha.h hs).imp fun σ H Q ⟨sx,ρ,H0,s,e,h⟩=>by
 unfold zjj at h
 rw [Rk.bind] at h
 refine TAd.go sx s e h fun ds h vs H1 H1' s1 e1 r1=>?_
 obtain ⟨es,hd,h⟩:=h.of
 split at hd<;>first | cases hd | skip
 obtain ⟨x,rfl,q1⟩:=r1.uno
 cases q1.int
 split at hd<;>cases hd
 rename_i hb
 exact ⟨hb,h _ H1 H1' s1 e1 (zf8 (fun _ _=>trivial) (zpn _ _))⟩⟩
theorem zjk {S:Hp->Prop} {xs ys:List V} {ds es:List D} (hS:∀H,Same H0 H->S H) (r:RDs K H0 ds xs) (r':RDs K H0 es ys):zp9 K (ItP S (xs.zip ys)) H0 ((ds.zip es).map fun p=>D.tup [p.1,p.2]):=by
 have hl:=r.length
 have hl':=r'.length
 have hz:((ds.zip es).map fun p=>D.tup [p.1,p.2]).length=(xs.zip ys).length:=by rw [List.length_map,List.length_zip,List.length_zip,hl,hl']
 refine ⟨fun i d e H H1 s1 s2=>⟨⟨hS H (s1.trans s2),by rw [<-hz];exact (List.getElem?_eq_some_iff.mp e).1⟩,fun x H' y=>?_⟩,fun H s=>⟨hS H s,hz⟩⟩
 obtain ⟨T,a,b,rfl,hT,rfl,ep⟩:=y
 obtain ⟨ea,eb⟩:=List.getElem?_zip_eq_some.mp ep
 obtain ⟨da,ga,ra⟩:=r.get ea
 obtain ⟨db,gb,rb⟩:=r'.get eb
 have gz:(ds.zip es)[i]?=some (da,db):=List.getElem?_zip_eq_some.mpr ⟨ga,gb⟩
 rw [List.getElem?_map,gz] at e
 cases e
 refine ⟨Same.upd_new hT,upd H1 T (.tup [a,b]),.new s2 hT,.mkTup z0r ?_⟩
 have sm:=Same.upd_new (o:=.tup [a,b]) (s2.none hT)
 exact .cons (ra.mono (s1.trans sm)) (.cons (rb.mono (s1.trans sm)) .nil)
theorem zxt {elts:List Expr} {k:Nat} {a:Expr} {p pos tpos:Pos} {fs:DE->R (List D)} (hg:Gl X "enumerate") (hm:X.mg "enumerate"=none) (ha:QA X EX [a] fs) (hs:starEach [a] X.env=[(false,eval a X.env)]:=by rfl) :
  QI X EX false (.Tuple elts k tpos) (.Call (.Name "enumerate" p) [a] [] pos) (iEn fs):=⟨(zl8 hg hm ha.h hs).imp fun σ H Q ⟨sx,ρ,H0,s,e,h⟩=>by
 unfold iEn at h
 rw [Rk.bind] at h
 refine TAd.go sx s e h fun ds h vs H1 H1' s1 e1 r1=>?_
 obtain ⟨es,hd,h⟩:=h.of
 split at hd<;>first | cases hd | skip
 obtain ⟨x,rfl,q1⟩:=r1.uno
 obtain ⟨l,xs,rfl,hl,rl⟩:=q1.lst
 refine ⟨xs,.inl (e1.2.1 _ _ hl),h _ H1 H1' s1 e1 ?_⟩
 rw [rl.length]
 exact zjk (fun H s=>.inl (s _ _ hl)) (zpn _ _) rl⟩
end
section
variable {X:Cx} {sc:Scope} {caps:List Str} {ix:List Nat} {elt iter:Expr} {ifs:List Expr} {pos px py pz tpos:Pos} {x y z:Str} {kt:Nat} {kp:Bool} {EX:XW} {fi:DE->R (List D)} {t:DE->R Bool} {f:DE->R D}
noncomputable def zhy:DE->R Bool:=fun _=>.ok true
inductive PTq (X:Cx) (sc:Scope) (N:List Str):List Expr->(DE->R Bool)->Prop where
 | nil:PTq X sc N [] zhy
 | one {c:Expr} {t:DE->R Bool} (h:∀fp s H,QT (z0o X sc N fp s H) F0 c t):PTq X sc N [c] t
theorem PTq.run {N:List Str} (h:PTq X sc N ifs t):∃tt,(∀fp s H,PTs (z0o X sc N fp s H) ifs tt)/\∀σ H Q,TTd X.K F0 t σ H Q->tt σ H Q:=by
 cases h with
 | nil=>exact ⟨_,fun _ _ _=>.nil,fun σ H Q ⟨sx,ρ,H0,s,e,h⟩=>h H (Same.refl _)⟩
 | one h=>exact ⟨_,fun fp s H=>.one (h fp s H).h,fun _ _ _ q=>q⟩
theorem zxu (C:CompOk X sc caps ix) (hN:([x]++caps).Nodup) (hx:sc.names.lookup x=some .local) (hi:QI X EX kp (.Name x px) iter fi) (ht:PTq X sc ([x]++caps) ifs t) (he:∀fp s H,QE (z0o X sc ([x]++caps) fp s H) F0 false elt f)
  (hs:∀x,foldedSetIterable iter X.env x=pure x:=by intro _;rfl):QE X EX true (.ListComp elt [⟨.Name x px,iter,ifs,0⟩] sc pos) (z2b fi b1 ix t f):=by
 obtain ⟨tt,h1,h2⟩:=ht.run
 refine ⟨(zhn C hN hx hi.h h1 (fun fp s H=>(he fp s H).h) hs).imp fun _ _ _ q=>zew zxp h2 q⟩
theorem zus (C:CompOk X sc caps ix) (hN:([x,y,z]++caps).Nodup) (hx:sc.names.lookup x=some .local) (hy:sc.names.lookup y=some .local) (hz:sc.names.lookup z=some .local) (hi:QI X EX kp (.Tuple [.Name x px,.Name y py,.Name z pz] kt tpos) iter fi) (ht:PTq X sc ([x,y,z]++caps) ifs t)
  (he:∀fp s H,QE (z0o X sc ([x,y,z]++caps) fp s H) F0 false elt f) (hs:∀x,foldedSetIterable iter X.env x=pure x:=by intro _;rfl):QE X EX true (.ListComp elt [⟨.Tuple [.Name x px,.Name y py,.Name z pz] kt tpos,iter,ifs,0⟩] sc pos) (z2b fi (bT 3) ix t f):=by
 obtain ⟨tt,h1,h2⟩:=ht.run
 refine ⟨(zhp C hN hx hy hz hi.h h1 (fun fp s H=>(he fp s H).h) hs).imp fun _ _ _ q=>zew zwn h2 q⟩
theorem zf9 {te te':TE} {g:TG} (h:∀σ H Q,te' σ H Q->te σ H Q) {De:Ends} {σ:St} {H:Hp} (q:zhd te' g De σ H):zhd te g De σ H:=h _ _ _ q
theorem zws {fr:Bool} {m:List Bool} {v:Str} {k:Nat} {spos pv:Pos} (hNX:X.N.Nodup) (hk:X.N[k]?=some v) (hv:X.env.scope.names.lookup v=some .local) (C:CompOk X sc caps ix) (hN:([x,y]++caps).Nodup) (hx:sc.names.lookup x=some .local) (hy:sc.names.lookup y=some .local)
  (hi:QI X EX kp (.Tuple [.Name x px,.Name y py] kt tpos) iter fi) (ht:PTq X sc ([x,y]++caps) ifs t) (he:∀fp s H,QE (z0o X sc ([x,y]++caps) fp s H) F0 false elt f)
  (hsw:swapsWith (.ListComp elt [⟨.Tuple [.Name x px,.Name y py] kt tpos,iter,ifs,0⟩] sc pos) (some (.Name v pv)) spos.line X.env=pure true:=by rfl) (hs:∀x,foldedSetIterable iter X.env x=pure x:=by intro _;rfl) :
  QS X EX fr (.Assign [.Name v pv] (.ListComp elt [⟨.Tuple [.Name x px,.Name y py] kt tpos,iter,ifs,0⟩] sc pos) spos) (z2m true k m (z2b fi (bT 2) ix t f)):=by
 obtain ⟨tt,h1,h2⟩:=ht.run
 refine ⟨(zho hNX hk hv C hN hx hy hi.h h1 (fun fp s H=>(he fp s H).h) hsw hs).imp fun _ _ _ q=>zf9 (fun _ _ _ q=>zew zwn h2 q) (zp6 q)⟩
end
section
variable {X:Cx} {EX:XW} {fr fr':Bool} {st:Stmt} {sts:List Stmt} {a b c e:Expr} {es:List Expr} {f fv fk:DE->R D} {fs:DE->R (List D)} {t:DE->R Bool} {g g1 g2:DS->SR} {pos p:Pos} {m:List Bool}
theorem z3k:QB X EX fr [] sNx:=⟨pss_nil.imp fun _ _ _ q=>zxl q⟩
theorem z0h (h:QS X EX fr st g):QB X EX fr [st] g:=⟨zdu h.h⟩
theorem z05 (h1:QS X EX fr st g1) (h2:QB X EX fr sts g2):QB X EX fr (st::sts) (z12 g1 g2):=⟨(zhc h1.h h2.h).imp fun _ _ _ q=>zub q⟩
theorem z7k {x y:List Stmt} (hc:QT X EX c t) (ha:QB X EX fr x g1) (hb:QB X EX fr y g2):QS X EX fr (.If c x y pos) (sIf t g1 g2):=⟨(zo4 hc.h ha.h hb.h).imp fun _ _ _ q=>zp5 q⟩
theorem z27 (he:QE X EX fr e f):QS X EX fr (.Return (some e) pos) (z4s m f):=⟨(zj3 he.h).imp fun _ _ _ q=>zuc q⟩
theorem zjl {i:Nat} {x:Str} {p:Pos} (hN:X.N[i]?=some x:=by rfl) (hv:Vis X.env.scope x:=by first | exact Or.inl rfl | exact Or.inr (Or.inl rfl) | exact Or.inr (Or.inr rfl)) (hd:(x==("__debug__":Str))=false:=by decide)
 (hcd:(x==("__classdict__":Str))=false:=by decide):QS X EX true (.Return (some (.Name x p)) pos) (zal i):=⟨(zj3 (pw i hN hv hd hcd)).imp fun _ _ _ q=>zp7 q⟩
theorem z0t {i:Nat} {x:Str} {pos':Pos} (hN:X.N.Nodup) (hi:X.N[i]?=some x) (hx:Loc X.env.scope x) (he:QE X EX fr' e f) (hs:swapsWith e (some (.Name x pos')) pos.line X.env=pure false:=by rfl) (hf:X.fn x=true\/X.env.scope.names.lookup x=some .local:=by first | exact .inl rfl | exact .inr rfl | assumption) :
 QS X EX fr (.Assign [.Name x pos'] e pos) (z2m fr' i m f):=⟨(zo7 hN hi hx he.h hs hf).imp fun _ _ _ q=>zp6 q⟩
theorem g_n {i:Nat} {x:Str} {pos:Pos} (hN:X.N.Nodup) (hi:X.N[i]?=some x) (hx:Loc X.env.scope x) (hf:X.fn x=true\/X.env.scope.names.lookup x=some .local:=by first | exact .inl rfl | exact .inr rfl | assumption):QG X (.Name x pos) (.n i):=⟨(zab hN hi hx hf).imp fun _ _ _ _ q=>zxm q⟩
theorem z7l:QGs X [] []:=⟨zhq⟩
theorem z1h {i:Nat} {is:List Nat} {x:Str} {pos:Pos} {ts:List Expr} (hN:X.N.Nodup) (hi:X.N[i]?=some x) (hx:Loc X.env.scope x) (hr:QGs X ts is) (hf:X.fn x=true\/X.env.scope.names.lookup x=some .local:=by first | exact .inl rfl | exact .inr rfl | assumption)
 (hs:(assignEach (.Name x pos::ts) X.env).map (·.2)=assign (.Name x pos) X.env::(assignEach ts X.env).map (·.2):=by rfl):QGs X (.Name x pos::ts) (i::is):=⟨zem (zab hN hi hx hf) hr.h hs⟩
theorem g_t {is:List Nat} {ts:List Expr} {k:Nat} {pos:Pos} (hc:X.calm=true) (h:QGs X ts is) (hn:(assignEach ts X.env).length=is.length:=by rfl) (hst:(assignEach ts X.env).findIdx? (·.1)=none:=by rfl):QG X (.Tuple ts k pos) (.t is):=⟨(zlb hc h.h hn hst).imp fun _ _ _ _ q=>zxn q⟩
theorem z71 {tg iter:Expr} {tt:Tg} {body:List Stmt} {kp:Bool} {fi:DE->R (List D)} (hp:PassesOwn (model X.prog X.w) X.A X.env X.xe) (hc:X.calm=true) (hi:QI X EX kp tg iter fi) (hg:QG X tg tt) (hb:QB X EX fr body g)
 (hs:∀x,foldedSetIterable iter X.env x=pure x:=by intro _;rfl):QS X EX fr (.For tg iter body [] pos) (z7c kp m fi tt g):=⟨(zl7 hp hc hi.h hg.h hb.h hs).imp fun _ _ _ q=>zug q⟩
noncomputable def z6w:D->List D->Option D
 | .lst ds,[d]=>if ds.length<100000 then some (.lst (ds++[d])) else none
 | _,_=>none
theorem z4h {K:Frag}:TyD K "list":=fun H0 H a d ob h=>by
 cases d<;>simp [isT] at h
 simp only [OB] at ob
 obtain ⟨xs,hx,_⟩:=ob
 exact .inl ⟨rfl,xs,.of hx⟩
theorem z6g {K:Frag}:zud K z6w ze8:=by
 intro H0 H a d d' ds vs Q s h0 ob r hm k
 unfold z6w at hm
 split at hm<;>first | cases hm | skip
 split at hm<;>cases hm
 rename_i es e hl
 simp only [OB] at ob
 obtain ⟨xs,hx,rx⟩:=ob
 obtain ⟨y,rfl,q1⟩:=r.uno
 refine ⟨a,xs,y,rfl,rfl,hx,by rw [<-rx.length];exact z4t hl,k _ _ ?_⟩
 simp only [OB]
 exact ⟨_,z0r,rx.append (.one q1)⟩
theorem zat {T id:String} {name:Str} {i:Nat} {x:Str} {xp apos cpos:Pos} {mt:D->List D->Option D} {rr:V->List V->Hp->VK->Prop} (pa:PlainAttrs T) (slot:Slot T name id) (hty:typeOf (.builtin id)=pure (.type "method_descriptor")) (hm:MtM X id rr) (od:zud X.K mt rr) (hT:TyD X.K T)
 (ho:PE X (.Name x xp) (zag i)) (ha:QA X EX (e::es) fs)
 (hbase:attributeBase (.Name x xp) name X.env (eval (.Name x xp) X.env)=eval (.Name x xp) X.env:=by rfl)
 (hfew:((backTo cpos (starEach (e::es) X.env)).all (fun x=>!x.1)&&(backToKw cpos (keywordEach [] X.env)).all (fun x=>x.1.isSome)
  && decide ((e::es).length+([]:List Keyword).length+(if ([]:List Keyword).isEmpty then 0 else 1)<30))=true:=by rfl)
 (hline:(apos.endLine==cpos.line)=true:=by rfl) (hs:starEach (e::es) X.env=(false,eval e X.env)::starEach es X.env:=by rfl) (hplain:(backTo cpos (starEach es X.env)).any (·.1)=false:=by rfl)
 (hsw:swapsWith (.Call (.Attribute (.Name x xp) name apos) (e::es) [] cpos) none pos.line X.env=pure false:=by rfl) :
 QS X EX fr (.Expr (.Call (.Attribute (.Name x xp) name apos) (e::es) [] cpos) pos) (zbl T mt i m fs):=⟨(zdw (zto pa slot hty hm ho ha.h hbase hfew hline hs hplain) hsw).imp fun _ _ _ q=>zue od hT q⟩
end
theorem fnD {P:Program} {w:World} {K:Frag} {mg:Str->Option Value} {base:Heap} {x qual:Str} {st:Stmt} {f:Addr} {fd:FuncData} {N ps:List Str} {k n kk:Nat} {fr:Bool} {g:DS->SR} (F:Fun K x qual st f fd) (S:FnScope N ps (z03 st)) (hps:ps.length=n) (hN:N.length=n+kk)
  (hbody:∀(cdv:Value) (A:Around) (outer:List Env) (s:Shared) (H:Hp) (E:XK),Room k (A.deeper (envOfC qual (z03 st) s.heap.objs.size f cdv)) ->
   QB (zh3 (CX1 P w) P w K mg base N qual (z03 st) f cdv A outer s H E) ⟨H,xNm mg E⟩ fr (z0e st) g):FnOk P w K mg base (CX1 P w) (k+1) f fd ps (spD K mg fr (mOf fr n kk g) n):=by
 have hlen:∀{vs:List V} {H:Hp} {Q:VK} {E:XK},spD K mg fr (mOf fr n kk g) n vs H Q E->vs.length=n:=fun {vs H Q E} h=>by
  obtain ⟨ds,H0,s,r,hn,_⟩:=h
  rw [<-r.length];exact hn
 refine F.okX S (fun vs H Q E h=>by rw [hlen h,hps]) (fun cdv A outer s H vs Q E hr h=>⟨_,(hbody cdv A outer s H E hr).h,?_⟩)
 have e:start N vs=vs.map some++List.replicate kk none:=by
  unfold start
  rw [hlen h,hN,Nat.add_sub_cancel_left]
 rw [e]
 exact zpb h
noncomputable def spL (K:Frag) (fr:Bool) (m:List D->R D) (n:Nat):Sp:=fun vs H Q _=>∃ds H0,Same H0 H/\RDs K H0 ds vs/\ds.length=n/\Rk (fun _=>False) (m ds) fun d=>∀v H',Out K fr H0 H d v H'->Q v H'
theorem spL.spD {K:Frag} {fr:Bool} {m:List D->R D} {n:Nat} {vs:List V} {H:Hp} {Q:VK} {E:XK} {mg:Str->Option Value} (h:spL K fr m n vs H Q E):L2.spD K mg fr m n vs H Q E:=by
 obtain ⟨ds,H0,s,r,hn,h⟩:=h
 refine ⟨ds,H0,s,r,hn,?_⟩
 cases q:m ds with
 | ok d=>rw [q] at h;exact h
 | er x=>rw [q] at h;exact h.elim
 | st=>rw [q] at h;exact h.elim
theorem zpo {K:Frag} {H:Hp} {a:Addr} {ns:List Int} {m:List D->R D} {fr:Bool} (hO:zt3 H) (hS:SqL K H a (ns.map V.int)) (h:m [.scr ns]=.ok (.bl true)):spL K fr m 1 [.ref a] H (fun v _=>v=.bl true) fun _ _ _=>False:=by
 refine ⟨[.scr ns],H,Same.refl _,.one ?_,rfl,?_⟩
 . simp only [RD]
   refine ⟨a,rfl,?_⟩
   rcases hS with (hS | hS) | hS
   . rcases hO a with z | ⟨o,xs,z⟩<;>rw [z] at hS<;>cases hS
   . exact .inl hS
   . exact .inr hS
 . rw [h]
   exact fun v H' o=>by
    obtain ⟨_,H0',_,r⟩:=o.weak.rd
    exact r.bl
end L2
namespace L2
open PySem PySem.Spec PyProof.Rows
open PySem.W (KasT kas_sort kas_rev kas_asc kas_desc kas_tail3 kas_descPart kas_count kas_place kas_bin)
section
variable {lt:Nat->Nat->Bool} {p:Array Nat}
abbrev g (p:Array Nat) (i:Nat):Nat:=p.getD i 0
end
end L2
namespace L2
open PySem PySem.Spec PyProof.Rows
open PySem.W (KasT kas_sort)
mutual
noncomputable def D.oi:D->Bool
 | .int _=>true
 | .tup ds=>ois ds
 | _=>false
noncomputable def ois:List D->Bool
 | []=>true
 | d::ds=>d.oi&&ois ds
end
mutual
noncomputable def ltT:D->D->Bool
 | .int i,.int j=>decide (i<j)
 | .int _,.tup _=>true
 | .tup ds,.tup es=>z6x ds es
 | _,_=>false
noncomputable def z6x:List D->List D->Bool
 | [],[]=>false
 | [],_::_=>true
 | _::_,[]=>false
 | d::ds,e::es=>if eqD d e=true then z6x ds es else ltT d e
end
mutual
noncomputable def z2n:D->D->Option Bool
 | .int i,.int j=>some (decide (i<j))
 | .tup ds,.tup es=>z30 ds es
 | _,_=>none
noncomputable def z30:List D->List D->Option Bool
 | [],[]=>some false
 | [],_::_=>some true
 | _::_,[]=>some false
 | d::ds,e::es=>if eqD d e=true then z30 ds es else z2n d e
end
mutual
theorem zfa:∀{d e:D} {b:Bool},z2n d e=some b->b=ltT d e
 | .int i,.int j,b,h=>by simp only [z2n,Option.some.injEq] at h;simp only [ltT];exact h.symm
 | .tup ds,.tup es,b,h=>by simp only [z2n] at h;simp only [ltT];exact zfb h
 | .non,e,b,h=>by simp [z2n] at h
 | .bl _,e,b,h=>by simp [z2n] at h
 | .str _,e,b,h=>by simp [z2n] at h
 | .lst _,e,b,h=>by simp [z2n] at h
 | .dk _ _,e,b,h=>by simp [z2n] at h
 | .dt _ _,e,b,h=>by simp [z2n] at h
 | .dn _ _,e,b,h=>by simp [z2n] at h
 | .scr _,e,b,h=>by simp [z2n] at h
 | .exc _,e,b,h=>by simp [z2n] at h
 | .int _,.non,b,h=>by simp [z2n] at h
 | .int _,.bl _,b,h=>by simp [z2n] at h
 | .int _,.str _,b,h=>by simp [z2n] at h
 | .int _,.lst _,b,h=>by simp [z2n] at h
 | .int _,.tup _,b,h=>by simp [z2n] at h
 | .int _,.dk _ _,b,h=>by simp [z2n] at h
 | .int _,.dt _ _,b,h=>by simp [z2n] at h
 | .int _,.dn _ _,b,h=>by simp [z2n] at h
 | .int _,.scr _,b,h=>by simp [z2n] at h
 | .int _,.exc _,b,h=>by simp [z2n] at h
 | .tup _,.non,b,h=>by simp [z2n] at h
 | .tup _,.bl _,b,h=>by simp [z2n] at h
 | .tup _,.int _,b,h=>by simp [z2n] at h
 | .tup _,.str _,b,h=>by simp [z2n] at h
 | .tup _,.lst _,b,h=>by simp [z2n] at h
 | .tup _,.dk _ _,b,h=>by simp [z2n] at h
 | .tup _,.dt _ _,b,h=>by simp [z2n] at h
 | .tup _,.dn _ _,b,h=>by simp [z2n] at h
 | .tup _,.scr _,b,h=>by simp [z2n] at h
 | .tup _,.exc _,b,h=>by simp [z2n] at h
theorem zfb:∀{ds es:List D} {b:Bool},z30 ds es=some b->b=z6x ds es
 | [],[],b,h=>by simp only [z30,Option.some.injEq] at h;simp only [z6x];exact h.symm
 | [],_::_,b,h=>by simp only [z30,Option.some.injEq] at h;simp only [z6x];exact h.symm
 | _::_,[],b,h=>by simp only [z30,Option.some.injEq] at h;simp only [z6x];exact h.symm
 | d::ds,e::es,b,h=>by
  simp only [z30] at h
  simp only [z6x]
  split at h
  . rename_i q;rw [if_pos q];exact zfb h
  . rename_i q;rw [if_neg q];exact zfa h
end
mutual
theorem zd5:∀{d e:D},d.oi=true->eqD d e=true->e.oi=true->d=e
 | .int i,.int j,_,h,_=>by simp only [eqD,beq_iff_eq] at h;rw [h]
 | .tup ds,.tup es,p,h,q=>by
  simp only [eqD] at h
  simp only [D.oi] at p q
  rw [zjm p h q]
 | .int i,.tup _,_,h,_=>by simp [eqD] at h
 | .tup _,.int _,_,h,_=>by simp [eqD] at h
 | .int _,.non,_,_,q=>by simp [D.oi] at q
 | .int _,.bl _,_,_,q=>by simp [D.oi] at q
 | .int _,.str _,_,_,q=>by simp [D.oi] at q
 | .int _,.lst _,_,_,q=>by simp [D.oi] at q
 | .int _,.dk _ _,_,_,q=>by simp [D.oi] at q
 | .int _,.dt _ _,_,_,q=>by simp [D.oi] at q
 | .int _,.dn _ _,_,_,q=>by simp [D.oi] at q
 | .int _,.scr _,_,_,q=>by simp [D.oi] at q
 | .int _,.exc _,_,_,q=>by simp [D.oi] at q
 | .tup _,.non,_,_,q=>by simp [D.oi] at q
 | .tup _,.bl _,_,_,q=>by simp [D.oi] at q
 | .tup _,.str _,_,_,q=>by simp [D.oi] at q
 | .tup _,.lst _,_,_,q=>by simp [D.oi] at q
 | .tup _,.dk _ _,_,_,q=>by simp [D.oi] at q
 | .tup _,.dt _ _,_,_,q=>by simp [D.oi] at q
 | .tup _,.dn _ _,_,_,q=>by simp [D.oi] at q
 | .tup _,.scr _,_,_,q=>by simp [D.oi] at q
 | .tup _,.exc _,_,_,q=>by simp [D.oi] at q
 | .non,_,p,_,_=>by simp [D.oi] at p
 | .bl _,_,p,_,_=>by simp [D.oi] at p
 | .str _,_,p,_,_=>by simp [D.oi] at p
 | .lst _,_,p,_,_=>by simp [D.oi] at p
 | .dk _ _,_,p,_,_=>by simp [D.oi] at p
 | .dt _ _,_,p,_,_=>by simp [D.oi] at p
 | .dn _ _,_,p,_,_=>by simp [D.oi] at p
 | .scr _,_,p,_,_=>by simp [D.oi] at p
 | .exc _,_,p,_,_=>by simp [D.oi] at p
theorem zjm:∀{ds es:List D},ois ds=true->z46 ds es=true->ois es=true->ds=es
 | [],[],_,_,_=>rfl
 | [],_::_,_,h,_=>by simp [z46] at h
 | _::_,[],_,h,_=>by simp [z46] at h
 | d::ds,e::es,p,h,q=>by
  simp only [z46,Bool.and_eq_true] at h
  simp only [ois,Bool.and_eq_true] at p q
  rw [zd5 p.1 h.1 q.1,zjm p.2 h.2 q.2]
end
mutual
theorem z8f:∀{d:D},d.oi=true->eqD d d=true
 | .int i,_=>by simp [eqD]
 | .tup ds,p=>by simp only [eqD];exact zbs (by simpa only [D.oi] using p)
 | .non,p=>by simp [D.oi] at p
 | .bl _,p=>by simp [D.oi] at p
 | .str _,p=>by simp [D.oi] at p
 | .lst _,p=>by simp [D.oi] at p
 | .dk _ _,p=>by simp [D.oi] at p
 | .dt _ _,p=>by simp [D.oi] at p
 | .dn _ _,p=>by simp [D.oi] at p
 | .scr _,p=>by simp [D.oi] at p
 | .exc _,p=>by simp [D.oi] at p
theorem zbs:∀{ds:List D},ois ds=true->z46 ds ds=true
 | [],_=>rfl
 | d::ds,p=>by
  simp only [ois,Bool.and_eq_true] at p
  simp only [z46,z8f p.1,zbs p.2,Bool.and_self]
end
mutual
theorem zbt:∀{d e:D},d.oi=true->e.oi=true->ltT d e=false->ltT e d=false->d=e
 | .int i,.int j,_,_,h,h'=>by
  simp only [ltT,decide_eq_false_iff_not] at h h'
  have:i=j:=by omega
  rw [this]
 | .tup ds,.tup es,p,q,h,h'=>by
  simp only [ltT] at h h'
  simp only [D.oi] at p q
  rw [zfc p q h h']
 | .int _,.tup _,_,_,h,_=>by simp [ltT] at h
 | .tup _,.int _,_,_,_,h=>by simp [ltT] at h
 | .int _,.non,_,q,_,_=>by simp [D.oi] at q
 | .int _,.bl _,_,q,_,_=>by simp [D.oi] at q
 | .int _,.str _,_,q,_,_=>by simp [D.oi] at q
 | .int _,.lst _,_,q,_,_=>by simp [D.oi] at q
 | .int _,.dk _ _,_,q,_,_=>by simp [D.oi] at q
 | .int _,.dt _ _,_,q,_,_=>by simp [D.oi] at q
 | .int _,.dn _ _,_,q,_,_=>by simp [D.oi] at q
 | .int _,.scr _,_,q,_,_=>by simp [D.oi] at q
 | .int _,.exc _,_,q,_,_=>by simp [D.oi] at q
 | .tup _,.non,_,q,_,_=>by simp [D.oi] at q
 | .tup _,.bl _,_,q,_,_=>by simp [D.oi] at q
 | .tup _,.str _,_,q,_,_=>by simp [D.oi] at q
 | .tup _,.lst _,_,q,_,_=>by simp [D.oi] at q
 | .tup _,.dk _ _,_,q,_,_=>by simp [D.oi] at q
 | .tup _,.dt _ _,_,q,_,_=>by simp [D.oi] at q
 | .tup _,.dn _ _,_,q,_,_=>by simp [D.oi] at q
 | .tup _,.scr _,_,q,_,_=>by simp [D.oi] at q
 | .tup _,.exc _,_,q,_,_=>by simp [D.oi] at q
 | .non,_,p,_,_,_=>by simp [D.oi] at p
 | .bl _,_,p,_,_,_=>by simp [D.oi] at p
 | .str _,_,p,_,_,_=>by simp [D.oi] at p
 | .lst _,_,p,_,_,_=>by simp [D.oi] at p
 | .dk _ _,_,p,_,_,_=>by simp [D.oi] at p
 | .dt _ _,_,p,_,_,_=>by simp [D.oi] at p
 | .dn _ _,_,p,_,_,_=>by simp [D.oi] at p
 | .scr _,_,p,_,_,_=>by simp [D.oi] at p
 | .exc _,_,p,_,_,_=>by simp [D.oi] at p
theorem zfc:∀{ds es:List D},ois ds=true->ois es=true->z6x ds es=false->z6x es ds=false->ds=es
 | [],[],_,_,_,_=>rfl
 | [],_::_,_,_,h,_=>by simp [z6x] at h
 | _::_,[],_,_,_,h=>by simp [z6x] at h
 | d::ds,e::es,p,q,h,h'=>by
  simp only [ois,Bool.and_eq_true] at p q
  simp only [z6x] at h h'
  by_cases w:eqD d e=true
  . have:=zd5 p.1 w q.1
    subst this
    rw [if_pos w] at h
    rw [if_pos w] at h'
    rw [zfc p.2 q.2 h h']
  . have w':¬eqD e d=true:=fun z=>w (by rw [zd5 q.1 z p.1];exact z8f p.1)
    rw [if_neg w] at h
    rw [if_neg w'] at h'
    have:=zbt p.1 q.1 h h'
    subst this
    exact absurd (z8f p.1) w
end
mutual
theorem zfd:∀{d:D},d.oi=true->ltT d d=false
 | .int i,_=>by simp [ltT]
 | .tup ds,p=>by simp only [ltT];exact zfe (by simpa only [D.oi] using p)
 | .non,p=>by simp [D.oi] at p
 | .bl _,p=>by simp [D.oi] at p
 | .str _,p=>by simp [D.oi] at p
 | .lst _,p=>by simp [D.oi] at p
 | .dk _ _,p=>by simp [D.oi] at p
 | .dt _ _,p=>by simp [D.oi] at p
 | .dn _ _,p=>by simp [D.oi] at p
 | .scr _,p=>by simp [D.oi] at p
 | .exc _,p=>by simp [D.oi] at p
theorem zfe:∀{ds:List D},ois ds=true->z6x ds ds=false
 | [],_=>rfl
 | d::ds,p=>by
  simp only [ois,Bool.and_eq_true] at p
  simp only [z6x]
  rw [if_pos (z8f p.1)]
  exact zfe p.2
end
mutual
theorem zhz:∀{d e f:D},d.oi=true->e.oi=true->f.oi=true->ltT d e=true->ltT e f=true->ltT d f=true
 | .int i,.int j,.int k,_,_,_,h,h'=>by
  simp only [ltT,decide_eq_true_eq] at h h' ⊢
  omega
 | .int i,.int j,.tup _,_,_,_,h,h'=>by simp only [ltT]
 | .int i,.tup _,.tup _,_,_,_,h,h'=>by simp only [ltT]
 | .tup ds,.tup es,.tup fs,p,q,r,h,h'=>by
  simp only [ltT] at h h' ⊢
  simp only [D.oi] at p q r
  exact zjn p q r h h'
 | .int i,.tup _,.int _,_,_,_,h,h'=>by simp [ltT] at h'
 | .tup _,.int _,_,_,_,_,h,h'=>by simp [ltT] at h
 | .tup _,.tup _,.int _,_,_,_,h,h'=>by simp [ltT] at h'
 | .non,_,_,p,_,_,_,_=>by simp [D.oi] at p
 | .bl _,_,_,p,_,_,_,_=>by simp [D.oi] at p
 | .str _,_,_,p,_,_,_,_=>by simp [D.oi] at p
 | .lst _,_,_,p,_,_,_,_=>by simp [D.oi] at p
 | .dk _ _,_,_,p,_,_,_,_=>by simp [D.oi] at p
 | .dt _ _,_,_,p,_,_,_,_=>by simp [D.oi] at p
 | .dn _ _,_,_,p,_,_,_,_=>by simp [D.oi] at p
 | .scr _,_,_,p,_,_,_,_=>by simp [D.oi] at p
 | .exc _,_,_,p,_,_,_,_=>by simp [D.oi] at p
 | _,.non,_,_,p,_,_,_=>by simp [D.oi] at p
 | _,.bl _,_,_,p,_,_,_=>by simp [D.oi] at p
 | _,.str _,_,_,p,_,_,_=>by simp [D.oi] at p
 | _,.lst _,_,_,p,_,_,_=>by simp [D.oi] at p
 | _,.dk _ _,_,_,p,_,_,_=>by simp [D.oi] at p
 | _,.dt _ _,_,_,p,_,_,_=>by simp [D.oi] at p
 | _,.dn _ _,_,_,p,_,_,_=>by simp [D.oi] at p
 | _,.scr _,_,_,p,_,_,_=>by simp [D.oi] at p
 | _,.exc _,_,_,p,_,_,_=>by simp [D.oi] at p
 | _,_,.non,_,_,p,_,_=>by simp [D.oi] at p
 | _,_,.bl _,_,_,p,_,_=>by simp [D.oi] at p
 | _,_,.str _,_,_,p,_,_=>by simp [D.oi] at p
 | _,_,.lst _,_,_,p,_,_=>by simp [D.oi] at p
 | _,_,.dk _ _,_,_,p,_,_=>by simp [D.oi] at p
 | _,_,.dt _ _,_,_,p,_,_=>by simp [D.oi] at p
 | _,_,.dn _ _,_,_,p,_,_=>by simp [D.oi] at p
 | _,_,.scr _,_,_,p,_,_=>by simp [D.oi] at p
 | _,_,.exc _,_,_,p,_,_=>by simp [D.oi] at p
theorem zjn:∀{ds es fs:List D},ois ds=true->ois es=true->ois fs=true->z6x ds es=true->z6x es fs=true->z6x ds fs=true
 | [],_,_::_,_,_,_,_,_=>by simp only [z6x]
 | _,[],[],_,_,_,_,h=>by simp [z6x] at h
 | _::_,[],_,_,_,_,h,_=>by simp [z6x] at h
 | _,_::_,[],_,_,_,_,h=>by simp [z6x] at h
 | d::ds,e::es,f::fs,p,q,r,h,h'=>by
  simp only [ois,Bool.and_eq_true] at p q r
  simp only [z6x] at h h' ⊢
  by_cases w:eqD d e=true
  . have:=zd5 p.1 w q.1
    subst this
    rw [if_pos w] at h
    by_cases w2:eqD d f=true
    . rw [if_pos w2] at h' ⊢;exact zjn p.2 q.2 r.2 h h'
    . rw [if_neg w2] at h' ⊢;exact h'
  . rw [if_neg w] at h
    by_cases w2:eqD e f=true
    . have:=zd5 q.1 w2 r.1
      subst this
      rw [if_neg w];exact h
    . rw [if_neg w2] at h'
      have h3:=zhz p.1 q.1 r.1 h h'
      by_cases w3:eqD d f=true
      . have:=zd5 p.1 w3 r.1
        subst this
        rw [zfd p.1] at h3;cases h3
      . rw [if_neg w3];exact h3
end
theorem z6h:∀{ds:List D} {i:Nat},ois ds=true->(ds.getD i (.int 0)).oi=true
 | [],i,_=>by simp [D.oi]
 | d::ds,0,h=>by simp only [ois,Bool.and_eq_true] at h;simpa using h.1
 | d::ds,i+1,h=>by
  simp only [ois,Bool.and_eq_true] at h
  simpa using z6h (i:=i) h.2
noncomputable def ltI (ds:List D) (i j:Nat):Bool:=ltT (ds.getD i (.int 0)) (ds.getD j (.int 0))
noncomputable def zi0 (d:D):List D->List D
 | []=>[d]
 | e::r=>if ltT e d=true then e::zi0 d r else d::e::r
noncomputable def z31:List D->List D
 | []=>[]
 | d::r=>zi0 d (z31 r)
theorem z6i (d:D):∀l:List D,(zi0 d l).Perm (d::l)
 | []=>.refl _
 | e::r=>by
  unfold zi0
  split
  . exact ((z6i d r).cons e).trans (.swap d e r)
  . exact .refl _
theorem z0p:∀l:List D,(z31 l).Perm l
 | []=>.refl _
 | d::r=>(z6i d (z31 r)).trans ((z0p r).cons d)
theorem ois_mem:∀{ds:List D},ois ds=true↔∀d∈ds,d.oi=true
 | []=>by simp [ois]
 | d::ds=>by simp [ois,ois_mem (ds:=ds)]
def Srt (l:List D):Prop:=l.Pairwise fun a b=>ltT b a=false
theorem zbu {d:D}:∀{l:List D},d.oi=true->ois l=true->Srt l->Srt (zi0 d l)
 | [],_,_,_=>by simp [zi0,Srt]
 | e::r,hd,hl,hs=>by
  simp only [ois,Bool.and_eq_true] at hl
  obtain ⟨h1,h2⟩:=List.pairwise_cons.mp hs
  unfold zi0
  split
  . rename_i hlt
    refine List.pairwise_cons.mpr ⟨fun x hx=>?_,zbu hd hl.2 h2⟩
    rcases List.mem_cons.mp ((z6i d r).mem_iff.mp hx) with rfl | hx
    . cases hq:ltT x e with
      | false=>rfl
      | true=>
       have:=zhz hl.1 hd hl.1 hlt hq
       rw [zfd hl.1] at this;cases this
    . exact h1 x hx
  . rename_i hlt
    have hlt:ltT e d=false:=by simpa using hlt
    refine List.pairwise_cons.mpr ⟨fun x hx=>?_,hs⟩
    rcases List.mem_cons.mp hx with rfl | hx
    . exact hlt
    . have hxo:=(ois_mem.mp hl.2) x hx
      cases hq:ltT x d with
      | false=>rfl
      | true=>
       have h3:=h1 x hx
       cases hy:ltT d e with
       | true=>rw [zhz hxo hd hl.1 hq hy] at h3;cases h3
       | false=>
        rw [zbt hd hl.1 hy hlt] at hq
        rw [hq] at h3;cases h3
theorem z4x {l l':List D} (p:l.Perm l') (h:ois l'=true):ois l=true:=ois_mem.mpr fun d hd=>(ois_mem.mp h) d (p.mem_iff.mp hd)
theorem z3o:∀{l:List D},ois l=true->Srt (z31 l)
 | [],_=>.nil
 | d::r,h=>by
  simp only [ois,Bool.and_eq_true] at h
  exact zbu h.1 (z4x (z0p r) h.2) (z3o h.2)
theorem z60:∀{l l':List D},ois l=true->l.Perm l'->Srt l->Srt l'->l=l'
 | [],l',_,p,_,_=>by rw [p.nil_eq]
 | a::r,[],_,p,_,_=>by have:=p.length_eq;simp at this
 | a::r,b::r',h,p,s,s'=>by
  have h':=h
  simp only [ois,Bool.and_eq_true] at h
  obtain ⟨h1,h2⟩:=List.pairwise_cons.mp s
  obtain ⟨h3,h4⟩:=List.pairwise_cons.mp s'
  have hb:b∈a::r:=p.mem_iff.mpr List.mem_cons_self
  have ha:a∈b::r':=p.mem_iff.mp List.mem_cons_self
  have hbo:=(ois_mem.mp h') b hb
  have e:a=b:=by
   rcases List.mem_cons.mp hb with z | z
   . exact z.symm
   . rcases List.mem_cons.mp ha with w | w
     . exact w
     . exact zbt h.1 hbo (h3 a w) (h1 b z)
  subst e
  rw [z60 h.2 (List.perm_cons a |>.mp p) h2 h4]
end L2
namespace L2
open PySem PySem.Spec PyProof.Rows
open PySem.W (KasT kas_sort kas_rev kas_asc kas_desc kas_tail3 kas_descPart kas_count kas_place kas_bin)
def InP {α:Type} (n:Nat) (P:α->Prop):KasT α->Prop
 | .ret a=>P a
 | .ask i j k=>i<n/\j<n/\∀b,InP n P (k b)
theorem InP.bind {α β:Type} {n:Nat} {P:α->Prop} {P':β->Prop} {f:α->KasT β}:∀{t:KasT α},InP n P t->(∀a,P a->InP n P' (f a))->InP n P' (t.bind f)
 | .ret a,h,hf=>hf a h
 | .ask i j k,h,hf=>⟨h.1,h.2.1,fun b=>InP.bind (h.2.2 b) hf⟩
def RcLt (A:Around) (s:Shared) (x y:Value) (b:Bool):Prop:=∀(prog:Program) (w:World) (E:Value->Shared->Prop) (Q:Value->Shared->Prop),Q (.bool b) s->wpAny (model prog w) A (richCompare .Lt x y) Q E s
inductive LexR (A:Around) (s:Shared):List Value->List Value->Bool->Prop
 | nn:LexR A s [] [] false
 | nc {w ws}:LexR A s [] (w::ws) true
 | cn {v vs}:LexR A s (v::vs) [] false
 | eq {v w vs ws b} (h:SeqAt.EqAt A s v w true) (r:LexR A s vs ws b):LexR A s (v::vs) (w::ws) b
 | lt {v w vs ws b} (h:SeqAt.EqAt A s v w false) (r:RcLt A s v w b):LexR A s (v::vs) (w::ws) b
section
open PySem.SeqAt
open PySem.AutoSeq1 (wpAny_loadPart')
open PySem.MeetsSeq PySem.MeetsSeq2 PySem.MeetsSeq3
theorem zd6 (l b:Addr) (items items2:Array Value) (n n2:Nat) (dd dd2:Option Addr) (sl sl2:Array (Option Value)) (r:Bool) :
  Meets (Builtin.«tuple.__lt__» ⟨[.ref l,.ref b],[]⟩)
   (fun A R s=>s.heap.get? l=some { cls:=.type "tuple",dict:=dd,data:=.seq items n,slots:=sl }/\s.heap.get? b=some { cls:=.type "tuple",dict:=dd2,data:=.seq items2 n2,slots:=sl2 } /\
    LexR A.in1 s items.toList items2.toList r/\R (.ok (.ret (.bool r))) s):=
 .of_wp fun prog w A R s h=>by
  obtain ⟨hp,g,d,tk,os⟩:=s;obtain ⟨hl,hb,hL,h⟩:=h
  have f2:=AutoSeq1.sub_tuple_tuple
  wp_walk using wpAny_loadPart' hl,wpAny_loadPart' hb,wpAny_forIn_list _ (fun rest b s'=>b.1=none/\s'=⟨hp,g,d,tk,os⟩/\∃(vs ws:List Value) (r':Bool),rest=vs.zip ws /\
   LexR A.in1 ⟨hp,g,d,tk,os⟩ vs ws r'/\vs.length+items2.size=ws.length+items.size/\R (.ok (.ret (.bool r'))) ⟨hp,g,d,tk,os⟩) _
  case turn=>
   rintro ⟨y,x⟩ rest b s' ⟨hb',rfl,vs,ws,r',hz,hL',hlen,hR⟩
   cases hL' with
   | nn=>rw [List.zip_nil_left] at hz;cases hz
   | nc=>rw [List.zip_nil_left] at hz;cases hz
   | cn=>rw [List.zip_nil_right] at hz;cases hz
   | eq he hr=>
    rw [List.zip_cons_cons] at hz
    injection hz with hyx hrest
    injection hyx with hy hx
    subst hy hx
    simp only [List.length_cons] at hlen
    refine wpAny_bind (he prog w _ _ ?_)
    wp_walk
    exact ⟨rfl,rfl,_,_,_,hrest,hr,by omega,hR⟩
   | lt he hr=>
    rw [List.zip_cons_cons] at hz
    injection hz with hyx hrest
    injection hyx with hy hx
    subst hy hx
    refine wpAny_bind (he prog w _ _ ?_)
    have hri:=hr prog w
    wp_walk using hri
    exact ⟨_,rfl,by simpa using hR⟩
  case fin=>
   rintro ⟨b1,b2⟩ s' ⟨hb',rfl,vs,ws,r',hz,hL',hlen,hR⟩
   simp only at hb'
   subst hb'
   have hv:r'=decide (items.size<items2.size):=by
    cases hL' with
    | nn=>simp only [List.length_nil] at hlen;exact (decide_eq_false (by omega)).symm
    | nc=>simp only [List.length_nil,List.length_cons] at hlen;exact (decide_eq_true (by omega)).symm
    | cn=>simp only [List.length_nil,List.length_cons] at hlen;exact (decide_eq_false (by omega)).symm
    | eq _ _=>rw [List.zip_cons_cons] at hz;cases hz
    | lt _ _=>rw [List.zip_cons_cons] at hz;cases hz
   rw [hv] at hR
   wp_walk
   exact ⟨_,rfl,by simpa [Builtin.Tuple.tupleCompareSizes] using hR⟩
  case h=>exact ⟨rfl,rfl,items.toList,items2.toList,r,rfl,hL,by simp;omega,h⟩
theorem RcLt.tuples {A:Around} {s:Shared} {l b:Addr} {items items2:Array Value} {r:Bool} (hl:s.heap.IsTuple l items) (hb:s.heap.IsTuple b items2) (hL:LexR A.in1 s items.toList items2.toList r) (hu:A.units<cLine):RcLt A s (.ref l) (.ref b) r:=fun prog w E Q h=>by
 obtain ⟨⟨cls,dd,data,sl⟩,ho,hc,n,hd⟩:=id hl
 obtain ⟨⟨cls2,dd2,data2,sl2⟩,ho2,hc2,n2,hd2⟩:=id hb
 simp only at hc hd hc2 hd2
 subst hc hd hc2 hd2
 exact richCompare_meets_room (op:=.Lt) ⟨_,ho,rfl⟩ ⟨_,ho2,rfl⟩ PySem.F.slot_tuple_lt PySem.F.entry_tuple_lt (PySem.F.args_tuple_lt_2 _ _) (zd6 l b items items2 n n2 dd dd2 sl sl2 r)
  ⟨ho,ho2,hL,show Value.bool r≠Value.notImplemented/\Q (.bool r) s from ⟨(fun x=>nomatch x),h⟩⟩ hu
end
mutual
theorem z5f:∀{d:D},d.oi=true->d.pl=true
 | .int _,_=>rfl
 | .tup ds,h=>by simp only [D.pl];exact zjo (by simpa only [D.oi] using h)
 | .non,p=>by simp [D.oi] at p
 | .bl _,p=>by simp [D.oi] at p
 | .str _,p=>by simp [D.oi] at p
 | .lst _,p=>by simp [D.oi] at p
 | .dk _ _,p=>by simp [D.oi] at p
 | .dt _ _,p=>by simp [D.oi] at p
 | .dn _ _,p=>by simp [D.oi] at p
 | .scr _,p=>by simp [D.oi] at p
 | .exc _,p=>by simp [D.oi] at p
theorem zjo:∀{ds:List D},ois ds=true->pls ds=true
 | [],_=>rfl
 | d::ds,h=>by
  simp only [ois,Bool.and_eq_true] at h
  simp only [pls,z5f h.1,zjo h.2,Bool.and_self]
end
section
variable {X:Cx} {pins:List (Addr×Obj)} {σ:St} {H:Hp} {s:Shared}
theorem zjp (I:Inv X pins σ H s) {A:Around} {n:Nat} (hu:A.units+n<cLine) (lt:∀{d e:D} {x y:V} {u v:Value} {b:Bool},d.oi=true->e.oi=true->d.dep<=n->RD X.K H d x->RD X.K H e y->RelV x u->RelV y v->z2n d e=some b->RcLt A s u v b) :
  ∀{ds es:List D} {xs ys:List V} {us vs:List Value} {b:Bool},ois ds=true->ois es=true->z3v ds<=n->RDs X.K H ds xs->RDs X.K H es ys->Vals xs us->Vals ys vs->z30 ds es=some b->LexR A s us vs b
 | [],[],_,_,_,_,b,_,_,_,r1,r2,q1,q2,h=>by
  simp only [RDs] at r1 r2;subst r1;subst r2
  cases q1;cases q2
  simp only [z30,Option.some.injEq] at h;subst h
  exact .nn
 | [],e::es,_,_,_,_,b,_,_,_,r1,r2,q1,q2,h=>by
  simp only [RDs] at r1 r2;subst r1
  obtain ⟨y,ys,rfl,_,_⟩:=r2
  cases q1;cases q2
  simp only [z30,Option.some.injEq] at h;subst h
  exact .nc
 | d::ds,[],_,_,_,_,b,_,_,_,r1,r2,q1,q2,h=>by
  simp only [RDs] at r1 r2;subst r2
  obtain ⟨y,ys,rfl,_,_⟩:=r1
  cases q1;cases q2
  simp only [z30,Option.some.injEq] at h;subst h
  exact .cn
 | d::ds,e::es,_,_,_,_,b,p1,p2,hd,r1,r2,q1,q2,h=>by
  simp only [RDs] at r1 r2
  obtain ⟨x,xs,rfl,rx,rxs⟩:=r1
  obtain ⟨y,ys,rfl,ry,rys⟩:=r2
  simp only [ois,Bool.and_eq_true] at p1 p2
  simp only [z3v] at hd
  cases q1 with
  | cons a1 a2=>
   cases q2 with
   | cons b1 b2=>
    have eq:=z9d (A:=A) I n (z5f p1.1) (z5f p2.1) (by omega) hu rx ry a1 b1
    simp only [z30] at h
    split at h
    . rename_i w
      rw [w] at eq
      exact .eq eq (zjp I hu lt p1.2 p2.2 (by omega) rxs rys a2 b2 h)
    . rename_i w
      rw [show eqD d e=false by simpa using w] at eq
      exact .lt eq (lt p1.1 p2.1 (by omega) rx ry a1 b1 h)
theorem z9j {d e:D} {b:Bool} (h:z2n d e=some b):(∃i j,d=.int i/\e=.int j/\b=decide (i<j))\/∃ds es,d=.tup ds/\e=.tup es/\z30 ds es=some b:=by
 cases d with
 | int i=>cases e with
  | int j=>exact .inl ⟨_,_,rfl,rfl,(Option.some.inj h).symm⟩
  | _=>exact nomatch h
 | tup ds=>cases e with
  | tup es=>exact .inr ⟨_,_,rfl,rfl,h⟩
  | _=>exact nomatch h
 | _=>exact nomatch h
theorem zpp (I:Inv X pins σ H s):∀(n:Nat) {A:Around} {d e:D} {x y:V} {u v:Value} {b:Bool},A.units+n<cLine->d.oi=true->e.oi=true->d.dep<=n->RD X.K H d x->RD X.K H e y->RelV x u->RelV y v->z2n d e=some b->RcLt A s u v b:=by
 intro n
 induction n with
 | zero=>
  intro A d e x y u v b hu p1 p2 hd rx ry ru rv h
  rcases z9j h with ⟨i,j,rfl,rfl,rfl⟩ | ⟨ds,es,rfl,rfl,h⟩
  . cases rx.int;cases ry.int
    obtain ⟨t,rfl⟩:=ru;obtain ⟨t',rfl⟩:=rv
    exact fun prog w E Q q=>HT.rcLt_int A s _ _ _ _ prog w E Q q
  . simp only [D.dep] at hd;omega
 | succ n ih=>
  intro A d e x y u v b hu p1 p2 hd rx ry ru rv h
  rcases z9j h with ⟨i,j,rfl,rfl,rfl⟩ | ⟨ds,es,rfl,rfl,h⟩
  . cases rx.int;cases ry.int
    obtain ⟨t,rfl⟩:=ru;obtain ⟨t',rfl⟩:=rv
    exact fun prog w E Q q=>HT.rcLt_int A s _ _ _ _ prog w E Q q
  . obtain ⟨a,xs,rfl,ha,ra⟩:=rx.tup
    obtain ⟨c,ys,rfl,hc,rc⟩:=ry.tup
    cases ru;cases rv
    obtain ⟨its,r1,t1⟩:=I.tupA ha
    obtain ⟨its2,r2,t2⟩:=I.tupA hc
    simp only [D.dep] at hd
    simp only [D.oi] at p1 p2
    have hu1:A.in1.units+n<cLine:=by show A.units+1+n<cLine;omega
    exact RcLt.tuples t1 t2 (zjp I hu1 (fun {d e x y u v b} q1 q2 q3 q4 q5 q6 q7 q8=>ih hu1 q1 q2 q3 q4 q5 q6 q7 q8) p1 p2 (by omega) ra rc r1 r2 h) (by omega)
end
end L2
namespace L2
open PySem PySem.Spec PyProof.Rows
section
variable {prog:Program} {w:World} {A:Around} {E:Value->Shared->Prop} {s:Shared}
theorem z7m {a:Addr} {vs:List Value} {n:Nat} {P:PySem.Fin->Shared->Prop} (ho:s.heap.get? a=some (seqObj "list" vs.toArray n)) (hs:vs.length<2)
  (h:P (.done (.ret .none)) { s with heap:=sortedHeap s.heap a vs ((pairsOf vs).map (·.2)) }):wpAny (model prog w) A (Builtin.«list.sort» ⟨[.ref a],[]⟩) P E s:=by
 rw [list_sort_plain]
 have ha:a<s.heap.objs.size:=Heap.lt_size ho
 refine wpAny_bind (listItems_at ho rfl ?_)
 refine wpAny_bind (listUpdate_at ho rfl ?_)
 obtain ⟨e1,ho1⟩:∃e1,(s.heap.update a (Obj.mapSeq fun _=>#[])).get? a=some (seqObj "list" #[] e1):=⟨_,get?_update_seq ho (fun _=>#[])⟩
 refine wpAny_bind (seqEpoch_at ho1 rfl ?_)
 refine wpAny_bind (wpAny_newTuple ?_)
 refine wpAny_bind (wpAny_newList ?_)
 refine wpAny_holding ?_
 have ho6:(((s.heap.update a (Obj.mapSeq fun _=>#[])).push (seqObj "tuple" vs.toArray 0)).push (seqObj "list" #[] 0)).get? a=some (seqObj "list" #[] e1):=by
  rw [Heap.get?_push_ne _ _ _ (by rw [size_push',Heap.size_update];exact Nat.ne_of_lt (Nat.lt_succ_of_lt ha)),Heap.get?_push_ne _ _ _ (by rw [Heap.size_update];exact Nat.ne_of_lt ha)]
  exact ho1
 show wpAny (model prog w) A _ P E { s with heap:=((s.heap.update a (Obj.mapSeq fun _=>#[])).push (seqObj "tuple" vs.toArray 0)).push (seqObj "list" #[] 0) }
 dsimp only
 have hsz:vs.toArray.size=vs.length:=by simp
 have h2:vs.toArray.size<2:=by rw [hsz];exact hs
 rw [if_pos h2,if_pos h2]
 refine wpAny_bind (wpAny_pure ?_)
 rw [StateT.run_pure]
 refine wpAny_bind (wpAny_pure ?_)
 dsimp only
 refine wpAny_bind (seqEpoch_at ho6 rfl ?_)
 refine wpAny_bind (listUpdate_at ho6 rfl ?_ (hsz2:=by rw [Array.size_map];show (pairsOf vs).size<=_;rw [pairsOf_size,sizeLine_eq];omega))
 simp only [bne_self_eq_false,Bool.false_eq_true,if_false]
 exact wpAny_pure h
theorem z9k {l:Addr} {vs:List Value} {Q:Value->Shared->Prop} (hl:s.heap.IsList l vs.toArray) (hs:vs.length<2)
  (h:Q (.ref (s.heap.objs.size+1)) { s with heap:=sortedAll s.heap vs ((pairsOf vs).map (·.2)) }):wpAny (model prog w) A (call (.builtin "sorted") [.ref l]) Q E s:=by
 refine Calls.call_function_entry kind_sorted plain_sorted entry_sorted (args_sorted1 _) ?_
 unfold Builtin.«sorted»
 refine wpAny_bind (m:=checkCount "sorted" 1 1 _) (wpAny_pure ?_)
 refine wpAny_bind (collect_list hl ?_ (by rw [sizeLine_eq];omega))
 refine wpAny_bind (wpAny_newList ?_ (by rw [sizeLine_eq];omega))
 have hsz:((s.heap.push (seqObj "list" #[] 0)).update s.heap.objs.size (Obj.mapSeq (·++vs.toArray))).objs.size=s.heap.objs.size+1:=by
  rw [Heap.size_update,size_push']
 have hoL:(((s.heap.push (seqObj "list" #[] 0)).update s.heap.objs.size (Obj.mapSeq (·++vs.toArray))).push (seqObj "list" vs.toArray 0)).get? (s.heap.objs.size+1)=some (seqObj "list" vs.toArray 0):=by
  rw [<-hsz];exact Heap.get?_push_size _ rfl
 show wpAny _ _ _ _ _ { s with heap:=((s.heap.push (seqObj "list" #[] 0)).update s.heap.objs.size (Obj.mapSeq (·++vs.toArray))).push (seqObj "list" vs.toArray 0) }
 rw [hsz]
 refine wpAny_bind (wpAny_holding (wpAny_call_entry slot_list_sort ⟨_,hoL,rfl⟩ entry_list_sort (z7m hoL hs ⟨_,rfl,?_⟩) (args_list_sort _)))
 exact wpAny_pure ⟨_,rfl,h⟩
end
noncomputable def isI:D->Bool
 | .int _=>true
 | _=>false
noncomputable def zh7:D->Bool
 | .tup (.int _::_)=>true
 | _=>false
noncomputable def zh8:D->Bool
 | .tup (.tup _::_)=>true
 | _=>false
theorem RDs.pick {K:Frag} {H:Hp} {ds:List D} {ys:List V} (r:RDs K H ds ys):∀{is:List Nat},(∀i∈is,i<ys.length)->RDs K H (is.map fun i=>ds.getD i (.int 0)) (is.map fun i=>ys.getD i .non)
 | [],_=>by simp [RDs]
 | i::is,h=>by
  have hi:=h i List.mem_cons_self
  have hy:ys[i]?=some ys[i]:=by simp [hi]
  obtain ⟨d,h1,h2⟩:=r.get hy
  simp only [List.map_cons]
  refine .cons ?_ (RDs.pick r fun j hj=>h j (List.mem_cons_of_mem _ hj))
  rw [List.getD_eq_getElem?_getD,List.getD_eq_getElem?_getD,h1,hy]
  exact h2
section
variable {X:Cx} {pins:List (Addr×Obj)} {σ:St} {H:Hp} {s:Shared}
theorem Vals.pick {ys:List V} {its:List Value} (r:Vals ys its):∀{is:List Nat},(∀i∈is,i<ys.length)->Vals (is.map fun i=>ys.getD i .non) (is.map fun i=>its.getD i Value.none)
 | [],_=>.nil
 | i::is,h=>by
  have hi:=h i List.mem_cons_self
  have hy:ys[i]?=some ys[i]:=by simp [hi]
  obtain ⟨u,h1,h2⟩:=r.get hy
  simp only [List.map_cons]
  refine .cons ?_ (Vals.pick r fun j hj=>h j (List.mem_cons_of_mem _ hj))
  rw [List.getD_eq_getElem?_getD,List.getD_eq_getElem?_getD,h1,hy]
  exact h2
theorem zau (I:Inv X pins σ H s) {A:Around} (hu:A.units+20<cLine) {b:Bool} {fin:Bool} {Q:Bool->Shared->Prop} {r:Bool} (q:Q r s) :
  ∀{ds es:List D} {xs ys:List V} {us vs:List Value} (i:Nat),(b=true->i=0->(∃k r,ds=.int k::r)/\∃k r,es=.int k::r)->ois ds=true->ois es=true->z3v ds<=20->RDs X.K H ds xs->RDs X.K H es ys->Vals xs us->Vals ys vs->z30 ds es=some r ->
   fin=decide (us.length<vs.length)->PySem.W.KatLex X.prog X.w A b fin Q (us.zip vs) i s
 | [],[],_,_,_,_,i,_,_,_,_,r1,r2,q1,q2,h,hf=>by
  simp only [RDs] at r1 r2;subst r1;subst r2
  cases q1;cases q2
  simp only [z30,Option.some.injEq] at h;subst h
  simp at hf;subst hf
  exact q
 | [],e::es,_,_,_,_,i,_,_,_,_,r1,r2,q1,q2,h,hf=>by
  simp only [RDs] at r1 r2;subst r1
  obtain ⟨y,ys,rfl,_,_⟩:=r2
  cases q1;cases q2
  simp only [z30,Option.some.injEq] at h;subst h
  simp at hf;subst hf
  exact q
 | d::ds,[],_,_,_,_,i,_,_,_,_,r1,r2,q1,q2,h,hf=>by
  simp only [RDs] at r1 r2;subst r2
  obtain ⟨y,ys,rfl,_,_⟩:=r1
  cases q1;cases q2
  simp only [z30,Option.some.injEq] at h;subst h
  simp at hf;subst hf
  exact q
 | d::ds,e::es,_,_,_,_,i,hb,p1,p2,hd,r1,r2,q1,q2,h,hf=>by
  simp only [RDs] at r1 r2
  obtain ⟨x,xs,rfl,rx,rxs⟩:=r1
  obtain ⟨y,ys,rfl,ry,rys⟩:=r2
  simp only [ois,Bool.and_eq_true] at p1 p2
  simp only [z3v] at hd
  cases q1 with
  | cons a1 a2=>
   cases q2 with
   | cons b1 b2=>
    have eq:=z9d (A:=A) I 20 (z5f p1.1) (z5f p2.1) (by omega) hu rx ry a1 b1
    rw [List.zip_cons_cons]
    refine PySem.W.kat_cons (eq X.prog X.w _ _ ?_)
    simp only [z30] at h
    simp only [List.length_cons,Nat.add_lt_add_iff_right] at hf
    split at h
    . rename_i w
      rw [w]
      exact PySem.W.kat_yes (zau I hu q (i+1) (fun _ z=>by omega) p1.2 p2.2 (by omega) rxs rys a2 b2 h hf)
    . rename_i w
      rw [show eqD d e=false by simpa using w]
      refine PySem.W.kat_no ?_
      by_cases hbi:(b&&i==0)=true
      . rw [hbi]
        simp only [Bool.and_eq_true,beq_iff_eq] at hbi
        obtain ⟨⟨k1,s1,e1⟩,k2,s2,e2⟩:=hb hbi.1 hbi.2
        cases e1;cases e2
        cases rx.int;cases ry.int
        obtain ⟨t,rfl⟩:=a1;obtain ⟨t',rfl⟩:=b1
        refine oneLt_int ?_
        simp only [z2n,Option.some.injEq] at h
        rw [h];exact q
      . rw [show (b&&i==0)=false by simpa using hbi]
        exact PySem.W.kat_one _ _ (zpp I 20 hu p1.1 p2.1 (by omega) rx ry a1 b1 h X.prog X.w _ _ q)
theorem zff {M:Model} (I:Inv X pins σ H s) (T:Bool):∀{ds:List D} {xs:List V} {us:List Value},(∀d∈ds,(if T=true then zh8 d else zh7 d)=true)->RDs X.K H ds xs->Vals xs us ->
  ∃fs:List Value,PySem.W.KatTups s.heap us fs/\fs.length=ds.length/\∀v∈fs,PySem.W.Looks M s.heap (typeOf v) (.type (if T=true then "tuple" else "int"))
 | [],_,_,_,r,q=>by
  simp only [RDs] at r;subst r;cases q
  exact ⟨[],trivial,rfl,fun v hv=>by cases hv⟩
 | d::ds,_,_,h,r,q=>by
  simp only [RDs] at r
  obtain ⟨x,xs,rfl,rx,rxs⟩:=r
  cases q with
  | cons q1 q2=>
   obtain ⟨fs,h1,h2,h3⟩:=zff (M:=M) I T (fun d hd=>h d (List.mem_cons_of_mem _ hd)) rxs q2
   have hd:=h d List.mem_cons_self
   cases T with
   | false=>
    rw [if_neg Bool.false_ne_true] at hd
    cases d<;>simp only [zh7] at hd<;>first | cases hd | skip
    rename_i es
    cases es with
    | nil=>simp at hd
    | cons e es=>
     cases e<;>simp at hd
     obtain ⟨a,ys,rfl,ha,ra⟩:=rx.tup
     cases q1
     obtain ⟨its,rv,t⟩:=I.tupA ha
     simp only [RDs] at ra
     obtain ⟨y,ys,rfl,ry,rys⟩:=ra
     cases ry.int
     cases rv with
     | cons v1 v2=>
      obtain ⟨tk,rfl⟩:=v1
      obtain ⟨o,ho,hc,n,hdt⟩:=t
      refine ⟨_::fs,PySem.W.KatTups.cons ho hc hdt rfl h1,by simp [h2],fun v hv=>?_⟩
      rcases List.mem_cons.mp hv with rfl | hv
      . exact .now
      . exact h3 v hv
   | true=>
    rw [if_pos rfl] at hd
    cases d<;>simp only [zh8] at hd<;>first | cases hd | skip
    rename_i es
    cases es with
    | nil=>simp at hd
    | cons e es=>
     cases e<;>simp at hd
     obtain ⟨a,ys,rfl,ha,ra⟩:=rx.tup
     cases q1
     obtain ⟨its,rv,t⟩:=I.tupA ha
     simp only [RDs] at ra
     obtain ⟨y,ys,rfl,ry,rys⟩:=ra
     obtain ⟨a2,ys2,rfl,ha2,ra2⟩:=ry.tup
     cases rv with
     | cons v1 v2=>
      cases v1
      obtain ⟨its2,rv2,o2,ho2,hc2,_⟩:=I.tupA ha2
      obtain ⟨o,ho,hc,n,hdt⟩:=t
      refine ⟨_::fs,PySem.W.KatTups.cons ho hc hdt rfl h1,by simp [h2],fun v hv=>?_⟩
      rcases List.mem_cons.mp hv with rfl | hv
      . have lk:PySem.W.Looks M s.heap (typeOf (.ref a2)) o2.cls:=(PySem.W.Looks.ld ho2).andThen .now
        rw [hc2] at lk
        exact lk
      . exact h3 v hv
theorem Vals.getD {ys:List V} {its:List Value} (r:Vals ys its) {i:Nat} (h:i<ys.length):RelV (ys.getD i .non) (its.getD i Value.none):=by
 have hy:ys[i]?=some ys[i]:=by simp [h]
 obtain ⟨u,h1,h2⟩:=r.get hy
 rw [List.getD_eq_getElem?_getD,List.getD_eq_getElem?_getD,h1,hy]
 exact h2
theorem RDs.getD {ds:List D} {ys:List V} (r:RDs X.K H ds ys) {i:Nat} (h:i<ys.length):RD X.K H (ds.getD i (.int 0)) (ys.getD i .non):=by
 have hy:ys[i]?=some ys[i]:=by simp [h]
 obtain ⟨d,h1,h2⟩:=r.get hy
 rw [List.getD_eq_getElem?_getD,List.getD_eq_getElem?_getD,h1,hy]
 exact h2
theorem z11 {α:Type} {l:List α} {i:Nat} {d:α} (h:i<l.length):l.getD i d∈l:=by
 rw [List.getD_eq_getElem?_getD,List.getElem?_eq_getElem h]
 exact List.getElem_mem h
end
section
variable {X:Cx} {K:Frag}
noncomputable def znq:D->D->Option D
 | .non,.non=>some (.bl true)
 | .scr _,.non=>none
 | _,.non=>some (.bl false)
 | _,_=>none
theorem zfg {H:Hp} {d:D} {x:V} (r:RD K H d x) (h:d≠.non):x≠.non:=by
 intro e;subst e
 cases d<;>simp only [RD] at r<;>first | exact h rfl | (cases r;done) | (obtain ⟨a,z,_⟩:=r;cases z;done) | (obtain ⟨a,xs,z,_⟩:=r;cases z;done) | (obtain ⟨a,qs,xs,o,z,_⟩:=r;cases z)
theorem zjq:OpD K false znq (fun x y H Q=>y=.non/\Q (.bl (decide (x=.non))) H):=by
 intro H0 H x y d e z Q s rx ry ho k
 unfold znq at ho
 split at ho<;>cases ho
 . cases rx.non;exact ⟨ry.non,k _ H (.pure s (.mkBl _))⟩
 . rename_i hn hs
   refine ⟨ry.non,?_⟩
   rw [decide_eq_false (zfg rx hn)]
   exact k _ H (.pure s (.mkBl _))
end
section
variable {X:Cx} {EX:XW} {fr:Bool} {pins:List (Addr×Obj)} {σ:St} {H1 H2:Hp} {s1 s2:Shared} {C a T:Addr} {B h5:Heap} {a0:Value}
abbrev HD:=Ex->DS->SR
end
theorem SK.ex {K:Frag} {EX EX':XW} {fr:Bool} {Hc Hb:Hp} {De:Ends} {r:SR} (h:SK K EX fr Hc Hb De r) (he:∀x,EX.at x->EX'.at x):SK K EX' fr Hc Hb De r:=by
 cases r with
 | er x=>exact he x h
 | nx ρ=>exact h
 | bk ρ=>exact h
 | ct ρ=>exact h
 | rt d=>exact h
 | st=>exact h
noncomputable def SR.noE:SR->SR
 | .er _=>.st
 | r=>r
theorem SK.noE {K:Frag} {EX:XW} {fr:Bool} {Hc Hb:Hp} {De:Ends} {r:SR} (h:SK K EX fr Hc Hb De r.noE):SK K F0 fr Hc Hb De r:=by
 cases r with
 | nx ρ=>exact h
 | bk ρ=>exact h
 | ct ρ=>exact h
 | rt d=>exact h
 | er x=>exact h.elim
 | st=>exact h.elim
end L2
namespace L2
open PySem PySem.Spec PyProof.Rows
open PySem.Calls
end L2
namespace L2
open PySem PySem.Spec PyProof.Rows
noncomputable def SR.thn (r:SR) (g:DS->SR):SR:=match r with
 | .nx ρ'=>g ρ'
 | r=>r
noncomputable def SR.out (fr:Bool) (r:SR):R D:=match r with
 | .rt d=>.ok d
 | .nx _=>if fr=true then .st else .ok .non
 | .er x=>.er x
 | _=>.st
theorem zjr (g1 g2:DS->SR) (ρ:DS):z12 g1 g2 ρ=(g1 ρ).thn g2:=rfl
theorem zjs (ρ:DS) (g:DS->SR):(SR.nx ρ).thn g=g ρ:=rfl
theorem zpq (d:D) (g:DS->SR):(SR.rt d).thn g=.rt d:=rfl
theorem zpr (x:Ex) (g:DS->SR):(SR.er x).thn g=.er x:=rfl
theorem zps (ρ:DS) (g:DS->SR):(SR.bk ρ).thn g=.bk ρ:=rfl
theorem zpt (ρ:DS) (g:DS->SR):(SR.ct ρ).thn g=.ct ρ:=rfl
theorem zpu (g:DS->SR):(SR.st).thn g=.st:=rfl
theorem zlt (c:Prop) [Decidable c] (a b:SR) (g:DS->SR):(if c then a else b).thn g=if c then a.thn g else b.thn g:=by split<;>rfl
theorem z9l (fr:Bool) (n k:Nat) (g:DS->SR) (ds:List D):mOf fr n k g ds=if ds.length=n then (g (ds.map .im++List.replicate k .em)).out fr else .st:=rfl
theorem zpv (fr:Bool) (d:D):(SR.rt d).out fr=.ok d:=rfl
theorem zpw (ρ:DS):(SR.nx ρ).out false=.ok .non:=rfl
theorem zpx (fr:Bool) (x:Ex):(SR.er x).out fr=.er x:=rfl
theorem zpy (fr:Bool):(SR.st).out fr=.st:=rfl
theorem zlu (fr:Bool) (c:Prop) [Decidable c] (a b:SR):(if c then a else b).out fr=if c then a.out fr else b.out fr:=by split<;>rfl
theorem zjt (m:List Bool) (f:DE->R D) (ρ:DS):z4s m f ρ=(f (vis m ρ)).toS fun d=>.rt d:=rfl
theorem zfh (fr:Bool) (i:Nat) (m:List Bool) (f:DE->R D) (ρ:DS):z2m fr i m f ρ=(f (vis m ρ)).toS fun d=>.nx (zhs fr i d (z59 (keeps fr d) m ρ)):=rfl
theorem zut (t:DE->R Bool) (g1 g2:DS->SR) (ρ:DS):sIf t g1 g2 ρ=(t (see ρ)).toS fun b=>if b=true then g1 ρ else g2 ρ:=rfl
theorem zju {α:Type} (a:α) (k:α->SR):R.toS (.ok a) k=k a:=rfl
theorem zpz {α:Type} (x:Ex) (k:α->SR):R.toS (.er x:R α) k=.er x:=rfl
theorem zq0 {α:Type} (k:α->SR):R.toS (.st:R α) k=.st:=rfl
theorem zlv {α:Type} (c:Prop) [Decidable c] (a b:R α) (k:α->SR):R.toS (if c then a else b) k=if c then R.toS a k else R.toS b k:=by split<;>rfl
theorem zlw {α β:Type} (x:Ex) (k:α->R β):R.bind (.er x:R α) k=.er x:=rfl
theorem zbv {α:Type} (a:α):(R.ok a).noE=.ok a:=rfl
theorem zuu (m:List Bool):vis m []=[]:=by cases m<;>rfl
theorem zuv (s:Sl) (r:DS):vis [] (s::r)=s.see false::vis [] r:=rfl
theorem zuw (b:Bool) (m:List Bool) (s:Sl) (r:DS):vis (b::m) (s::r)=s.see b::vis m r:=rfl
theorem zux:see []=[]:=rfl
theorem zuy (s:Sl) (r:DS):see (s::r)=s.see true::see r:=rfl
theorem zq1 (b:Bool):Sl.see b .em=none:=rfl
theorem zq2 (b:Bool) (d:D):Sl.see b (.im d)=some d:=rfl
theorem zlx (d:D):Sl.see true (.ow d)=some d:=rfl
theorem zly (d:D):Sl.see false (.ow d)=none:=rfl
theorem zq3 (m:List Bool) (ρ:DS):z59 true m ρ=ρ:=rfl
theorem zi1 (fr:Bool) (i:Int):keeps fr (.int i)=true:=by cases fr<;>rfl
theorem zlz (fr:Bool) (i:Bool):keeps fr (.bl i)=true:=by cases fr<;>rfl
theorem zi2 (fr:Bool):keeps fr .non=true:=by cases fr<;>rfl
theorem zi3 (fr:Bool) (x:PySem.Str):keeps fr (.str x)=true:=by cases fr<;>rfl
theorem zi4 (fr:Bool) (ds:List D):keeps fr (.tup ds)=z3l ds:=by cases fr<;>simp only [keeps,D.noL,D.shal,if_true,Bool.false_eq_true,if_false]
theorem zbw (ds:List D):keeps true (.lst ds)=z3l ds:=rfl
theorem zq4:z3l []=true:=by simp only [z3l]
theorem zq5 (d:D) (r:List D):z3l (d::r)=(d.noL&&z3l r):=by simp only [z3l]
theorem zfi (i:Int):(D.int i).noL=true:=by simp only [D.noL]
theorem zq6 (i:Bool):(D.bl i).noL=true:=by simp only [D.noL]
theorem zm0 (i:PySem.Str):(D.str i).noL=true:=by simp only [D.noL]
theorem zm1:(D.non).noL=true:=by simp only [D.noL]
theorem zm2 (ds:List D):(D.tup ds).noL=z3l ds:=by simp only [D.noL]
theorem zm3 (ds:List D):(D.lst ds).noL=false:=by simp only [D.noL]
theorem zuz (i:Nat) (d:D) (ρ:DS):zhs false i d ρ=ρ.set i (.im d):=rfl
theorem zv0 (i:Nat) (d:D) (ρ:DS):zhs true i d ρ=ρ.set i (.ow d):=rfl
theorem zv1 (ρ:DE):sel [] ρ=[]:=rfl
theorem zv2 (j:Nat) (r:List Nat) (ρ:DE):sel (j::r) ρ=(ρ[j]?).getD none::sel r ρ:=rfl
theorem zxv (d:D) (r:DE):z02 0 (some d::r)=.ok d:=rfl
theorem zxw (i:Nat) (d:Option D) (r:DE):z02 (i+1) (d::r)=z02 i r:=rfl
theorem zq7 (g:Int->Int->D) (i j:Int):dI g (.int i) (.int j)=some (g i j):=rfl
theorem z49 (C:Int->Int->Prop) [∀i j,Decidable (C i j)] (g:Int->Int->D) (i j:Int):dIC C g (.int i) (.int j)=if C i j then some (g i j) else none:=rfl
theorem zv3 (b:Bool):asB (.bl b)=some b:=rfl
theorem zjv (b:Bool):z9h (.bl b)=some b:=rfl
theorem zq8 (ds:List D):z9h (.lst ds)=some (!ds.isEmpty):=rfl
theorem zq9 (i:Int):z9h (.int i)=some (i != 0):=rfl
theorem z6j (i j:Int):(i==j)=decide (i=j):=by rw [Bool.eq_iff_iff];simp
theorem zqa (i j:Int):dEq (.int i) (.int j)=some (.bl (decide (i=j))):=by
 unfold dEq
 rw [if_pos (by simp [D.pl,D.dep])]
 simp only [eqD,z6j]
theorem zqb (i j:Int):dNe (.int i) (.int j)=some (.bl (!decide (i=j))):=by
 unfold dNe
 rw [if_pos (by simp [D.pl,D.dep])]
 simp only [eqD,z6j]
theorem zqc (i j:Bool):dEq (.bl i) (.bl j)=some (.bl (i==j)):=by
 unfold dEq
 rw [if_pos (by simp [D.pl,D.dep])]
 simp only [eqD]
theorem zqd (a b c e:Int):dEq (.tup [.int a,.int b]) (.tup [.int c,.int e])=some (.bl (decide (a=c)&&decide (b=e))):=by
 unfold dEq
 rw [if_pos (by simp [D.pl,D.dep,pls,z3v])]
 simp only [eqD,z46,z6j,Bool.and_true]
theorem zqe (a b c e:Int):dNe (.tup [.int a,.int b]) (.tup [.int c,.int e])=some (.bl (!(decide (a=c)&&decide (b=e)))):=by
 unfold dNe
 rw [if_pos (by simp [D.pl,D.dep,pls,z3v])]
 simp only [eqD,z46,z6j,Bool.and_true]
theorem zjw (a:D) (r:List D):dIx (.tup (a::r)) (.int 0)=some a:=by simp only [dIx,dOr,zbr,zwj]
theorem zjx (a b:D) (r:List D):dIx (.tup (a::b::r)) (.int 1)=some b:=by simp only [dIx,dOr,zbr,zwk]
theorem zqf (a b c:D) (r:List D):dIx (.tup (a::b::c::r)) (.int 2)=some c:=by simp only [dIx,dOr,zbr,show atI (a::b::c::r) 2=some c from z66 (j:=2) rfl]
theorem zqg (a:D) (r:List D):dIx (.lst (a::r)) (.int 0)=some a:=by simp only [dIx,dOr,zbr,zwj]
theorem zqh (a b:D) (r:List D):dIx (.lst (a::b::r)) (.int 1)=some b:=by simp only [dIx,dOr,zbr,zwk]
theorem zqi {ds:List D} {j:Nat} {d:D} (h:ds[j]?=some d):dIx (.lst ds) (.int (j:Int))=some d:=by simp only [dIx,dOr,zbr,z66 h]
theorem zm4 {ns:List Int} {k:Int} (h0:0<=k) (h1:k<ns.length):dIx (.scr ns) (.int k)=some (.int (ns.getD k.toNat 0)):=by
 have hk:k.toNat<ns.length:=by omega
 have e:atI ns k=some (ns.getD k.toNat 0):=by
  have:=z66 (xs:=ns) (j:=k.toNat) (v:=ns.getD k.toNat 0) (by rw [List.getD_eq_getElem?_getD,List.getElem?_eq_getElem hk];rfl)
  rwa [show ((k.toNat:Nat):Int)=k by omega] at this
 simp only [dIx,dOr,zbr,e,Option.map_some]
theorem zqj (ns:List Int):zd3 [.scr ns]=some (.int ns.length):=rfl
theorem zjy (ns:List D):zd3 [.lst ns]=some (.int ns.length):=rfl
theorem zqk (ns:List D):zd3 [.tup ns]=some (.int ns.length):=rfl
theorem zv4 (b c:Bool):(if b=true then R.ok true else R.ok c)=R.ok (b||c):=by cases b<;>rfl
theorem zql (b c:Bool):(if b=true then R.ok c else R.ok false)=R.ok (b&&c):=by cases b<;>rfl
theorem zqm (b c:Bool):(if b=true then R.ok (D.bl true) else R.ok (D.bl c))=R.ok (D.bl (b||c)):=by cases b<;>rfl
theorem zm5 (b c:Bool):(if b=true then R.ok (D.bl c) else R.ok (D.bl false))=R.ok (D.bl (b&&c)):=by cases b<;>rfl
theorem zqn (i:Int):z7f "int" (.int i)=some (.bl true):=by simp [z7f,z5d,z68,zeh]
theorem zqo (i:Int):z7f "bool" (.int i)=some (.bl false):=by simp [z7f,z5d,z68,zeh]
theorem zqp (i:Bool):z7f "bool" (.bl i)=some (.bl true):=by simp [z7f,z5d,z68,zeh]
theorem zfj (ds:List D):z7f "tuple" (.tup ds)=some (.bl true):=by simp [z7f,z5d,z68,zeh]
theorem zjz (ds:List D):z7f "list" (.lst ds)=some (.bl true):=by simp [z7f,z5d,z68,zeh]
theorem zqq (tg:Tg) (g:DS->SR) (ρ:DS):zbo tg g [] ρ=.nx ρ:=rfl
noncomputable def SR.itr (r:SR) (k:DS->SR):SR:=match r with
 | .nx ρ2=>k ρ2
 | .ct ρ2=>k ρ2
 | .bk ρ2=>.nx ρ2
 | .rt d=>.rt d
 | .er x=>.er x
 | .st=>.st
theorem zqr (ρ:DS) (k:DS->SR):(SR.nx ρ).itr k=k ρ:=rfl
theorem zqs (ρ:DS) (k:DS->SR):(SR.ct ρ).itr k=k ρ:=rfl
theorem zqt (ρ:DS) (k:DS->SR):(SR.bk ρ).itr k=.nx ρ:=rfl
theorem zqu (d:D) (k:DS->SR):(SR.rt d).itr k=.rt d:=rfl
theorem zm6 (c:Prop) [Decidable c] (a b:SR) (g:DS->SR):(if c then a else b).itr g=if c then a.itr g else b.itr g:=by split<;>rfl
theorem zm7 (bn:D->Option (List D)) (t:DE->R Bool) (f:DE->R D) (cs:DE):z3j bn t f cs []=.ok []:=rfl
theorem zm8 (f:DE->R D) (cs:DE) (d:D) (ds:List D):z3j b1 zhy f cs (d::ds)=(f (some d::cs)).noE.bind fun y=>(z3j b1 zhy f cs ds).bind fun ys=>.ok (y::ys):=rfl
theorem z9m {bn:D->Option (List D)} {f:DE->R D} {cs:DE} {α:Type} {en:α->D} {bs:α->List D} {g:α->D} (xs:List α) (hb:∀x∈xs,bn (en x)=some (bs x)) (hf:∀x∈xs,f ((bs x).map some++cs)=.ok (g x)):z3j bn zhy f cs (xs.map en)=.ok (xs.map g):=by
 induction xs with
 | nil=>rfl
 | cons x xs ih=>
  simp only [List.map_cons,z3j,hb x (by simp),zhy,R.of_some,R.bind_ok,zbv,if_true,hf x (by simp),ih (fun y hy=>hb y (by simp [hy])) (fun y hy=>hf y (by simp [hy]))]
theorem z4y {bn:D->Option (List D)} {t:DE->R Bool} {f:DE->R D} {cs:DE} {α:Type} {en:α->D} {bs:α->List D} {p:α->Bool} {g:α->D} (xs:List α) (hb:∀x∈xs,bn (en x)=some (bs x)) (ht:∀x∈xs,t ((bs x).map some++cs)=.ok (p x)) (hf:∀x∈xs,p x=true->f ((bs x).map some++cs)=.ok (g x)):z3j bn t f cs (xs.map en)=.ok ((xs.filter p).map g):=by
 induction xs with
 | nil=>rfl
 | cons x xs ih=>
  have ih':=ih (fun y hy=>hb y (by simp [hy])) (fun y hy=>ht y (by simp [hy])) (fun y hy=>hf y (by simp [hy]))
  simp only [List.map_cons,z3j,hb x (by simp),ht x (by simp),R.of_some,R.bind_ok,zbv,ih']
  cases e:p x with
  | true=>simp only [if_true,hf x (by simp) e,zbv,R.bind_ok,List.filter_cons,e,List.map_cons]
  | false=>simp only [Bool.false_eq_true,if_false,List.filter_cons,e]
theorem z2o {tg:Tg} {g:DS->SR} {α:Type} {en:α->D} (P:List α->DS->Prop) (xs:List α) (ρ:DS) (h0:P xs ρ) (hs:∀x r ρ,P (x::r) ρ->∃ρ1 ρ2,zjc tg (en x) ρ=some ρ1/\(g ρ1=.nx ρ2\/g ρ1=.ct ρ2)/\P r ρ2):∃ρ',zbo tg g (xs.map en) ρ=.nx ρ'/\P [] ρ':=by
 induction xs generalizing ρ with
 | nil=>exact ⟨ρ,rfl,h0⟩
 | cons x r ih=>
  obtain ⟨ρ1,ρ2,e1,e2,q⟩:=hs x r ρ h0
  obtain ⟨ρ',e',p'⟩:=ih ρ2 q
  refine ⟨ρ',?_,p'⟩
  rcases e2 with e2 | e2<;>simp only [List.map_cons,zbo,e1,e2,e']
noncomputable def L (ns:List Int):D:=.lst (ns.map .int)
theorem z8g {α:Type} (f:α->D) (xs:List α) (h:∀x∈xs,(f x).noL=true):z3l (xs.map f)=true:=by
 induction xs with
 | nil=>simp only [List.map_nil,z3l]
 | cons a r ih=>simp only [List.map_cons,z3l,h a (by simp),ih fun x hx=>h x (by simp [hx]),Bool.and_self]
theorem zqv (ns:List Int):keeps true (L ns)=true:=by
 unfold L;rw [zbw];exact z8g _ _ fun x _=>zfi x
theorem zv5 (ns:List Int):zd3 [L ns]=some (.int ns.length):=by unfold L;rw [zjy,List.length_map]
theorem zqw (ns:List Int):z9i [L ns]=some (L ns):=rfl
theorem zv6 (ns:List Int):z7f "list" (L ns)=some (.bl true):=zjz _
theorem zm9 (ns:List Int):items (L ns)=some (ns.map .int):=rfl
theorem zxx (ns:List Int) (lo hi:Option Int):dSl (L ns) lo hi=some (L (zd4 ns lo hi)):=by
 simp only [L,dSl,zd4,List.length_map,List.map_take,List.map_drop]
theorem zqx (ns:List Int) (lo hi:Option Int):dSl (.scr ns) lo hi=some (L (zd4 ns lo hi)):=rfl
theorem zv7 (ns:List Int):zno [L ns]=some (.int ns.sum):=by simp only [L,zno,z7g,Option.map_some]
theorem all_map {α:Type} (xs:List α) (f:α->Bool):zpk [.lst (xs.map fun x=>D.bl (f x))]=some (.bl (xs.all f)):=by
 have:xs.map (fun x=>D.bl (f x))=(xs.map f).map D.bl:=by rw [List.map_map];rfl
 rw [this];simp only [zpk,z6f,Option.map_some,List.all_map];rfl
theorem zd7 (ns:List Int):(L ns).dep<=1/\(L ns).pl=true:=by
 have:∀ns:List Int,z3v (ns.map D.int)=0/\pls (ns.map D.int)=true:=fun ns=>by
  induction ns with
  | nil=>simp only [List.map_nil,z3v,pls,and_self]
  | cons a r ih=>simp only [List.map_cons,z3v,pls,D.dep,D.pl,ih.1,ih.2,Bool.and_self,Nat.max_self,and_self]
 simp only [L,D.dep,D.pl,this];exact ⟨by omega,trivial⟩
theorem zfk:∀(a b:List Int),z46 (a.map D.int) (b.map D.int)=decide (a=b)
 | [],[]=>by simp [z46]
 | [],_::_=>by simp [z46]
 | _::_,[]=>by simp [z46]
 | x::a,y::b=>by
  simp only [List.map_cons,z46,eqD,zfk a b,List.cons.injEq,Bool.decide_and,z6j]
theorem zxy (a b:List Int):dEq (L a) (L b)=some (.bl (decide (a=b))):=by
 unfold dEq
 rw [if_pos ⟨(zd7 a).2,(zd7 b).2,by have:=(zd7 a).1;omega⟩]
 simp only [L,eqD,zfk]
theorem zxz (a b:List Int):dNe (L a) (L b)=some (.bl (!decide (a=b))):=by
 unfold dNe
 rw [if_pos ⟨(zd7 a).2,(zd7 b).2,by have:=(zd7 a).1;omega⟩]
 simp only [L,eqD,zfk]
theorem zbx {tg:Tg} {g:DS->SR} (n:Nat) (en:Nat->D) (P:Nat->DS->Prop) (ρ:DS) (h0:P 0 ρ)
  (hs:∀i,i<n->∀ρ,P i ρ->∃ρ1 ρ2,zjc tg (en i) ρ=some ρ1/\(g ρ1=.nx ρ2\/g ρ1=.ct ρ2)/\P (i+1) ρ2) :
  ∃ρ',zbo tg g ((List.range n).map en) ρ=.nx ρ'/\P n ρ':=by
 have key:∀k s ρ,s+k=n->P s ρ->∃ρ',zbo tg g ((List.range' s k).map en) ρ=.nx ρ'/\P n ρ':=by
  intro k
  induction k with
  | zero=>intro s ρ e h;exact ⟨ρ,rfl,by rwa [<-e]⟩
  | succ k ih=>
   intro s ρ e h
   obtain ⟨ρ1,ρ2,e1,e2,q⟩:=hs s (by omega) ρ h
   obtain ⟨ρ',e',p'⟩:=ih (s+1) ρ2 (by omega) q
   refine ⟨ρ',?_,p'⟩
   rw [List.range'_succ,List.map_cons]
   rcases e2 with e2 | e2<;>simp only [zbo,e1,e2,e']
 rw [List.range_eq_range']
 exact key n 0 ρ (by omega) h0
theorem zi5 (n:Nat) (g:Nat->D):((zD 0 ((List.range n).map g).length).zip ((List.range n).map g)).map (fun p=>D.tup [p.1,p.2])=(List.range n).map fun (i:Nat)=>D.tup [.int (i:Int),g i]:=by
 simp only [zD,List.length_map,List.length_range]
 have:∀(l:List Nat),((l.map fun (i:Nat)=>D.int (0+i)).zip (l.map g)).map (fun p=>D.tup [p.1,p.2])=l.map fun (i:Nat)=>D.tup [.int (i:Int),g i]:=fun l=>by
  induction l with
  | nil=>rfl
  | cons a r ih=>simp only [Int.zero_add] at ih ⊢;simp only [List.map_cons,List.zip_cons_cons,ih]
 exact this _
theorem zqy {α:Type} (xs:List α) (d:α):xs=(List.range xs.length).map fun i=>xs.getD i d:=by
 apply List.ext_getElem?
 intro i
 by_cases h:i<xs.length
 . rw [List.getElem?_map,List.getElem?_range h,Option.map_some,List.getD_eq_getElem?_getD,List.getElem?_eq_getElem h];rfl
 . rw [List.getElem?_eq_none (by omega),List.getElem?_eq_none (by simp;omega)]
theorem zv8 (ns:List Int):isT "list" (L ns)=true:=by simp only [L,isT,beq_self_eq_true]
theorem zqz (m:List Bool) (ρ:DS):z59 false m ρ=frz m ρ:=rfl
theorem zv9 (ρ:DS):frz [] ρ=ρ:=by cases ρ<;>rfl
theorem zva (m:List Bool):frz m []=[]:=by cases m<;>rfl
theorem zvb (b:Bool) (m:List Bool) (s:Sl) (r:DS):frz (b::m) (s::r)=s.frz b::frz m r:=rfl
theorem zr0 (b:Bool) (d:D):Sl.frz b (.im d)=.im d:=rfl
theorem zr1 (b:Bool):Sl.frz b .em=.em:=rfl
theorem zma (d:D):Sl.frz false (.ow d)=.ow d:=rfl
theorem zmb (d:D):Sl.frz true (.ow d)=.im d:=rfl
theorem zvc {i j:Int} (h:-(2 ^ 64)<i/\i<2 ^ 64):zez (.int i) (.int j)=some (.int (i * j)):=by
 unfold zez;rw [z49,if_pos (show CMul i j from Or.inl h)]
theorem zr2 {i j:Int} (h:-(2 ^ 64)<j/\j<2 ^ 64):zez (.int i) (.int j)=some (.int (i * j)):=by
 unfold zez;rw [z49,if_pos (show CMul i j from Or.inr h)]
theorem z4i {i j:Int} (h:0<j):z3m (.int i) (.int j)=some (.int (i % j)):=by
 unfold z3m;rw [z49,if_pos h]
theorem zi6 {i j:Int} (h:0<j/\j<1073741824):zbp (.int i) (.int j)=some (.int (i / j)):=by
 unfold zbp;rw [z49,if_pos (show zkp i j from h)]
theorem zr3 (i:Int):R.of (match D.int i with | .int i=>some (some i) | _=>none)=R.ok (some i):=rfl
theorem zmc {j:Int} (hj:-100000<=j/\j<=100000):-(2 ^ 62)<=j/\j<2 ^ 62:=by omega
theorem zvd {fs:DE->R (List D)} {ρ:DE} (j:Int) (hj:-100000<=j/\j<=100000) (h:fs ρ=.ok [.int j]):zjj fs ρ=.ok (zD 0 j.toNat):=by
 unfold zjj;rw [h,R.bind_ok]
 show R.of (if _ then _ else _)=_
 rw [if_pos (zmc hj)];rfl
theorem zmd (ds:List D):items (.lst ds)=some ds:=rfl
theorem zme (ds:List D):items (.tup ds)=some ds:=rfl
theorem z9n (ds:List D):keeps false (.lst ds)=false:=by simp only [keeps,D.noL,Bool.false_eq_true,if_false]
theorem zmf (ns:List Int):keeps false (L ns)=false:=z9n _
noncomputable def T2 (p:Int×Int):D:=.tup [.int p.1,.int p.2]
noncomputable def T3 (p:Int×Int×Int):D:=.tup [.int p.1,.int p.2.1,.int p.2.2]
theorem zfl {l l':List D} (h:ois l'=true) (p:l.Perm l'):z31 l=z31 l':=
 z60 (z4x ((z0p l).trans p) h) (((z0p l).trans p).trans (z0p l').symm) (z3o (z4x p h)) (z3o h)
noncomputable def znr {α:Type} (lt:α->α->Bool) (d:α):List α->List α
 | []=>[d]
 | e::r=>if lt e d=true then e::znr lt d r else d::e::r
noncomputable def z9o {α:Type} (lt:α->α->Bool):List α->List α
 | []=>[]
 | d::r=>znr lt d (z9o lt r)
section
variable {α:Type} (f:α->D)
theorem zby (d:α):∀l:List α,zi0 (f d) (l.map f)=(znr (fun a b=>ltT (f a) (f b)) d l).map f
 | []=>rfl
 | e::r=>by
  simp only [List.map_cons,zi0,znr]
  split
  . rw [List.map_cons,zby d r]
  . rfl
theorem z6k:∀l:List α,z31 (l.map f)=(z9o (fun a b=>ltT (f a) (f b)) l).map f
 | []=>rfl
 | d::r=>by simp only [List.map_cons,z31,z9o,z6k r,zby]
variable (lt:α->α->Bool)
theorem z9p (d:α):∀l:List α,(znr lt d l).Perm (d::l)
 | []=>.refl _
 | e::r=>by
  unfold znr
  split
  . exact ((z9p d r).cons e).trans (.swap d e r)
  . exact .refl _
theorem z5g:∀l:List α,(z9o lt l).Perm l
 | []=>.refl _
 | d::r=>(z9p lt d (z9o lt r)).trans ((z5g r).cons d)
end
noncomputable def so2 (ls:List (Int×Int)):List (Int×Int):=z9o (fun a b=>ltT (T2 a) (T2 b)) ls
noncomputable def so3 (ls:List (Int×Int×Int)):List (Int×Int×Int):=z9o (fun a b=>ltT (T3 a) (T3 b)) ls
theorem zmg (ls:List (Int×Int)):z31 (ls.map T2)=(so2 ls).map T2:=z6k _ _
theorem zbz (ls:List (Int×Int)):(so2 ls).Perm ls:=z5g _ _
theorem z7n {α:Type} (xs:List α) (f:α->D) (p:D->Bool) (h:∀x,p (f x)=true):(xs.map f).all p=true:=by
 rw [List.all_eq_true];intro d hd;obtain ⟨x,_,rfl⟩:=List.mem_map.mp hd;exact h x
theorem zfm {α:Type} (xs:List α) (f:α->D) (h:∀x,(f x).oi=true):ois (xs.map f)=true:=
 ois_mem.mpr fun d hd=>by obtain ⟨x,_,rfl⟩:=List.mem_map.mp hd;exact h x
theorem z39 {α:Type} (xs:List α) (f:α->D) (n:Nat) (h:∀x,(f x).dep<=n):z3v (xs.map f)<=n:=by
 induction xs with
 | nil=>simp only [List.map_nil,z3v,Nat.zero_le]
 | cons a r ih=>simp only [List.map_cons,z3v];have:=h a;omega
theorem z6l {α:Type} (xs:List α) (f:α->D) (h:∀x,(f x).pl=true):pls (xs.map f)=true:=by
 induction xs with
 | nil=>simp only [List.map_nil,pls]
 | cons a r ih=>simp only [List.map_cons,pls,h a,ih,Bool.and_self]
theorem zd8 (p:Int×Int):(T2 p).oi=true:=by simp [T2,D.oi,ois]
theorem zc0 (p:Int×Int):(T2 p).dep<=1:=by simp [T2,D.dep,z3v]
theorem z0u (p:Int×Int):(T2 p).noL=true:=by simp [T2,D.noL,z3l]
theorem zk0 (p:Int×Int×Int):(T3 p).noL=true:=by simp [T3,D.noL,z3l]
theorem zr4 (p q:Int×Int):(z2n (T2 p) (T2 q)).isSome=true:=by
 simp only [T2,z2n,z30];repeat (first | rfl | split)
theorem zc1 {α β:Type} {f:α->β} (hf:∀x y,f x=f y->x=y):∀{a b:List α},a.map f=b.map f->a=b
 | [],[],_=>rfl
 | [],_::_,h=>by simp at h
 | _::_,[],h=>by simp at h
 | x::a,y::b,h=>by
  simp only [List.map_cons,List.cons.injEq] at h
  rw [hf _ _ h.1,zc1 hf h.2]
theorem zve (ds:List D):isT "list" (.lst ds)=true:=by simp only [isT,beq_self_eq_true]
theorem zvf (b:Bool):znp [.bl b]=some (.int (if b then 1 else 0)):=rfl
theorem zvg (i:Int):znp [.int i]=some (.int i):=rfl
theorem zr5 (ds:List D):z9i [.tup ds]=some (.lst ds):=rfl
theorem zr6 (ds:List D):z9i [.lst ds]=some (.lst ds):=rfl
theorem zmh (ds:List D):zjg [.lst ds]=some (.tup ds):=rfl
theorem zmi (ds:List D):zjg [.tup ds]=some (.tup ds):=rfl
theorem zc2 (ls:List (Int×Int)):z3l (ls.map T2)=true:=z8g _ _ fun x _=>z0u x
theorem zi7 (ls:List (Int×Int×Int)):z3l (ls.map T3)=true:=z8g _ _ fun x _=>zk0 x
theorem zr7 {ls:List (Int×Int)} {a b:Int} (h:ls.length<100000):z6w (.lst (ls.map T2)) [.tup [.int a,.int b]]=some (.lst ((ls++[(a,b)]).map T2)):=by
 simp only [z6w,List.length_map,h,if_true,List.map_append,List.map_cons,List.map_nil];rfl
theorem zc3 {d:D} (hp:d.pl=true) (hd:d.dep<=20):dNe d d=some (.bl false):=by
 unfold dNe;rw [if_pos ⟨hp,hp,hd⟩,z4o d hp];rfl
theorem zr8 (t:Int×Int×Int):zno [T3 t]=some (.int (t.1+(t.2.1+(t.2.2+0)))):=by
 simp only [T3,zno,z2l,Option.map_some,List.sum_cons,List.sum_nil]
theorem zr9 (t:Int×Int):zno [T2 t]=some (.int (t.1+(t.2+0))):=by
 simp only [T2,zno,z2l,Option.map_some,List.sum_cons,List.sum_nil]
theorem zra (t:Int×Int×Int):z7f "tuple" (T3 t)=some (.bl true):=zfj _
theorem zrb (t:Int×Int):z7f "tuple" (T2 t)=some (.bl true):=zfj _
theorem zrc (t:Int×Int):zd3 [T2 t]=some (.int 2):=rfl
theorem zvh (t:Int×Int):dIx (T2 t) (.int 0)=some (.int t.1):=zjw _ _
theorem zvi (t:Int×Int):dIx (T2 t) (.int 1)=some (.int t.2):=zjx _ _ _
theorem zi8 (t:Int×Int×Int):items (T3 t)=some [.int t.1,.int t.2.1,.int t.2.2]:=rfl
def zrd (i j:Int):Prop:=0<j/\j<2 ^ 200
instance (i j:Int):Decidable (zrd i j):=by unfold zrd;infer_instance
noncomputable def hid (as:List Addr) (H:Hp):Hp:=fun b=>if b∈as then none else H b
theorem zre {as:List Addr} {H:Hp} {a:Addr} (h:a∈as):hid as H a=none:=if_pos h
theorem zfn {as:List Addr} {H:Hp} {a:Addr} (h:a∉as):hid as H a=H a:=if_neg h
theorem zav {α:Type} {l:List α} {i j:Nat} {x y:α} (h:(l.set i x)[j]?=some y):(i=j/\x=y)\/(i≠j/\l[j]?=some y):=by
 by_cases e:i=j
 . subst e
   by_cases hl:i<l.length
   . rw [List.getElem?_set_self hl] at h;exact .inl ⟨rfl,Option.some.inj h⟩
   . rw [List.getElem?_eq_none (by rw [List.length_set];omega)] at h;cases h
 . rw [List.getElem?_set_ne e] at h;exact .inr ⟨e,h⟩
mutual
noncomputable def D.ob:D->Bool
 | .int _=>true
 | .bl _=>true
 | .tup ds=>obs ds
 | _=>false
noncomputable def obs:List D->Bool
 | []=>true
 | d::ds=>d.ob&&obs ds
end
mutual
noncomputable def zk1:D->D->Option Bool
 | .int i,.int j=>some (decide (i<j))
 | .bl a,.bl b=>some (decide (b2i a<b2i b))
 | .tup ds,.tup es=>z8h ds es
 | _,_=>none
noncomputable def z8h:List D->List D->Option Bool
 | [],[]=>some false
 | [],_::_=>some true
 | _::_,[]=>some false
 | d::ds,e::es=>if eqD d e=true then z8h ds es else zk1 d e
end
mutual
theorem zmj:∀{d:D},d.ob=true->d.pl=true
 | .int _,_=>rfl
 | .bl _,_=>rfl
 | .tup ds,h=>by simp only [D.pl];exact zk2 (by simpa only [D.ob] using h)
 | .non,p=>by simp [D.ob] at p
 | .str _,p=>by simp [D.ob] at p
 | .lst _,p=>by simp [D.ob] at p
 | .dk _ _,p=>by simp [D.ob] at p
 | .dt _ _,p=>by simp [D.ob] at p
 | .dn _ _,p=>by simp [D.ob] at p
 | .scr _,p=>by simp [D.ob] at p
 | .exc _,p=>by simp [D.ob] at p
theorem zk2:∀{ds:List D},obs ds=true->pls ds=true
 | [],_=>rfl
 | d::ds,h=>by
  simp only [obs,Bool.and_eq_true] at h
  simp only [pls,zmj h.1,zk2 h.2,Bool.and_self]
end
section
variable {X:Cx} {pins:List (Addr×Obj)} {σ:St} {H:Hp} {s:Shared}
theorem zk3 (I:Inv X pins σ H s) {A:Around} {n:Nat} (hu:A.units+n<cLine) (lt:∀{d e:D} {x y:V} {u v:Value} {b:Bool},d.ob=true->e.ob=true->d.dep<=n->RD X.K H d x->RD X.K H e y->RelV x u->RelV y v->zk1 d e=some b->RcLt A s u v b) :
  ∀{ds es:List D} {xs ys:List V} {us vs:List Value} {b:Bool},obs ds=true->obs es=true->z3v ds<=n->RDs X.K H ds xs->RDs X.K H es ys->Vals xs us->Vals ys vs->z8h ds es=some b->LexR A s us vs b
 | [],[],_,_,_,_,b,_,_,_,r1,r2,q1,q2,h=>by
  simp only [RDs] at r1 r2;subst r1;subst r2
  cases q1;cases q2
  simp only [z8h,Option.some.injEq] at h;subst h
  exact .nn
 | [],e::es,_,_,_,_,b,_,_,_,r1,r2,q1,q2,h=>by
  simp only [RDs] at r1 r2;subst r1
  obtain ⟨y,ys,rfl,_,_⟩:=r2
  cases q1;cases q2
  simp only [z8h,Option.some.injEq] at h;subst h
  exact .nc
 | d::ds,[],_,_,_,_,b,_,_,_,r1,r2,q1,q2,h=>by
  simp only [RDs] at r1 r2;subst r2
  obtain ⟨y,ys,rfl,_,_⟩:=r1
  cases q1;cases q2
  simp only [z8h,Option.some.injEq] at h;subst h
  exact .cn
 | d::ds,e::es,_,_,_,_,b,p1,p2,hd,r1,r2,q1,q2,h=>by
  simp only [RDs] at r1 r2
  obtain ⟨x,xs,rfl,rx,rxs⟩:=r1
  obtain ⟨y,ys,rfl,ry,rys⟩:=r2
  simp only [obs,Bool.and_eq_true] at p1 p2
  simp only [z3v] at hd
  cases q1 with
  | cons a1 a2=>
   cases q2 with
   | cons b1 b2=>
    have eq:=z9d (A:=A) I n (zmj p1.1) (zmj p2.1) (by omega) hu rx ry a1 b1
    simp only [z8h] at h
    split at h
    . rename_i w
      rw [w] at eq
      exact .eq eq (zk3 I hu lt p1.2 p2.2 (by omega) rxs rys a2 b2 h)
    . rename_i w
      rw [show eqD d e=false by simpa using w] at eq
      exact .lt eq (lt p1.1 p2.1 (by omega) rx ry a1 b1 h)
theorem z7o {d e:D} {b:Bool} (h:zk1 d e=some b):(∃i j,d=.int i/\e=.int j/\b=decide (i<j))\/(∃p q,d=.bl p/\e=.bl q/\b=decide (b2i p<b2i q))\/∃ds es,d=.tup ds/\e=.tup es/\z8h ds es=some b:=by
 cases d with
 | int i=>cases e with
  | int j=>exact .inl ⟨_,_,rfl,rfl,(Option.some.inj h).symm⟩
  | _=>exact nomatch h
 | bl p=>cases e with
  | bl q=>exact .inr (.inl ⟨_,_,rfl,rfl,(Option.some.inj h).symm⟩)
  | _=>exact nomatch h
 | tup ds=>cases e with
  | tup es=>exact .inr (.inr ⟨_,_,rfl,rfl,h⟩)
  | _=>exact nomatch h
 | _=>exact nomatch h
theorem zrf (I:Inv X pins σ H s):∀(n:Nat) {A:Around} {d e:D} {x y:V} {u v:Value} {b:Bool},A.units+n<cLine->d.ob=true->e.ob=true->d.dep<=n->RD X.K H d x->RD X.K H e y->RelV x u->RelV y v->zk1 d e=some b->RcLt A s u v b:=by
 have low:∀{A:Around} {d e:D} {x y:V} {u v:Value} {b:Bool},RD X.K H d x->RD X.K H e y->RelV x u->RelV y v->((∃i j,d=.int i/\e=.int j/\b=decide (i<j))\/(∃p q,d=.bl p/\e=.bl q/\b=decide (b2i p<b2i q)))->RcLt A s u v b:=by
  intro A d e x y u v b rx ry ru rv h
  rcases h with ⟨i,j,rfl,rfl,rfl⟩ | ⟨p,q,rfl,rfl,rfl⟩
  . cases rx.int;cases ry.int
    obtain ⟨t,rfl⟩:=ru;obtain ⟨t',rfl⟩:=rv
    exact fun prog w E Q q=>HT.rcLt_int A s _ _ _ _ prog w E Q q
  . cases rx.bl;cases ry.bl
    obtain rfl:_=Value.bool p:=ru
    obtain rfl:_=Value.bool q:=rv
    exact fun prog w E Q q=>PyProof.Rows.lt_bool q
 intro n
 induction n with
 | zero=>
  intro A d e x y u v b hu p1 p2 hd rx ry ru rv h
  rcases z7o h with z | z | ⟨ds,es,rfl,rfl,h⟩
  . exact low rx ry ru rv (.inl z)
  . exact low rx ry ru rv (.inr z)
  . simp only [D.dep] at hd;omega
 | succ n ih=>
  intro A d e x y u v b hu p1 p2 hd rx ry ru rv h
  rcases z7o h with z | z | ⟨ds,es,rfl,rfl,h⟩
  . exact low rx ry ru rv (.inl z)
  . exact low rx ry ru rv (.inr z)
  . obtain ⟨a,xs,rfl,ha,ra⟩:=rx.tup
    obtain ⟨c,ys,rfl,hc,rc⟩:=ry.tup
    cases ru;cases rv
    obtain ⟨its,r1,t1⟩:=I.tupA ha
    obtain ⟨its2,r2,t2⟩:=I.tupA hc
    simp only [D.dep] at hd
    simp only [D.ob] at p1 p2
    have hu1:A.in1.units+n<cLine:=by show A.units+1+n<cLine;omega
    exact RcLt.tuples t1 t2 (zk3 I hu1 (fun {d e x y u v b} q1 q2 q3 q4 q5 q6 q7 q8=>ih hu1 q1 q2 q3 q4 q5 q6 q7 q8) p1 p2 (by omega) ra rc r1 r2 h) (by omega)
end
noncomputable def zns:D->D->Option D:=fun d e=>if d.ob=true/\e.ob=true/\d.dep<=20 then (zk1 d e).map D.bl else none
noncomputable def zwt (K:Frag):R2:=fun x y H Q=>∃d e b,RD K H d x/\RD K H e y/\d.ob=true/\e.ob=true/\d.dep<=20/\zk1 d e=some b/\Q (.bl b) H
theorem zvj {X:Cx} (hu:X.A.units+64<cLine):OpR X (compareOp .Lt) (zwt X.K):=by
 intro pins s σ H x y v u Q I rx ry h
 obtain ⟨d,e,b,h1,h2,p1,p2,h3,h4,q⟩:=h
 exact zrf I 20 (by omega) p1 p2 h3 h1 h2 rx ry h4 X.prog X.w X.xe _ ⟨.bl _,H,I,rfl,q⟩
theorem zrg {K:Frag}:OpD K false zns (zwt K):=by
 intro H0 H x y d e z Q s rx ry ho k
 unfold zns at ho
 split at ho
 . rename_i h
   cases hc:zk1 d e with
   | none=>rw [hc] at ho;cases ho
   | some b=>
    rw [hc] at ho;cases ho
    exact ⟨d,e,b,rx.mono s,ry.mono s,h.1,h.2.1,h.2.2,hc,k _ H (.pure s (.mkBl _))⟩
 . cases ho
section
variable {prog:Program} {w:World} {A:Around} {R:Result->Shared->Prop} {I:Addr} {fp wr:List Addr} {n:Nat} {P:Nat->Value->Prop} {St:Nat->Heap->Prop}
def zmk (prog:Program) (w:World) (A:Around) (P:Nat->Value->Prop) (bt:Nat->Nat->Bool) (G:Shared->Prop):Prop:=
 ∀(i j:Nat) (vi vj:Value) (s:Shared) (Q E:Value->Shared->Prop),G s->P i vi->P j vj->Q (Value.bool (bt i j)) s->wpAny (model prog w) A (richCompare .Lt vi vj) Q E s
theorem zvk (kw:List (Str×Value)) (W:Walks prog w A.in1 I fp wr n P St) (bt:Nat->Nat->Bool) (S:Addr) (nf:S∉fp) (G:Shared->Prop) (hG:∀(s:Shared) (h':Heap) (tk:Nat),G s->(∀b o,b∉wr->b≠S->s.heap.get? b=some o->h'.get? b=some o)->G { s with heap:=h',toks:=tk }) (cm:zmk prog w A.in1 P bt G) :
  ∀(k j:Nat) (s:Shared) (vb:Value) (c:Nat),G s->n - (j+1)=k->j+1<=n->St (j+1) s.heap->P (argBest bt j) vb->s.heap.get? S=some { cls:=.type "list",dict:=none,data:=.seq #[vb,vb] c,slots:=#[] } ->
  (∀v h' tk,P (argBest bt (n - 1)) v->(∀b o,b∉wr->b≠S->s.heap.get? b=some o->h'.get? b=some o)->R (.ok (.ret v)) { s with heap:=h',toks:=tk })->codeAny (model prog w) A (.builtin "min.loop" ⟨[.ref I,.none,.ref S],kw⟩) R s:=by
 have nw:S∉wr:=fun h=>nf (W.sub _ h)
 have nm:(toString "min"++toString ".loop":String)="min.loop":=by decide
 intro k
 induction k with
 | zero=>
  intro j s vb c gs ek ej st pb eS fin
  have jn:j+1=n:=by omega
  refine codeAny_builtin PySem.F.entry_min_loop ?_
  rw [Around.under_plainId PySem.F.plain_min_loop _]
  show wpAny _ A.in1 (seqItems? (.ref S) >>= _) _ _ _
  refine wpAny_bind (wpAny_seqItems eS rfl ?_)
  show wpAny _ A.in1 (tryCatch (pyNext (.ref I)) _ >>= _) _ _ _
  refine wpAny_bind (wpAny_tryCatch (W.done s _ _ (jn ▸ st) fun h' tk kp=>?_))
  have eS':=kp S _ nw eS
  show wpAny _ A.in1 (updateSeq S (fun _=>#[]) >>= _) _ _ _
  refine wpAny_bind ?_
  refine wpAny_updateSeq eS' rfl (wpAny_bind (wpAny_letGo (wpAny_pure ?_)))
  exact fin vb _ tk (by rw [<-jn];exact pb) fun b o hbw hbS e=>(Heap.get?_update_other _ _ (Ne.symm hbS)).trans (kp b o hbw e)
 | succ k ih=>
  intro j s vb c gs ek ej st pb eS fin
  have jl:j+1<n:=by omega
  refine codeAny_builtin PySem.F.entry_min_loop ?_
  rw [Around.under_plainId PySem.F.plain_min_loop _]
  show wpAny _ A.in1 (seqItems? (.ref S) >>= _) _ _ _
  refine wpAny_bind (wpAny_seqItems eS rfl ?_)
  show wpAny _ A.in1 (tryCatch (pyNext (.ref I)) _ >>= _) _ _ _
  refine wpAny_bind (wpAny_tryCatch (W.item (j+1) s _ _ jl st fun v h' tk pv st' kp=>?_))
  have eS':=kp S _ nw eS
  have gs':=hG s h' tk gs fun b o hb _ e=>kp b o hb e
  show wpAny _ A.in1 (tryCatch (holding [v,v] (richCompare .Lt v vb >>= _)) _ >>= _) _ _ _
  refine wpAny_bind (wpAny_tryCatch (wpAny_holding (wpAny_bind (cm (j+1) (argBest bt j) v vb _ _ _ gs' pv pb ?_))))
  refine wpAny_bind (wpAny_holding (wpAny_truthy_bool ?_))
  refine wpAny_bind (wpAny_letGo (wpAny_pure ?_))
  cases hb:bt (j+1) (argBest bt j) with
  | true=>
   rw [if_pos rfl]
   refine wpAny_bind ?_
   refine wpAny_updateSeq eS' rfl (wpAny_bind (wpAny_letGo ?_))
   rw [nm]
   refine wpAny_pure ⟨plainId_quiet PySem.F.plain_min_loop _,ih (j+1) _ v _ (hG _ _ tk gs' fun b o _ hbS e=>(Heap.get?_update_other _ _ (Ne.symm hbS)).trans e) (by omega) jl (W.frame _ _ _ st' fun b hbf o e=>?_) (by simp only [argBest,hb,if_true];exact pv) (Heap.get?_update_self _ eS' rfl) fun v' h'' tk'' pv' kp'=>?_⟩
   . exact (Heap.get?_update_other _ _ (fun z:S=b=>nf (by rw [z];exact hbf))).trans e
   . exact fin v' h'' tk'' pv' fun b o hbw hbS e=>kp' b o hbw hbS ((Heap.get?_update_other _ _ (Ne.symm hbS)).trans (kp b o hbw e))
  | false=>
   rw [if_neg Bool.false_ne_true]
   refine wpAny_bind (wpAny_letGo ?_)
   rw [nm]
   exact wpAny_pure ⟨plainId_quiet PySem.F.plain_min_loop _,ih (j+1) _ vb c gs' (by omega) jl st' (by simp only [argBest,hb,Bool.false_eq_true,if_false];exact pb) eS' fun v' h'' tk'' pv' kp'=>fin v' h'' tk'' pv' fun b o hbw hbS e=>kp' b o hbw hbS (kp b o hbw e)⟩
theorem zi9 (kw:List (Str×Value)) (W:Walks prog w A.in1 I fp wr n P St) (bt:Nat->Nat->Bool) (S:Addr) (nf:S∉fp) (G:Shared->Prop) (hG:∀(s:Shared) (h':Heap) (tk:Nat),G s->(∀b o,b∉wr->b≠S->s.heap.get? b=some o->h'.get? b=some o)->G { s with heap:=h',toks:=tk }) (cm:zmk prog w A.in1 P bt G) (n0:0<n) {s:Shared} {c:Nat} (gs:G s) (st:St 0 s.heap)
  (eS:s.heap.get? S=some { cls:=.type "list",dict:=none,data:=.seq #[] c,slots:=#[] }) (fin:∀v h' tk,P (argBest bt (n - 1)) v->(∀b o,b∉wr->b≠S->s.heap.get? b=some o->h'.get? b=some o)->R (.ok (.ret v)) { s with heap:=h',toks:=tk }) :
  codeAny (model prog w) A (.builtin "min.loop" ⟨[.ref I,.none,.ref S],kw⟩) R s:=by
 have nw:S∉wr:=fun h=>nf (W.sub _ h)
 have nm:(toString "min"++toString ".loop":String)="min.loop":=by decide
 refine codeAny_builtin PySem.F.entry_min_loop ?_
 rw [Around.under_plainId PySem.F.plain_min_loop _]
 show wpAny _ A.in1 (seqItems? (.ref S) >>= _) _ _ _
 refine wpAny_bind (wpAny_seqItems eS rfl ?_)
 show wpAny _ A.in1 (tryCatch (pyNext (.ref I)) _ >>= _) _ _ _
 refine wpAny_bind (wpAny_tryCatch (W.item 0 s _ _ n0 st fun v h' tk pv st' kp=>?_))
 have eS':=kp S _ nw eS
 have gs':=hG s h' tk gs fun b o hb _ e=>kp b o hb e
 show wpAny _ A.in1 (updateSeq S (fun _=>#[v,v]) >>= _) _ _ _
 refine wpAny_bind ?_
 refine wpAny_updateSeq eS' rfl ?_
 rw [nm]
 refine wpAny_pure ⟨plainId_quiet PySem.F.plain_min_loop _,zvk kw W bt S nf G hG cm _ 0 _ v _ (hG _ _ tk gs' fun b o _ hbS e=>(Heap.get?_update_other _ _ (Ne.symm hbS)).trans e) rfl n0 (W.frame _ _ _ st' fun b hbf o e=>?_) pv (Heap.get?_update_self _ eS' rfl) fun v' h'' tk'' pv' kp'=>?_⟩
 . exact (Heap.get?_update_other _ _ (fun z:S=b=>nf (by rw [z];exact hbf))).trans e
 . exact fin v' h'' tk'' pv' fun b o hbw hbS e=>kp' b o hbw hbS ((Heap.get?_update_other _ _ (Ne.symm hbS)).trans (kp b o hbw e))
end
mutual
noncomputable def nkD:D->Option NK
 | .int n=>some (.i n)
 | .tup ds=>(znt ds).map .t
 | _=>none
noncomputable def znt:List D->Option (List NK)
 | []=>some []
 | d::ds=>match nkD d,znt ds with
  | some k,some ks=>some (k::ks)
  | _,_=>none
end
mutual
theorem zfo {K:Frag} {H:Hp}:∀{d:D} {k:NK} {x:V},nkD d=some k->RD K H d x->NKr H k x
 | .int n,k,x,e,r=>by
  simp only [nkD,Option.some.injEq] at e;subst e
  cases r.int;simp only [NKr]
 | .tup ds,k,x,e,r=>by
  simp only [nkD,Option.map_eq_some_iff] at e
  obtain ⟨ks,e,rfl⟩:=e
  obtain ⟨a,xs,rfl,ha,ra⟩:=r.tup
  simp only [NKr]
  exact ⟨a,xs,rfl,ha,zfp e ra⟩
 | .non,_,_,e,_=>by simp [nkD] at e
 | .bl _,_,_,e,_=>by simp [nkD] at e
 | .str _,_,_,e,_=>by simp [nkD] at e
 | .lst _,_,_,e,_=>by simp [nkD] at e
 | .dk _ _,_,_,e,_=>by simp [nkD] at e
 | .dt _ _,_,_,e,_=>by simp [nkD] at e
 | .dn _ _,_,_,e,_=>by simp [nkD] at e
 | .scr _,_,_,e,_=>by simp [nkD] at e
 | .exc _,_,_,e,_=>by simp [nkD] at e
theorem zfp {K:Frag} {H:Hp}:∀{ds:List D} {ks:List NK} {xs:List V},znt ds=some ks->RDs K H ds xs->NKrs H ks xs
 | [],ks,xs,e,r=>by
  simp only [znt,Option.some.injEq] at e;subst e
  simp only [RDs] at r;subst r;simp only [NKrs]
 | d::ds,ks,xs,e,r=>by
  simp only [RDs] at r
  obtain ⟨x,r,rfl,r1,r2⟩:=r
  simp only [znt] at e
  split at e
  . rename_i k ks' e1 e2
    cases e
    simp only [NKrs]
    exact ⟨x,_,rfl,zfo e1 r1,zfp e2 r2⟩
  . cases e
end
noncomputable def putQ (qs:List (NK×Addr)) (k:NK) (b:Addr):List (NK×Addr):=if k∈qs.map (·.1) then qs else qs++[(k,b)]
noncomputable def z3 (qs:List (NK×Addr)) (vs:List Value):List (NK×Addr×Value):=(qs.zip vs).map fun q=>(q.1.1,q.1.2,q.2)
theorem zfq:∀(qs:List (NK×Addr)) (vs:List Value),qs.length=vs.length->(z3 qs vs).map (·.1)=qs.map (·.1)
 | [],_,_=>rfl
 | q::qs,[],h=>by simp at h
 | q::qs,v::vs,h=>by
  have:=zfq qs vs (by simpa using h)
  simp only [z3,List.zip_cons_cons,List.map_cons] at this ⊢
  rw [this]
theorem zfr (qs:List (NK×Addr)) (vs:List Value) (h:qs.length=vs.length):(z3 qs vs).length=qs.length:=by
 simp only [z3,List.length_map,List.length_zip];omega
theorem zml {α:Type} (xs:List (NK×Addr×α)) (k:NK):((xs.find? fun x=>decide (x.1=k)).map (·.2)).isSome=decide (k∈xs.map (·.1)):=by
 rw [Option.isSome_map,Bool.eq_iff_iff,List.find?_isSome,decide_eq_true_eq,List.mem_map]
 constructor
 . rintro ⟨x,hx,e⟩;exact ⟨x,hx,by simpa using e⟩
 . rintro ⟨x,hx,e⟩;exact ⟨x,hx,by simpa using e⟩
theorem zrh (qs:List (NK×Addr)) (vs:List Value) (h:qs.length=vs.length) (k:NK) (b:Addr) (u:Value):storedH (z3 qs vs) k b u=z3 (putQ qs k b) (zao (qs.map (·.1)) vs k u)/\(putQ qs k b).length=(zao (qs.map (·.1)) vs k u).length:=by
 unfold storedH putQ zao
 have e:=zml (z3 qs vs) k
 rw [zfq qs vs h] at e
 rw [show (atKey (z3 qs vs) k).isSome=decide (k∈qs.map (·.1)) from e]
 by_cases hk:k∈qs.map (·.1)
 . rw [if_pos (decide_eq_true hk),if_pos hk,if_pos hk]
   have go:∀(qs:List (NK×Addr)) (vs:List Value),qs.length=vs.length->(z3 qs vs).map (putAt k u)=z3 qs (List.zipWith (fun k' d'=>if k'=k then u else d') (qs.map (·.1)) vs)/\qs.length=(List.zipWith (fun k' d'=>if k'=k then u else d') (qs.map (·.1)) vs).length:=by
    intro qs
    induction qs with
    | nil=>intro vs _;exact ⟨rfl,rfl⟩
    | cons q qs ih=>
     intro vs h
     cases vs with
     | nil=>simp at h
     | cons v vs=>
      obtain ⟨i1,i2⟩:=ih vs (by simpa using h)
      simp only [z3,List.zip_cons_cons,List.map_cons,List.zipWith_cons_cons,List.length_cons] at i1 i2 ⊢
      refine ⟨?_,by omega⟩
      rw [i1]
      congr 1
      unfold putAt
      by_cases z:q.1=k
      . simp only [if_pos z]
      . simp only [if_neg z]
   exact go qs vs h
 . rw [if_neg (by simpa using hk),if_neg hk,if_neg hk]
   refine ⟨?_,by simp;omega⟩
   unfold z3
   rw [List.zip_append h,List.map_append];rfl
section
variable {X:Cx} {pins:List (Addr×Obj)} {σ:St} {H:Hp} {s:Shared}
theorem zfs {ks:List NK} {k:NK} {v:V} {u:Value} (ru:RelV v u) {xs:List V} {vs:List Value} (r:Vals xs vs):Vals (zao ks xs k v) (zao ks vs k u):=by
 unfold zao
 split
 . have go:∀(ks:List NK) (xs:List V) (vs:List Value),Vals xs vs->Vals (List.zipWith (fun k' d'=>if k'=k then v else d') ks xs) (List.zipWith (fun k' d'=>if k'=k then u else d') ks vs):=by
    intro ks
    induction ks with
    | nil=>intro xs vs _;exact .nil
    | cons k' ks ih=>
     intro xs vs r
     cases r with
     | nil=>exact .nil
     | cons a1 a2=>
      simp only [List.zipWith_cons_cons]
      refine .cons ?_ (ih _ _ a2)
      split
      . exact ru
      . exact a1
   exact go ks xs vs r
 . exact r.append (.cons ru .nil)
theorem zaw (I:Inv X pins σ H s) {a:Addr} {qs:List (NK×Addr)} {xs:List V} {ob:Obj} (e:H a=some (.ext (dnP a qs xs ob))) (n:DN H a qs):s.heap.get? a=some ob/\∃vs,Vals xs vs/\qs.length=vs.length/\Heap.DictOfH (deepKind X.prog X.w) s.heap a (z3 qs vs):=by
 obtain ⟨p,_,_⟩:=(show ObjOk X.prog X.w H s.heap a (.ext (dnP a qs xs ob)) from I.hok a _ e)
 obtain ⟨p3,vs,es,ep,p1,p2,p4,p5,p6⟩:=p
 refine ⟨p3,vs,p1,p2,ob,es,ep,p3,p4,p5,p6,fun x hx=>?_,by rw [zfq qs vs p2];exact n.1⟩
 obtain ⟨q,hq,rfl⟩:=List.mem_map.mp hx
 have hq':=(List.of_mem_zip hq).1
 exact ⟨zhr I (n.2.1 _ hq').1 rfl,(n.2.1 _ hq').2⟩
end
noncomputable def zri:zng:=fun o i v H Q=>∃(a:Addr) (qs:List (NK×Addr)) (xs:List V) (k:NK) (b:Addr) (ob:Obj),o=.ref a/\i=.ref b/\H a=some (.ext (dnP a qs xs ob))/\DN H a qs/\NKr H k (.ref b)/\k.dep<=8/\qs.length<sizeLine/\∀ob',Q (upd H a (.ext (dnP a (putQ qs k b) (zao (qs.map (·.1)) xs k v) ob')))
theorem zrj {X:Cx} (hu:X.A.units+64<cLine):zw8 X zri:=by
 intro pins s σ H o i v ov iv u Q I ro ri rv h
 obtain ⟨a,qs,xs,k,b,ob,rfl,rfl,e,n,hk,hd,hl,q⟩:=h
 cases ro;cases ri
 obtain ⟨_,vs,p1,p2,dd⟩:=zaw I e n
 have hz:(z3 qs vs).length<=sizeLine:=by rw [zfr qs vs p2];omega
 refine wpAny_setItem_heap (knd:=deepKind X.prog X.w) (hsz:=hz) (by show X.A.units+1+8<cLine;omega) ⟨zhr I hk rfl,hd⟩ dd fun h' dd' hs=>?_
 obtain ⟨e1,e2⟩:=zrh qs vs p2 k b u
 rw [e1] at dd'
 obtain ⟨o',es,ep,d1,d2,d3,d4,_⟩:=dd'
 refine ⟨_,?_,q o'⟩
 exact zky I (by rw [e];exact True.intro) hs ⟨o',d1⟩ ⟨⟨d1,_,es,ep,zfs rv p1,e2,d2,d3,d4⟩,⟨o',d1⟩,dnP.stay⟩
noncomputable def dSetN:D->D->D->Option D
 | .dn ks ds,.tup es,v=>match nkD (.tup es) with
  | some k=>if ks.length<100000/\k.dep<=8 then some (.dn (zcz ks k) (zao ks ds k v)) else none
  | none=>none
 | _,_,_=>none
theorem zft {K:Frag}:zwm K dSetN zri:=by
 intro H0 H a d d' dk dv y v Q s h0 ob rk rv hm k
 cases d<;>simp only [dSetN] at hm<;>first | cases hm | skip
 cases dk<;>simp only [dSetN] at hm<;>first | cases hm | skip
 rename_i ks ds es
 split at hm
 . rename_i kk hkk
   split at hm
   . rename_i hl
     cases hm
     simp only [OB] at ob
     obtain ⟨qs,xs,ob0,hx,hk,n,rx⟩:=ob
     have rk':=rk
     obtain ⟨b,ys,rfl,hb,rb⟩:=rk.tup
     have nk:=zfo hkk rk'
     have hlen:qs.length=ks.length:=by rw [<-hk,List.length_map]
     have mono:∀a ys,H0 a=some (.tup ys)->H a=some (.tup ys):=fun c ys q=>s _ _ q
     refine ⟨a,qs,xs,kk,b,ob0,rfl,rfl,hx,n.tk mono,NKr.mono mono nk,hl.2,by rw [hlen];exact z4t hl.1,fun ob'=>k _ ?_⟩
     simp only [OB]
     refine ⟨_,_,ob',z0r,?_,?_,by rw [hk];exact zlk kk rv rx⟩
     . unfold putQ zcz
       rw [hk]
       split
       . exact hk
       . rw [List.map_append,hk];rfl
     . obtain ⟨n1,n2,n3,n4⟩:=n
       unfold putQ
       split
       . exact ⟨n1,n2,n3,n4⟩
       . rename_i hn
         refine ⟨?_,fun q hq=>?_,n3,?_⟩
         . rw [List.map_append,List.map_cons,List.map_nil]
           exact List.nodup_append.mpr ⟨n1,by simp,fun x hx y hy e=>hn (by rw [List.mem_singleton.mp hy] at e;have e':x=kk:=e;rw [<-e'];exact hx)⟩
         . rcases List.mem_append.mp hq with z | z
           . exact n2 q z
           . rw [List.mem_singleton.mp z];exact ⟨nk,hl.2⟩
         . have:=z4t hl.1
           rw [List.length_append,List.length_singleton];omega
   . cases hm
 . cases hm
section
variable {X:Cx} {EX:XW} {fr:Bool} {m:List Bool} {pos:Pos} {e:Expr} {fk fv:DE->R D}
theorem zfu {i:Nat} {o ix:Expr} {tpos:Pos} (hu:X.A.units+64<cLine) (ho:PE X o (zag i)) (hk:QE X EX false ix fk) (hv:QE X EX false e fv)
 (ha:∀v,assign (.Subscript o ix tpos) X.env v=(do
  let ov <-holding [v] (eval o X.env)
  let iv <-holding [v,ov] (eval ix X.env)
  standAt tpos
  holding [v,ov,iv] (setItem ov iv v)
  release [v,ov,iv] []):=by intro _;rfl) (hs:swapsWithSole [.Subscript o ix tpos] e pos.line X.env=pure false:=by rfl) (hw:swappedStores [.Subscript o ix tpos] e X.env=pure none:=by rfl)
 (h1:(assignEach [.Subscript o ix tpos] X.env).map (·.2)=[assign (.Subscript o ix tpos) X.env]:=by rfl):QS X EX fr (.Assign [.Subscript o ix tpos] e pos) (zh6 dSetN i m fk fv):=⟨(zj5 hv.h (zj4 ho hk.h (zrj hu) ha) hs hw h1).imp fun _ _ _ q=>zp8 zft q⟩
noncomputable def z9q:DE->R D:=fun _=>.ok (.dn [] [])
theorem pe_dnewN:PE X (.Dict [] [] pos) (fun _ H Q=>∀p ob,H p=none->(p==sysModules)=false->Q (.ref p) (upd H p (.ext (dnP p [] [] ob)))):=fun pins s σ H Q I h=>
 wpAny_Dict_empty ⟨.ref s.heap.objs.size,_,I.laid (a:=s.heap.objs.size) (o:=.ext (dnP s.heap.objs.size [] [] { cls:=.type "dict",data:=.dict #[] })) (t':=s.toks) (fun _ _ q=>Heap.get?_push_of_some _ q) (Nat.le_refl _) ⟨⟨Heap.get?_push_size _ rfl,[],#[],0,.nil,rfl,⟨rfl,rfl,rfl⟩,rfl,rfl⟩,⟨_,Heap.get?_push_size _ rfl⟩,dnP.stay⟩,rfl,h _ _ (I.hok.fresh (Nat.le_refl _)) (beq_eq_false_iff_ne.mpr (Ne.symm (Nat.ne_of_lt I.big)))⟩
theorem zfv:QE X EX true (.Dict [] [] pos) z9q:=⟨pe_dnewN.imp fun σ H Q ⟨sx,ρ,H0,s,e,h⟩ p ob hp hq=>h _ _ (.new s hp fun H' hH=>by simp only [OB];exact ⟨[],[],ob,hH,rfl,⟨List.nodup_nil,fun q hq=>(by simp at hq),hq,Nat.zero_le _⟩,.nil⟩)⟩
end
def zax (i j:Int):Prop:=Builtin.Int.intBits i<=2 ^ 20/\Builtin.Int.intBits j<=2 ^ 20
instance (i j:Int):Decidable (zax i j):=by unfold zax;infer_instance
noncomputable def z5h:D->D->Option D:=dIC zax fun i j=>.int (i * j)
theorem z3a {K:Frag}:OpD K false z5h (cIC zax fun i j=>.int (i * j)):=zey fun _ _ _=>.mkInt _
theorem op_mulG {X:Cx}:OpR X (binaryOp .Mult) (rI zax fun i j=>.int (i * j)):=opI fun _ _ _ _ _ _ _ hc q=>mul_int q (IntMulOk.of_bits hc.1 hc.2)
theorem z4z {X:Cx}:OpR X (binaryOp .Mult) (cIC zax fun i j=>.int (i * j)):=op_mulG.cIC
theorem z8i {i j:Int} (hi:Builtin.Int.intBits i<=2 ^ 20) (hj:Builtin.Int.intBits j<=2 ^ 20):z5h (.int i) (.int j)=some (.int (i * j)):=by
 unfold z5h;rw [z49,if_pos (show zax i j from ⟨hi,hj⟩)]
section
open PySem.SeqAt
open PySem.AutoSeq1 (wpAny_loadPart')
open PySem.MeetsSeq PySem.MeetsSeq2 PySem.MeetsSeq3
end
end L2
namespace L2
open PySem PySem.Spec PyProof.Rows
noncomputable def z1i (es:Array DictEntry) (ep:Nat):Obj:={ cls:=.type "dict",data:=.dict es ep }
section
open PySem.SeqAt
open PySem.AutoSeq1 (wpAny_loadPart')
end
mutual
noncomputable def z5i:NK->D
 | .i n=>.int n
 | .t ks=>.tup (z7p ks)
noncomputable def z7p:List NK->List D
 | []=>[]
 | k::ks=>z5i k::z7p ks
end
mutual
theorem zrk {K:Frag} {H:Hp}:∀{k:NK} {x:V},NKr H k x->RD K H (z5i k) x
 | .i n,x,h=>by simp only [NKr] at h;subst h;simp only [z5i,RD]
 | .t ks,x,h=>by
  simp only [NKr] at h
  obtain ⟨a,xs,rfl,ha,hs⟩:=h
  simp only [z5i,RD]
  exact ⟨a,xs,rfl,ha,zk4 hs⟩
theorem zk4 {K:Frag} {H:Hp}:∀{ks:List NK} {xs:List V},NKrs H ks xs->RDs K H (z7p ks) xs
 | [],xs,h=>by simp only [NKrs] at h;subst h;simp only [z7p,RDs]
 | k::ks,xs,h=>by
  simp only [NKrs] at h
  obtain ⟨x,r,rfl,h1,h2⟩:=h
  simp only [z7p,RDs]
  exact ⟨x,r,rfl,zrk h1,zk4 h2⟩
end
end L2
namespace L2
open PySem PySem.Spec PyProof.Rows
noncomputable def z9r (a b:Value):Obj:={ cls:=.type "tuple",data:=.seq #[a,b] }
section
open PySem.SeqAt
open PySem.AutoSeq1 (wpAny_loadPart')
end
end L2
namespace L2
open PySem PySem.Spec PyProof.Rows
section
variable {hp:Heap} {z TI TO i1 i2 l1 l2:Addr} {a b x y:Value} {k:Nat}
theorem z8j {h:Heap} {c e:Addr} {f:Obj->Obj} (n:c≠e):(h.update e f).get? c=h.get? c:=Heap.get?_update_ne _ _ _ _ n
end
section
open PySem.SeqAt
open PySem.AutoSeq1 (wpAny_loadPart')
end
end L2
namespace L2
open PySem PySem.Spec PyProof.Rows
noncomputable def LL (nss:List (List Int)):D:=.lst (nss.map L)
section
open PySem.SeqAt
open PySem.AutoSeq1 (wpAny_loadPart')
end
section
open PySem.SeqAt
open PySem.AutoSeq1 (wpAny_loadPart')
end
end L2
namespace L2
open PySem PySem.Spec PyProof.Rows
def zvl (i j:Int):Prop:=0<j/\j.natAbs<2 ^ 9000
noncomputable instance (i j:Int):Decidable (zvl i j):=Classical.propDecidable _
noncomputable def z28 (d:Addr):Obj:={ cls:=.type "dict_items",data:=.fields #[.ref d] }
noncomputable def z0s (f0:Value) (d:Addr) (i n ep:Nat) (ok ov:Value):Obj:={ cls:=.type "dict_itemiterator",data:=.fields #[f0,.bool false,.ref d,.int i 0,.int n 0,.int ep 0,ok,ov] }
noncomputable def itH (hp:Heap) (it:Addr) (i:Nat) (k v:Value):Heap:=
 (((((hp.update it (Obj.mapFields (·.setIfInBounds (2+1) (rawInt ((i:Int)+1))))).push (z9r k v)).update it (Obj.mapFields (·.setIfInBounds 6 k))).update it (Obj.mapFields (·.setIfInBounds (6+1) v))).update it (Obj.mapFields (·.setIfInBounds 0 (rawInt hp.objs.size)))).update it (Obj.mapFields (·.setIfInBounds 1 (.bool false)))
theorem zrl {hp:Heap} {it d:Addr} {i n ep:Nat} {ok ov k v:Value} (hl:hp.get? it=some (z0s .none d i n ep ok ov)) :
  (itH hp it i k v).get? it=some (z0s (rawInt hp.objs.size) d (i+1) n ep k v)/\(itH hp it i k v).get? hp.objs.size=some (z9r k v)/\∀c o,c≠it->hp.get? c=some o->(itH hp it i k v).get? c=some o:=by
 have e1:(hp.update it (Obj.mapFields (·.setIfInBounds (2+1) (rawInt ((i:Int)+1))))).get? it=some (z0s .none d (i+1) n ep ok ov):=by
  rw [Heap.get?_update_self _ hl rfl]
  simp [z0s,Obj.mapFields,rawInt]
 have s1:(hp.update it (Obj.mapFields (·.setIfInBounds (2+1) (rawInt ((i:Int)+1))))).objs.size=hp.objs.size:=Heap.size_update ..
 have k1:∀c o,c≠it->hp.get? c=some o->(hp.update it (Obj.mapFields (·.setIfInBounds (2+1) (rawInt ((i:Int)+1))))).get? c=some o:=fun c o n e=>by rw [z8j n];exact e
 have ne:hp.objs.size≠it:=Nat.ne_of_gt (Heap.lt_size hl)
 unfold itH
 generalize hp.update it (Obj.mapFields (·.setIfInBounds (2+1) (rawInt ((i:Int)+1))))=H1 at *
 have e2:(H1.push (z9r k v)).get? it=some (z0s .none d (i+1) n ep ok ov):=Heap.get?_push_of_some _ e1
 have t2:(H1.push (z9r k v)).get? hp.objs.size=some (z9r k v):=by rw [<-s1];exact Heap.get?_push_size _ rfl
 have e3:((H1.push (z9r k v)).update it (Obj.mapFields (·.setIfInBounds 6 k))).get? it=some (z0s .none d (i+1) n ep k ov):=by rw [Heap.get?_update_self _ e2 rfl];rfl
 have e4:(((H1.push (z9r k v)).update it (Obj.mapFields (·.setIfInBounds 6 k))).update it (Obj.mapFields (·.setIfInBounds (6+1) v))).get? it=some (z0s .none d (i+1) n ep k v):=by rw [Heap.get?_update_self _ e3 rfl];rfl
 have e5:((((H1.push (z9r k v)).update it (Obj.mapFields (·.setIfInBounds 6 k))).update it (Obj.mapFields (·.setIfInBounds (6+1) v))).update it (Obj.mapFields (·.setIfInBounds 0 (rawInt hp.objs.size)))).get? it=some (z0s (rawInt hp.objs.size) d (i+1) n ep k v):=by rw [Heap.get?_update_self _ e4 rfl];rfl
 refine ⟨by rw [Heap.get?_update_self _ e5 rfl];rfl,by rw [z8j ne,z8j ne,z8j ne,z8j ne];exact t2,fun c o n e=>?_⟩
 rw [z8j n,z8j n,z8j n,z8j n]
 exact Heap.get?_push_of_some _ (k1 c o n e)
section
open PySem.SeqAt
open PySem.AutoSeq1 (wpAny_loadPart')
theorem zmm (d:Addr) (es:Array DictEntry) (ep:Nat) (hd:(d==sysModules)=false) :
  Meets (Builtin.«dict.items» ⟨[.ref d],[]⟩) (fun _ R s=>s.heap.get? d=some (z1i es ep)/\R (.ok (.ret (.ref s.heap.objs.size))) { s with heap:=s.heap.push (z28 d) }):=
 .of_wp fun prog w A R s h=>by
  obtain ⟨hp,g,dr,tk,os⟩:=s;obtain ⟨hl,h⟩:=h
  unfold z1i at hl
  wp_walk using wpAny_loadPart' hl
  exact ⟨_,rfl,h⟩
theorem zia (v d:Addr) (es:Array DictEntry) (ep:Nat) :
  Meets (Builtin.«dict_items.__iter__» ⟨[.ref v],[]⟩) (fun _ R s=>s.heap.get? v=some (z28 d)/\s.heap.get? d=some (z1i es ep)/\R (.ok (.ret (.ref s.heap.objs.size))) { s with heap:=s.heap.push (z0s .none d 0 es.size ep .none .none) }):=
 .of_wp fun prog w A R s h=>by
  obtain ⟨hp,g,dr,tk,os⟩:=s;obtain ⟨hl,hd,h⟩:=h
  unfold z1i at hd
  unfold z28 at hl
  wp_walk using wpAny_loadPart' hl,wpAny_loadPart' hd
  exact ⟨_,rfl,h⟩
theorem zib (it d:Addr) (es:Array DictEntry) (ep i:Nat) (ok ov:Value) (hi:i<es.size) :
  Meets (Builtin.«dict_itemiterator.__next__» ⟨[.ref it],[]⟩) (fun _ R s=>s.heap.get? it=some (z0s .none d i es.size ep ok ov)/\s.heap.get? d=some (z1i es ep) /\
   R (.ok (.ret (.ref s.heap.objs.size))) { s with heap:=itH s.heap it i es[i].key es[i].val }):=
 .of_wp fun prog w A R s h=>by
  obtain ⟨hp,g,dr,tk,os⟩:=s;obtain ⟨hl,hd,h⟩:=h
  unfold z1i at hd
  unfold z0s at hl
  have hsz:(((es.size:Int) != (es.size:Int))=true)=False:=by simp
  have hep:(((ep:Int) != (ep:Int))=true)=False:=by simp
  have hat:(if (i:Int)<0 then none else es[((i:Nat):Int).toNat]?)=some es[i]:=by rw [if_neg (by omega)];simp [hi]
  wp_walk using wpAny_loadPart' hl,wpAny_loadPart' hd
  rw [hat]
  wp_walk using wpAny_loadPart' hl,wpAny_loadPart' hd
  have hown:Builtin.Dict_items.ownsTuple ((Manifest.find? "dict_itemiterator").elim "dict_itemiterator" fun x=>x.tpName)=true:=by decide +kernel
  refine ⟨_,rfl,?_⟩
  rw [if_pos hown,if_neg (by decide +kernel),Heap.size_update]
  exact h
theorem zmn (it d:Addr) (es:Array DictEntry) (ep i:Nat) (ok ov:Value) (hi:es.size<=i) :
  Meets (Builtin.«dict_itemiterator.__next__» ⟨[.ref it],[]⟩) (fun A R s=>s.heap.get? it=some (z0s .none d i es.size ep ok ov)/\s.heap.get? d=some (z1i es ep)/\A.in1.handled=none /\
   ∀h' e,(∀c o,c≠it->s.heap.get? c=some o->h'.get? c=some o)->(∃o,h'.get? e=some o/\o.cls=.type "StopIteration")->R (.error (.ref e)) { s with heap:=h' }):=
 .of_wp fun prog w A R s h=>by
  obtain ⟨hp,g,dr,tk,os⟩:=s;obtain ⟨hl,hd,hh,h⟩:=h
  unfold z1i at hd
  unfold z0s at hl
  have hsz:(((es.size:Int) != (es.size:Int))=true)=False:=by simp
  have hep:(((ep:Int) != (ep:Int))=true)=False:=by simp
  have hat:(if (i:Int)<0 then none else es[((i:Nat):Int).toNat]?)=none:=by rw [if_neg (by omega)];simp [hi]
  wp_walk using wpAny_loadPart' hl,wpAny_loadPart' hd
  rw [hat]
  wp_walk using wpAny_loadPart' hl,wpAny_loadPart' hd
  unfold raiseNew
  refine wpAny_bind (wpAny_handled ?_)
  rw [hh]
  refine wpAny_bind (wpAny_pure (wpAny_throw (h _ _ (fun c o hc e=>?_) ⟨_,Heap.get?_push_size _ rfl,rfl⟩)))
  refine Heap.get?_push_of_some _ (Heap.get?_push_of_some _ ?_)
  rw [Heap.get?_update_ne _ _ _ _ hc]
  exact e
end
end L2
namespace L2
open PySem PySem.Spec PyProof.Rows
section
variable {prog:Program} {w:World} {A:Around} {E:Value->Shared->Prop} {s:Shared} {d it v:Addr} {es:Array DictEntry} {ep i:Nat} {ok ov:Value}
theorem z9s:entryFor table "dict_itemiterator.__iter__"=some Builtin.«dict_keyiterator.__iter__»:=entryFor_alias (id':="dict_keyiterator.__iter__") (by kernel_rfl) rfl (by decide +kernel) (by kernel_rfl)
theorem zd9 {Q:Value->Shared->Prop} (hit:s.heap.get? it=some (z0s .none d i es.size ep ok ov)) (h:Q (.ref it) s):wpAny (model prog w) A (pyIter (.ref it)) Q E s:=by
 refine wpAny_pyIter_slot ⟨_,hit,rfl⟩ F.slot_dict_itemiterator_iter (wpAny_call_entry F.slot_dict_itemiterator_iter ⟨_,hit,rfl⟩ z9s ?_ (F.args_dict_itemiterator_iter_1 _))
 show wpAny _ _ (ret (.ref it)) _ _ s
 exact wpAny_pure ⟨_,rfl,"dict_itemiterator",_,⟨_,hit,rfl⟩,F.slot_dict_itemiterator_next.lookup,h⟩
theorem zda {Q:Value->Shared->Prop} (hv:s.heap.get? v=some (z28 d)) (hm:s.heap.get? d=some (z1i es ep)) (hQ:Q (.ref s.heap.objs.size) { s with heap:=s.heap.push (z0s .none d 0 es.size ep .none .none) }) :
  wpAny (model prog w) A (pyIter (.ref v)) Q E s:=
 wpAny_pyIter_slot ⟨_,hv,rfl⟩ F.slot_dict_items_iter (call_meets F.slot_dict_items_iter ⟨_,hv,rfl⟩ F.entry_dict_items_iter (F.args_dict_items_iter_1 _) (zia v d es ep)
  ⟨hv,hm,⟨"dict_itemiterator",_,⟨_,Heap.get?_push_size _ rfl,rfl⟩,F.slot_dict_itemiterator_next.lookup,hQ⟩⟩)
theorem zdb {Q:Option Value->Shared->Prop} (hit:s.heap.get? it=some (z0s .none d i es.size ep ok ov)) (hm:s.heap.get? d=some (z1i es ep)) (hi:i<es.size)
  (hQ:Q (some (.ref s.heap.objs.size)) { s with heap:=itH s.heap it i es[i].key es[i].val }):wpAny (model prog w) A (pyNext (.ref it)) Q E s:=by
 unfold pyNext
 exact wpAny_bind (wpAny_attempt (wpAny_callSpecial?_slot (name:=Str.ofString "__next__") ⟨_,hit,rfl⟩ F.slot_dict_itemiterator_next
  (call_meets F.slot_dict_itemiterator_next ⟨_,hit,rfl⟩ F.entry_dict_itemiterator_next (F.args_dict_itemiterator_next_1 _) (zib it d es ep i ok ov hi) ⟨hit,hm,wpAny_pure hQ⟩)))
theorem zfw {Q:Option Value->Shared->Prop} (hh:A.handled=none) (hit:s.heap.get? it=some (z0s .none d i es.size ep ok ov)) (hm:s.heap.get? d=some (z1i es ep)) (hi:es.size<=i)
  (hQ:∀h',(∀c o,c≠it->s.heap.get? c=some o->h'.get? c=some o)->Q none { s with heap:=h' }):wpAny (model prog w) A (pyNext (.ref it)) Q E s:=by
 unfold pyNext
 refine wpAny_bind (wpAny_attempt (wpAny_callSpecial?_slot (name:=Str.ofString "__next__") ⟨_,hit,rfl⟩ F.slot_dict_itemiterator_next
  (call_meets F.slot_dict_itemiterator_next ⟨_,hit,rfl⟩ F.entry_dict_itemiterator_next (F.args_dict_itemiterator_next_1 _) (zmn it d es ep i ok ov hi) ⟨hit,hm,hh,fun h' e kp he=>?_⟩)))
 obtain ⟨o,ho,hc⟩:=he
 exact wpAny_bind (wpAny_isInstance (T:="StopIteration") (b:=true) ⟨o,ho,hc⟩ isSubtype_stop (wpAny_pure (hQ h' kp)))
end
theorem z7q {X:Cx} {pins:List (Addr×Obj)} {σ:St} {H:Hp} {s:Shared} (I:Inv X pins σ H s) {a:Addr} {qs:List (NK×Addr)} {xs:List V} {ob:Obj} (e:H a=some (.ext (dnP a qs xs ob))) (n:DN H a qs) :
  ∃vs es ep,ob=z1i es ep/\s.heap.get? a=some (z1i es ep)/\Vals xs vs/\qs.length=vs.length/\es.toList=(z3 qs vs).map dnE:=by
 obtain ⟨g0,vs,p1,p2,o,es,ep,d1,d2,d3,d4,_⟩:=zaw I e n
 rw [g0] at d1;cases d1
 have eo:ob=z1i es ep:=by
  obtain ⟨cl,di,da,sl⟩:=ob
  obtain ⟨q1,q2,q3⟩:=d2
  simp only at q1 q2 q3 d3
  subst q1 q2 q3 d3
  rfl
 exact ⟨vs,es,ep,eo,by rw [g0,eo],p1,p2,d4⟩
theorem zc4 {es es':Array DictEntry} {ep ep':Nat} (h:z1i es ep=z1i es' ep'):es=es'/\ep=ep':=by
 unfold z1i at h
 injection h with _ _ h
 injection h with h1 h2
 exact ⟨h1,h2⟩
theorem zdc {P:Program} {w:World} {K:Frag} {elts:List Expr} {k:Nat} {pos:Pos} {it d:Addr} {qs:List (NK×Addr)} {ys:List V} {es:Array DictEntry} {ep:Nat} (hl:qs.length=ys.length) (hes:es.size=qs.length) :
  Turn P w K (.Tuple elts k pos) (ItP (fun H=>H d=some (.ext (dnP d qs ys (z1i es ep)))/\DN H d qs) ((qs.map fun q=>V.ref q.2).zip ys)) [it] it
   (fun i h=>∃ok ov,h.get? it=some (z0s .none d i es.size ep ok ov)) where
 mem:=by simp
 obj:=fun i h ⟨ok,ov,hz⟩ c hc=>by
  have hc':c=it:=by simpa using hc
  subst hc';exact ⟨_,hz,fun v e=>by cases e⟩
 keep:=fun i h h' ⟨ok,ov,hz⟩ kp=>⟨ok,ov,kp it (by simp) _ hz⟩
 item:=by
  intro X hP hw hK hc i pins s σ H E I hf st hg
  subst hP hw hK
  obtain ⟨⟨hS,n⟩,hlt⟩:=hg
  obtain ⟨ok,ov,hz⟩:=st
  obtain ⟨vs,es',ep',eo,ed,p1,p2,d4⟩:=z7q I hS n
  obtain ⟨rfl,rfl⟩:=zc4 eo
  rw [List.length_zip,List.length_map] at hlt
  have hi:i<es.size:=by omega
  have hiq:i<qs.length:=by omega
  obtain ⟨y,ey⟩:∃y,ys[i]?=some y:=⟨ys[i]'(by omega),by simp⟩
  obtain ⟨u,hu,ru⟩:=p1.get ey
  have hz3:(z3 qs vs)[i]?=some (qs[i].1,qs[i].2,u):=by
   unfold z3
   have hzz:(qs.zip vs)[i]?=some (qs[i],u):=List.getElem?_zip_eq_some.mpr ⟨List.getElem?_eq_getElem hiq,hu⟩
   rw [List.getElem?_map,hzz];rfl
  have he:es[i]=dnE (qs[i].1,qs[i].2,u):=by
   have h1:es.toList[i]?=some (dnE (qs[i].1,qs[i].2,u)):=by rw [d4,List.getElem?_map,hz3];rfl
   rw [Array.getElem?_toList,Array.getElem?_eq_getElem hi] at h1
   exact Option.some.inj h1
  obtain ⟨f1,f2,f3⟩:=zrl (k:=es[i].key) (v:=es[i].val) hz
  refine zdb hz ed hi ⟨.ref s.heap.objs.size,rfl,?_⟩
  generalize itH s.heap it i es[i].key es[i].val=HF at f1 f2 f3
  rw [he] at f1 f2
  refine wpAny_letOwnedTupleGo_items f1 fun h' hz' hs'=>?_
  have nT:s.heap.objs.size≠it:=Nat.ne_of_gt (Heap.lt_size hz)
  have up:∀{c o},c≠it->HF.get? c=some o->h'.get? c=some o:=fun n e=>hs'.extBut _ _ n e
  have ht:h'.IsTuple s.heap.objs.size ([Value.ref qs[i].2,u]:List Value).toArray:=⟨_,up nT f2,rfl,_,rfl⟩
  have sub:∀c∈[it],zac X pins H c:=hf
  have I2:=I.turnedT (tk:=s.toks) (h':=h') (xs:=[V.ref qs[i].2,y]) (its:=[Value.ref qs[i].2,u]) sub (fun c o hcw e=>by
   have hc':c≠it:=by simpa using hcw
   exact up hc' (f3 c o hc' e)) (Nat.le_refl _) ht (.cons rfl (.cons ru .nil)) zj8
  have HT:H s.heap.objs.size=none:=I.hok.fresh (Nat.le_refl _)
  refine ⟨.ref s.heap.objs.size,upd H s.heap.objs.size (.tup [V.ref qs[i].2,y]),I2,rfl,⟨s.heap.objs.size,_,_,rfl,HT,rfl,?_⟩,⟨_,_,hz'⟩,fun c hc'=>?_⟩
  . rw [List.getElem?_zip_eq_some]
    exact ⟨by rw [List.getElem?_map,List.getElem?_eq_getElem hiq];rfl,ey⟩
  . rw [z0a]
    . exact (hf c hc').1
    . intro e
      have hc'':c=it:=by simpa using hc'
      rw [hc''] at e
      exact nT e.symm
 done:=by
  intro X hP hw hK hc i pins s σ H E I hf st hg
  subst hP hw hK
  obtain ⟨⟨hS,n⟩,hle⟩:=hg
  obtain ⟨ok,ov,hz⟩:=st
  obtain ⟨vs,es',ep',eo,ed,p1,p2,d4⟩:=z7q I hS n
  obtain ⟨rfl,rfl⟩:=zc4 eo
  rw [List.length_zip,List.length_map] at hle
  refine zfw (I.ok.hd hc) hz ed (by omega) fun h' kp=>⟨rfl,?_⟩
  exact I.turnedN (tk:=s.toks) (wr:=[it]) hf fun c o hcw e=>kp c o (by simpa using hcw) e
 self:=fun A i s Q E ⟨ok,ov,st⟩ h=>zd9 st h
noncomputable def zrm (td:TE):TI:=fun σ H R=>td σ H fun x H1=>∃(a:Addr) (qs:List (NK×Addr)) (ys:List V) (ob:Obj),x=.ref a/\H1 a=some (.ext (dnP a qs ys ob))/\DN H1 a qs/\qs.length=ys.length /\
 R (ItP (fun H=>H a=some (.ext (dnP a qs ys ob))/\DN H a qs) ((qs.map fun q=>V.ref q.2).zip ys)) H1
section
variable {X:Cx} {o:Expr} {td:TE} {apos cpos tpos:Pos} {elts:List Expr} {k:Nat}
theorem zic (ho:PE X o td) (hbase:attributeBase o "items" X.env (eval o X.env)=eval o X.env:=by rfl) (hline:(apos.endLine==cpos.line)=true:=by rfl) :
  PI X (.Tuple elts k tpos) (.Call (.Attribute o "items" apos) [] [] cpos) (zrm td):=by
 intro pins s σ H R I h
 refine wpAny_Call_method0_late hbase hline (thn (ho pins s σ H _ I h) fun u s1 ⟨x,H1,I1,r1,a,qs,ys,ob,ex,e,n,hlq,q⟩=>?_)
 subst ex
 cases r1
 obtain ⟨vs,es,ep,rfl,ed,p1,p2,d4⟩:=z7q I1 e n
 have hsz:es.size=qs.length:=by rw [<-Array.length_toList,d4,List.length_map,zfr qs vs p2]
 refine ⟨"dict","dict.items",PySem.F.plainAttrs_dict,PySem.F.slot_dict_items,PySem.F.type_dict_items,⟨_,ed,rfl⟩,fun b eb=>?_,Calls.callWith_builtin rfl (PySem.evalArgs_none ?_)⟩
 . cases eb;exact ⟨_,ed,rfl⟩
 . refine call_meets F.slot_dict_items ⟨_,ed,rfl⟩ F.entry_dict_items (F.args_dict_items_1 _) (zmm a es ep n.2.2.1) ⟨ed,?_⟩
   have kp:∀c o,s1.heap.get? c=some o->(s1.heap.push (z28 a)).get? c=some o:=fun c o e=>Heap.get?_push_of_some _ e
   refine zda (s:={ s1 with heap:=s1.heap.push (z28 a) }) (Heap.get?_push_size _ rfl) (kp _ _ ed) ?_
   have I2:Inv X pins σ H1 { s1 with heap:=s1.heap.push (z28 a) }:=I1.kept (t':=s1.toks) kp
   have kp2:∀c o,(s1.heap.push (z28 a)).get? c=some o->((s1.heap.push (z28 a)).push (z0s .none a 0 es.size ep .none .none)).get? c=some o:=fun c o e=>Heap.get?_push_of_some _ e
   have I3:=I2.kept (t':=s1.toks) kp2
   refine ⟨(s1.heap.push (z28 a)).objs.size,[(s1.heap.push (z28 a)).objs.size],_,_,H1,rfl,I3,zdc hlq hsz,⟨_,_,Heap.get?_push_size _ rfl⟩,fun c hc=>?_,q⟩
   have hc':c=(s1.heap.push (z28 a)).objs.size:=by simpa using hc
   rw [hc']
   exact I2.fpOk (Nat.le_refl _) (I2.hok.fresh (Nat.le_refl _))
end
noncomputable def zk5 (f:DE->R D):DE->R (List D):=fun ρ=>(f ρ).bind fun d=>match d with
 | .dn ks ds=>if ks.length=ds.length then .ok ((ks.zip ds).map fun p=>D.tup [z5i p.1,p.2]) else .st
 | _=>.st
theorem zfx {K:Frag} {H0:Hp}:∀{qs:List (NK×Addr)},(∀q∈qs,NKr H0 q.1 (.ref q.2))->RDs K H0 (qs.map fun q=>z5i q.1) (qs.map fun q=>V.ref q.2)
 | [],_=>.nil
 | q::qs,h=>.cons (zrk (h q (by simp))) (zfx fun p hp=>h p (by simp [hp]))
theorem zfy {X:Cx} {EX:XW} {elts:List Expr} {k:Nat} {o:Expr} {apos cpos tpos:Pos} {f:DE->R D} (ho:QE X EX false o f) (hbase:attributeBase o "items" X.env (eval o X.env)=eval o X.env:=by rfl) (hline:(apos.endLine==cpos.line)=true:=by rfl) :
  QI X EX false (.Tuple elts k tpos) (.Call (.Attribute o "items" apos) [] [] cpos) (zk5 f):=⟨(zic ho.h hbase hline).imp fun σ H Q ⟨sx,ρ,H0,s,e,h⟩=>by
 unfold zk5 at h
 rw [Rk.bind] at h
 refine TEd.go sx s e h fun d h v H1 H1' s1 e1 r1=>?_
 split at h
 . rename_i ks ds
   split at h
   . rename_i hl
     simp only [RD] at r1
     obtain ⟨a,qs,ys,ob,rfl,h1,hk,n,ra⟩:=r1
     have mono:∀b zs,H1' b=some (.tup zs)->H1 b=some (.tup zs):=fun b zs q=>e1.2.1 _ _ q
     have hq:qs.length=ys.length:=by rw [<-ra.length,<-hl,<-hk,List.length_map]
     refine ⟨a,qs,ys,ob,rfl,e1.2.1 _ _ h1,n.tk mono,hq,h _ H1 H1' s1 e1 ?_⟩
     rw [show (ks.zip ds).map (fun p=>D.tup [z5i p.1,p.2])=((qs.map fun q=>z5i q.1).zip ds).map fun p=>D.tup [p.1,p.2] by
      rw [<-hk,List.zip_map_left,List.zip_map_left,List.map_map,List.map_map];rfl]
     exact zjk (fun H s=>⟨s _ _ h1,n.tk fun b zs q=>s _ _ q⟩) (zfx fun q hq=>(n.2.1 q hq).1) ra
   . exact h.elim
 . exact h.elim⟩
noncomputable def valN {α:Type} (ks:List NK) (xs:List α) (k:NK):Option α:=((ks.zip xs).find? fun p=>decide (p.1=k)).map (·.2)
theorem zc5 {k:NK} {z:V} {u:Value} (rz:RelV z u):∀{qs:List (NK×Addr)} {xs:List V} {vs:List Value},Vals xs vs->qs.length=vs.length->RelV ((valN (qs.map (·.1)) xs k).getD z) (((atKey (z3 qs vs) k).map (·.2)).getD u)
 | [],xs,vs,r,hl=>by
  have:vs=[]:=List.eq_nil_of_length_eq_zero (by simpa using hl.symm)
  subst this
  exact rz
 | q::qs,_,_,.nil,hl=>by simp at hl
 | q::qs,_,_,.cons (a:=x) (b:=v) (l₁:=xs) (l₂:=vs) r rr,hl=>by
  have ih:=zc5 (k:=k) rz (qs:=qs) rr (by simpa using hl)
  by_cases h:q.1=k
  . have e1:valN ((q::qs).map (·.1)) (x::xs) k=some x:=by
     unfold valN
     rw [List.map_cons,List.zip_cons_cons,List.find?_cons_of_pos (by simpa using h)];rfl
    have e2:atKey (z3 (q::qs) (v::vs)) k=some (q.2,v):=by
     show ((z3 (q::qs) (v::vs)).find? fun x=>decide (x.1=k)).map (·.2)=_
     unfold z3
     rw [List.zip_cons_cons,List.map_cons,List.find?_cons_of_pos (by simpa using h)];rfl
    rw [e1,e2];exact r
  . have e1:valN ((q::qs).map (·.1)) (x::xs) k=valN (qs.map (·.1)) xs k:=by
     unfold valN
     rw [List.map_cons,List.zip_cons_cons,List.find?_cons_of_neg (by simpa using h)]
    have e2:atKey (z3 (q::qs) (v::vs)) k=atKey (z3 qs vs) k:=by
     show ((z3 (q::qs) (v::vs)).find? fun x=>decide (x.1=k)).map (·.2)=((z3 qs vs).find? fun x=>decide (x.1=k)).map (·.2)
     unfold z3
     rw [List.zip_cons_cons,List.map_cons,List.find?_cons_of_neg (by simpa using h)]
    rw [e1,e2];exact ih
noncomputable def zrn (td ty tx:TE):TE:=fun σ H Q=>td σ H fun x H1=>∃(a:Addr) (qs:List (NK×Addr)) (xs:List V) (ob:Obj),x=.ref a/\H1 a=some (.ext (dnP a qs xs ob))/\DN H1 a qs/\ty σ H1 fun y H2=>tx σ H2 fun z H3=>
 ∃(k:NK) (b:Addr),y=.ref b/\H3 a=some (.ext (dnP a qs xs ob))/\DN H3 a qs/\NKr H3 k (.ref b)/\k.dep<=8/\Q ((valN (qs.map (·.1)) xs k).getD z) H3
section
variable {X:Cx} {o e f:Expr} {td ty tx:TE} {apos cpos:Pos}
theorem zmo (hu:X.A.units+64<cLine) (ho:PE X o td) (he:PE X e ty) (hf:PE X f tx) (m:M2 X o "get" apos e f cpos):PE X (.Call (.Attribute o "get" apos) [e,f] [] cpos) (zrn td ty tx):=by
 intro pins s σ H Q I h
 refine wpAny_Call_method m.base m.few m.line PySem.F.plainAttrs_dict PySem.F.slot_dict_get PySem.F.type_dict_get (thn (ho pins s σ H _ I h) fun u s1 ⟨x,H1,I1,rx,a,qs,xs,ob,ex,e1,n1,q1⟩=>?_)
 subst ex
 obtain rfl:u=Value.ref a:=rx
 obtain ⟨_,es,ep,_,ed,_⟩:=z7q I1 e1 n1
 refine ⟨⟨_,ed,rfl⟩,fun b eb=>?_,?_⟩
 . cases eb;exact ⟨_,ed,rfl⟩
 rw [m.trees]
 refine Calls.callWith_builtin rfl (Calls.evalArgs_plain (Calls.spliced_cons (thn (he pins s1 σ H1 _ I1 q1) fun iv s2 ⟨y,H2,I2,ry,q2⟩=>
  Calls.spliced_cons (thn (hf pins s2 σ H2 _ I2 q2) fun fv s3 ⟨z,H3,I3,rz,k,b,ey,e3,n3,hk,hd,q3⟩=>Calls.spliced_nil ?_))))
 subst ey
 cases ry
 obtain ⟨_,vs,p1,p2,dd⟩:=zaw I3 e3 n3
 exact call_meetsIn PySem.F.slot_dict_get dd.typeIs PySem.F.entry_dict_get (PySem.F.args_dict_get_3 _ _ _) (meetsH_dict_get_default (deepKind X.prog X.w) a b n3.2.2.1 fv)
  ⟨by show X.A.units+1+8<cLine;omega,k,z3 qs vs,⟨zhr I3 hk rfl,hd⟩,dd,_,H3,I3.tok _,zc5 (qs:=qs) rz p1 p2,q3⟩
end
noncomputable def dGetN:D->D->D->Option D
 | .dn ks ds,.tup es,z=>match nkD (.tup es) with
  | some k=>if k.dep<=8 then some ((valN ks ds k).getD z) else none
  | none=>none
 | _,_,_=>none
noncomputable def eGetN (fd fk fz:DE->R D):DE->R D:=fun ρ=>(fd ρ).bind fun d=>match d with
 | .dn ks ds=>(fk ρ).bind fun k=>(fz ρ).bind fun z=>R.of (dGetN (.dn ks ds) k z)
 | _=>.st
theorem zfz {K:Frag} {H:Hp} {k:NK} {z:D} {zv:V} (rz:RD K H z zv):∀{ks:List NK} {ds:List D} {xs:List V},RDs K H ds xs->RD K H ((valN ks ds k).getD z) ((valN ks xs k).getD zv)
 | [],ds,xs,r=>by
  unfold valN;rw [List.zip_nil_left,List.zip_nil_left];exact rz
 | k'::ks,[],xs,r=>by
  simp only [RDs] at r;subst r
  exact rz
 | k'::ks,d::ds,xs,r=>by
  simp only [RDs] at r
  obtain ⟨x,r',rfl,r1,r2⟩:=r
  by_cases h:k'=k
  . have e1:∀{α:Type} (a:α) (as:List α),valN (k'::ks) (a::as) k=some a:=fun a as=>by
     unfold valN
     rw [List.zip_cons_cons,List.find?_cons_of_pos (by simpa using h)];rfl
    rw [e1,e1];exact r1
  . have e1:∀{α:Type} (a:α) (as:List α),valN (k'::ks) (a::as) k=valN ks as k:=fun a as=>by
     unfold valN
     rw [List.zip_cons_cons,List.find?_cons_of_neg (by simpa using h)]
    rw [e1,e1];exact zfz rz r2
section
variable {X:Cx} {EX:XW} {σ:St} {H:Hp} {Q:VK}
theorem zro {K:Frag} {fd fk fz:DE->R D} (h:TEd K EX false (eGetN fd fk fz) σ H Q):zrn (TEd K EX false fd) (TEd K EX false fk) (TEd K EX false fz) σ H Q:=by
 obtain ⟨sx,ρ,H0,s,e,h⟩:=h
 unfold eGetN at h
 rw [Rk.bind] at h
 refine TEd.go sx s e h fun d h v H1 H1' s1 e1 r1=>?_
 cases d<;>first | (exact h.elim) | skip
 rename_i ks ds
 simp only at h
 have r1':=r1
 simp only [RD] at r1
 obtain ⟨a,qs,xs,ob,rfl,h1,hk,n,ra⟩:=r1
 refine ⟨a,qs,xs,ob,rfl,e1.2.1 _ _ h1,n.tk fun b zs q=>e1.2.1 _ _ q,?_⟩
 rw [Rk.bind] at h
 refine TEd.go (sx.trans s1) e1.2.1 (e.mono e1.1) h fun d2 h v2 H2 H2' s2 e2 r2=>?_
 rw [Rk.bind] at h
 refine TEd.go ((sx.trans s1).trans s2) e2.2.1 (e.mono (e1.1.trans e2.1)) h fun d3 h v3 H3 H3' s3 e3 r3=>?_
 obtain ⟨w,hw,h⟩:=h.of
 cases d2<;>simp only [dGetN] at hw<;>first | (cases hw;done) | skip
 rename_i es
 split at hw<;>first | (cases hw;done) | skip
 rename_i kk hkk
 split at hw<;>first | (cases hw;done) | skip
 rename_i hd
 cases hw
 have nk:=zfo hkk r2
 obtain ⟨b,ys,rfl,hb,rb⟩:=r2.tup
 refine ⟨kk,b,rfl,e3.2.1 _ _ (e3.1 _ _ (e2.1 _ _ h1)),n.tk fun b zs q=>e3.2.1 _ _ (e3.1 _ _ (e2.1 _ _ q)),NKr.mono (fun b zs q=>e3.2.1 _ _ (e3.1 _ _ q)) nk,hd,h _ H3 ?_⟩
 refine .val ((s1.trans s2).trans s3) ((e1.trans s1 e2).trans (s1.trans s2) e3) ?_
 rw [hk]
 exact zfz r3 (ra.mono (e2.1.trans e3.1))
variable {o e f:Expr} {apos cpos:Pos} {fd fk fz:DE->R D}
theorem z5t (hu:X.A.units+64<cLine) (ho:QE X EX false o fd) (he:QE X EX false e fk) (hf:QE X EX false f fz) (m:M2 X o "get" apos e f cpos:=by exact ⟨rfl,rfl,rfl,rfl⟩):QE X EX false (.Call (.Attribute o "get" apos) [e,f] [] cpos) (eGetN fd fk fz):=
 ⟨(zmo hu ho.h he.h hf.h m).imp fun _ _ _ q=>zro q⟩
end
def Keep (h h':Heap):Prop:=∀b o,h.get? b=some o->h'.get? b=some o
theorem Keep.tuple {h h':Heap} (x:Keep h h') {a:Addr} {its:Array Value} (t:h.IsTuple a its):h'.IsTuple a its:=let ⟨o,e,c⟩:=t;⟨o,x a o e,c⟩
theorem Keep.list {h h':Heap} (x:Keep h h') {a:Addr} {its:Array Value} (t:h.IsList a its):h'.IsList a its:=let ⟨o,e,c⟩:=t;⟨o,x a o e,c⟩
section
open HT
open PySem.SeqAt
open PySem.AutoSeq1 (wpAny_loadPart')
open PySem.MeetsSeq PySem.MeetsSeq2 PySem.MeetsSeq3
end
end L2
namespace L2
open PySem PySem.Spec PyProof.Rows
section
open HT
open PySem.SeqAt
open PySem.AutoSeq1 (wpAny_loadPart')
open PySem.MeetsSeq PySem.MeetsSeq2 PySem.MeetsSeq3
end
end L2
namespace L2
open PySem PySem.Spec PyProof.Rows
noncomputable def z32:List Int->List Int->Bool
 | [],[]=>false
 | [],_::_=>false
 | _::_,[]=>true
 | x::xs,y::ys=>if x=y then z32 xs ys else decide (y<x)
theorem z7r (x y:Int) (xs ys:List Int):z32 (x::xs) (y::ys)=if x=y then z32 xs ys else decide (y<x):=rfl
theorem z8k:z32 [] []=false:=rfl
theorem z72 (y:Int) (ys:List Int):z32 [] (y::ys)=false:=rfl
theorem z73 (x:Int) (xs:List Int):z32 (x::xs) []=true:=rfl
theorem zc6:∀(xs ys:List Int),z32 xs ys=HT.lexLt ys xs
 | [],[]=>rfl
 | [],_::_=>rfl
 | _::_,[]=>rfl
 | x::xs,y::ys=>by
  rw [z7r,HT.lexLt_cons]
  by_cases h:x=y
  . rw [if_pos h,if_pos h.symm];exact zc6 xs ys
  . rw [if_neg h,if_neg (fun z=>h z.symm)]
theorem zid (A:Around) (s:Shared) (a:Int) (t:Tok) (c:Int) (u:Tok) (prog:Program) (w:World) (E:Value->Shared->Prop) (Q:Value->Shared->Prop) (h:Q (.bool (decide (c<a))) s) :
  wpAny (model prog w) A (richCompare .Gt (.int a t) (.int c u)) Q E s:=
 (PyProof.Rows.gt_int h:wpAny (model prog w) A (compareOp .Gt (.int a t) (.int c u)) Q E s)
section
open HT
open PySem.SeqAt
open PySem.AutoSeq1 (wpAny_loadPart')
open PySem.MeetsSeq PySem.MeetsSeq2 PySem.MeetsSeq3
theorem z8l (l b:Addr) (items items2:Array Value) (n n2:Nat) (dd dd2:Option Addr) (sl sl2:Array (Option Value)) (ns ms:List Int) (hi:IntsAre items.toList ns) (hj:IntsAre items2.toList ms) :
  Meets (Builtin.«tuple.__gt__» ⟨[.ref l,.ref b],[]⟩)
   (fun _ R s=>s.heap.get? l=some { cls:=.type "tuple",dict:=dd,data:=.seq items n,slots:=sl }/\s.heap.get? b=some { cls:=.type "tuple",dict:=dd2,data:=.seq items2 n2,slots:=sl2 } /\
    R (.ok (.ret (.bool (z32 ns ms)))) s):=
 .of_wp fun prog w A R s h=>by
  obtain ⟨hp,g,d,tk,os⟩:=s;obtain ⟨hl,hb,h⟩:=h
  have f2:=AutoSeq1.sub_tuple_tuple
  have z1:items.size=ns.length:=by rw [<-hi.length];simp
  have z2:items2.size=ms.length:=by rw [<-hj.length];simp
  wp_walk using wpAny_loadPart' hl,wpAny_loadPart' hb,wpAny_forIn_list _ (fun rest b s'=>b.1=none/\s'=⟨hp,g,d,tk,os⟩/\∃(vs ws:List Value) (ns' ms':List Int),rest=vs.zip ws /\
   IntsAre vs ns'/\IntsAre ws ms'/\ns'.length+items2.size=ms'.length+items.size/\R (.ok (.ret (.bool (z32 ns' ms')))) ⟨hp,g,d,tk,os⟩) _
  case turn=>
   rintro ⟨y,x⟩ rest b s' ⟨hb',rfl,vs,ws,ns',ms',hz,hvi,hwi,hlen,hR⟩
   cases hvi with
   | nil=>rw [List.zip_nil_left] at hz;cases hz
   | cons a t hvi'=>
    cases hwi with
    | nil=>rw [List.zip_nil_right] at hz;cases hz
    | cons c u hwi'=>
     rw [List.zip_cons_cons] at hz
     injection hz with hyx hrest
     injection hyx with hy hx
     subst hy hx
     rw [z7r] at hR
     simp only [List.length_cons] at hlen
     obtain ⟨e,he,hiff⟩:=zbb A.in1 ⟨hp,g,d,tk,os⟩ a t c u
     refine wpAny_bind (he prog w _ _ ?_)
     cases e with
     | true=>
      rw [if_pos (hiff.mp rfl)] at hR
      wp_walk
      exact ⟨rfl,rfl,_,_,_,_,hrest,hvi',hwi',by omega,hR⟩
     | false=>
      rw [if_neg (fun q=>absurd (hiff.mpr q) Bool.false_ne_true)] at hR
      have hri:=zid A.in1 ⟨hp,g,d,tk,os⟩ a t c u prog w
      wp_walk using hri
      exact ⟨_,rfl,by simpa using hR⟩
  case fin=>
   rintro ⟨b1,b2⟩ s' ⟨hb',rfl,vs,ws,ns',ms',hz,hvi,hwi,hlen,hR⟩
   simp only at hb'
   subst hb'
   have hv:z32 ns' ms'=decide (items2.size<items.size):=by
    cases hvi with
    | nil=>
     cases hwi with
     | nil=>
      simp only [List.length_nil] at hlen
      rw [z8k]
      exact (decide_eq_false (by omega)).symm
     | cons c u hw=>
      simp only [List.length_nil,List.length_cons] at hlen
      rw [z72]
      exact (decide_eq_false (by omega)).symm
    | cons a t hv=>
     cases hwi with
     | nil=>
      simp only [List.length_nil,List.length_cons] at hlen
      rw [z73]
      exact (decide_eq_true (by omega)).symm
     | cons c u hw=>
      rw [List.zip_cons_cons] at hz
      cases hz
   rw [hv] at hR
   wp_walk
   exact ⟨_,rfl,by simpa [Builtin.Tuple.tupleCompareSizes] using hR⟩
  case h=>
   exact ⟨rfl,rfl,items.toList,items2.toList,ns,ms,rfl,hi,hj,by omega,h⟩
end
section
variable {prog:Program} {w:World} {A:Around} {E:Value->Shared->Prop} {s:Shared}
theorem zdd {l b:Addr} {items items2:Array Value} {ns ms:List Int} {Q:Value->Shared->Prop} (hl:IsTup s.heap l items) (hb:IsTup s.heap b items2) (hi:IntsAre items.toList ns) (hj:IntsAre items2.toList ms)
  (hu:A.units<cLine) (h:Q (.bool (z32 ns ms)) s):wpAny (model prog w) A (compareOp .Gt (.ref l) (.ref b)) Q E s:=by
 obtain ⟨⟨cls,dd,data,sl⟩,ho,hc,n,hd⟩:=id hl
 obtain ⟨⟨cls2,dd2,data2,sl2⟩,ho2,hc2,n2,hd2⟩:=id hb
 simp only at hc hd hc2 hd2
 subst hc hd hc2 hd2
 exact richCompare_meets_room (op:=.Gt) ⟨_,ho,rfl⟩ ⟨_,ho2,rfl⟩ PySem.F.slot_tuple_gt PySem.F.entry_tuple_gt (PySem.F.args_tuple_gt_2 _ _) (z8l l b items items2 n n2 dd dd2 sl sl2 ns ms hi hj)
  ⟨ho,ho2,show Value.bool (z32 ns ms)≠Value.notImplemented/\Q (.bool (z32 ns ms)) s from ⟨(fun x=>nomatch x),h⟩⟩ hu
end
section
variable {prog:Program} {w:World} {A:Around} {R:Result->Shared->Prop} {I:Addr} {fp wr:List Addr} {n:Nat} {P:Nat->Value->Prop} {St:Nat->Heap->Prop}
def zmp (prog:Program) (w:World) (A:Around) (P:Nat->Value->Prop) (bt:Nat->Nat->Bool) (G:Shared->Prop):Prop:=
 ∀(i j:Nat) (vi vj:Value) (s:Shared) (Q E:Value->Shared->Prop),G s->P i vi->P j vj->Q (Value.bool (bt i j)) s->wpAny (model prog w) A (richCompare .Gt vi vj) Q E s
theorem zvm (kw:List (Str×Value)) (W:Walks prog w A.in1 I fp wr n P St) (bt:Nat->Nat->Bool) (S:Addr) (nf:S∉fp) (G:Shared->Prop) (hG:∀(s:Shared) (h':Heap) (tk:Nat),G s->(∀b o,b∉wr->b≠S->s.heap.get? b=some o->h'.get? b=some o)->G { s with heap:=h',toks:=tk }) (cm:zmp prog w A.in1 P bt G) :
  ∀(k j:Nat) (s:Shared) (vb:Value) (c:Nat),G s->n - (j+1)=k->j+1<=n->St (j+1) s.heap->P (argBest bt j) vb->s.heap.get? S=some { cls:=.type "list",dict:=none,data:=.seq #[vb,vb] c,slots:=#[] } ->
  (∀v h' tk,P (argBest bt (n - 1)) v->(∀b o,b∉wr->b≠S->s.heap.get? b=some o->h'.get? b=some o)->R (.ok (.ret v)) { s with heap:=h',toks:=tk })->codeAny (model prog w) A (.builtin "max.loop" ⟨[.ref I,.none,.ref S],kw⟩) R s:=by
 have nw:S∉wr:=fun h=>nf (W.sub _ h)
 have nm:(toString "max"++toString ".loop":String)="max.loop":=by decide
 intro k
 induction k with
 | zero=>
  intro j s vb c gs ek ej st pb eS fin
  have jn:j+1=n:=by omega
  refine codeAny_builtin PySem.F.entry_max_loop ?_
  rw [Around.under_plainId PySem.F.plain_max_loop _]
  show wpAny _ A.in1 (seqItems? (.ref S) >>= _) _ _ _
  refine wpAny_bind (wpAny_seqItems eS rfl ?_)
  show wpAny _ A.in1 (tryCatch (pyNext (.ref I)) _ >>= _) _ _ _
  refine wpAny_bind (wpAny_tryCatch (W.done s _ _ (jn ▸ st) fun h' tk kp=>?_))
  have eS':=kp S _ nw eS
  show wpAny _ A.in1 (updateSeq S (fun _=>#[]) >>= _) _ _ _
  refine wpAny_bind ?_
  refine wpAny_updateSeq eS' rfl (wpAny_bind (wpAny_letGo (wpAny_pure ?_)))
  exact fin vb _ tk (by rw [<-jn];exact pb) fun b o hbw hbS e=>(Heap.get?_update_other _ _ (Ne.symm hbS)).trans (kp b o hbw e)
 | succ k ih=>
  intro j s vb c gs ek ej st pb eS fin
  have jl:j+1<n:=by omega
  refine codeAny_builtin PySem.F.entry_max_loop ?_
  rw [Around.under_plainId PySem.F.plain_max_loop _]
  show wpAny _ A.in1 (seqItems? (.ref S) >>= _) _ _ _
  refine wpAny_bind (wpAny_seqItems eS rfl ?_)
  show wpAny _ A.in1 (tryCatch (pyNext (.ref I)) _ >>= _) _ _ _
  refine wpAny_bind (wpAny_tryCatch (W.item (j+1) s _ _ jl st fun v h' tk pv st' kp=>?_))
  have eS':=kp S _ nw eS
  have gs':=hG s h' tk gs fun b o hb _ e=>kp b o hb e
  show wpAny _ A.in1 (tryCatch (holding [v,v] (richCompare .Gt v vb >>= _)) _ >>= _) _ _ _
  refine wpAny_bind (wpAny_tryCatch (wpAny_holding (wpAny_bind (cm (j+1) (argBest bt j) v vb _ _ _ gs' pv pb ?_))))
  refine wpAny_bind (wpAny_holding (wpAny_truthy_bool ?_))
  refine wpAny_bind (wpAny_letGo (wpAny_pure ?_))
  cases hb:bt (j+1) (argBest bt j) with
  | true=>
   rw [if_pos rfl]
   refine wpAny_bind ?_
   refine wpAny_updateSeq eS' rfl (wpAny_bind (wpAny_letGo ?_))
   rw [nm]
   refine wpAny_pure ⟨plainId_quiet PySem.F.plain_max_loop _,ih (j+1) _ v _ (hG _ _ tk gs' fun b o _ hbS e=>(Heap.get?_update_other _ _ (Ne.symm hbS)).trans e) (by omega) jl (W.frame _ _ _ st' fun b hbf o e=>?_) (by simp only [argBest,hb,if_true];exact pv) (Heap.get?_update_self _ eS' rfl) fun v' h'' tk'' pv' kp'=>?_⟩
   . exact (Heap.get?_update_other _ _ (fun z:S=b=>nf (by rw [z];exact hbf))).trans e
   . exact fin v' h'' tk'' pv' fun b o hbw hbS e=>kp' b o hbw hbS ((Heap.get?_update_other _ _ (Ne.symm hbS)).trans (kp b o hbw e))
  | false=>
   rw [if_neg Bool.false_ne_true]
   refine wpAny_bind (wpAny_letGo ?_)
   rw [nm]
   exact wpAny_pure ⟨plainId_quiet PySem.F.plain_max_loop _,ih (j+1) _ vb c gs' (by omega) jl st' (by simp only [argBest,hb,Bool.false_eq_true,if_false];exact pb) eS' fun v' h'' tk'' pv' kp'=>fin v' h'' tk'' pv' fun b o hbw hbS e=>kp' b o hbw hbS (kp b o hbw e)⟩
theorem zie (kw:List (Str×Value)) (W:Walks prog w A.in1 I fp wr n P St) (bt:Nat->Nat->Bool) (S:Addr) (nf:S∉fp) (G:Shared->Prop) (hG:∀(s:Shared) (h':Heap) (tk:Nat),G s->(∀b o,b∉wr->b≠S->s.heap.get? b=some o->h'.get? b=some o)->G { s with heap:=h',toks:=tk }) (cm:zmp prog w A.in1 P bt G) (n0:0<n) {s:Shared} {c:Nat} (gs:G s) (st:St 0 s.heap)
  (eS:s.heap.get? S=some { cls:=.type "list",dict:=none,data:=.seq #[] c,slots:=#[] }) (fin:∀v h' tk,P (argBest bt (n - 1)) v->(∀b o,b∉wr->b≠S->s.heap.get? b=some o->h'.get? b=some o)->R (.ok (.ret v)) { s with heap:=h',toks:=tk }) :
  codeAny (model prog w) A (.builtin "max.loop" ⟨[.ref I,.none,.ref S],kw⟩) R s:=by
 have nw:S∉wr:=fun h=>nf (W.sub _ h)
 have nm:(toString "max"++toString ".loop":String)="max.loop":=by decide
 refine codeAny_builtin PySem.F.entry_max_loop ?_
 rw [Around.under_plainId PySem.F.plain_max_loop _]
 show wpAny _ A.in1 (seqItems? (.ref S) >>= _) _ _ _
 refine wpAny_bind (wpAny_seqItems eS rfl ?_)
 show wpAny _ A.in1 (tryCatch (pyNext (.ref I)) _ >>= _) _ _ _
 refine wpAny_bind (wpAny_tryCatch (W.item 0 s _ _ n0 st fun v h' tk pv st' kp=>?_))
 have eS':=kp S _ nw eS
 have gs':=hG s h' tk gs fun b o hb _ e=>kp b o hb e
 show wpAny _ A.in1 (updateSeq S (fun _=>#[v,v]) >>= _) _ _ _
 refine wpAny_bind ?_
 refine wpAny_updateSeq eS' rfl ?_
 rw [nm]
 refine wpAny_pure ⟨plainId_quiet PySem.F.plain_max_loop _,zvm kw W bt S nf G hG cm _ 0 _ v _ (hG _ _ tk gs' fun b o _ hbS e=>(Heap.get?_update_other _ _ (Ne.symm hbS)).trans e) rfl n0 (W.frame _ _ _ st' fun b hbf o e=>?_) pv (Heap.get?_update_self _ eS' rfl) fun v' h'' tk'' pv' kp'=>?_⟩
 . exact (Heap.get?_update_other _ _ (fun z:S=b=>nf (by rw [z];exact hbf))).trans e
 . exact fin v' h'' tk'' pv' fun b o hbw hbS e=>kp' b o hbw hbS ((Heap.get?_update_other _ _ (Ne.symm hbS)).trans (kp b o hbw e))
end
end L2
namespace L2
open PySem PySem.Spec PyProof.Rows
section
variable {prog:Program} {w:World} {A:Around} {E:Value->Shared->Prop} {s:Shared}
theorem zrp {a b:Value} {Q:Value->Shared->Prop} {bt:Nat->Nat->Bool} (hh:A.handled=none)
  (cm:zmk prog w A.in1 (fun i v=>(#[a,b]:Array Value)[i]?=some v) bt (fun s'=>∃h' tk,s'={ s with heap:=h',toks:=tk }/\∀b o,s.heap.get? b=some o->h'.get? b=some o))
  (fin:∀v h' tk,(#[a,b]:Array Value)[argBest bt 1]?=some v->(∀b o,s.heap.get? b=some o->h'.get? b=some o)->Q v { s with heap:=h',toks:=tk }) :
  wpAny (model prog w) A (call (.builtin "min") [a,b]) Q E s:=by
 have nm:(toString "min"++toString ".loop":String)="min.loop":=by decide
 refine kmk_tree PySem.F.kind_min PySem.F.plain_min PySem.F.entry_min (PySem.F.args_min2 a b) ?_
 show wpAny _ A.in1 (Builtin.Builtins.bindParams "min" ["key","default"] 0 ⟨[],[]⟩ >>= _) _ _ s
 refine wpAny_bind (wpAny_of_eq (show Builtin.Builtins.bindParams "min" ["key","default"] 0 ⟨[],[]⟩=pure [none,none] from rfl) ?_)
 show wpAny _ A.in1 (newTuple [a,b] >>= _) _ _ s
 refine wpAny_bind (wpAny_newObj_type ?_)
 obtain ⟨h1,hh1⟩:∃h1,h1=s.heap.push { cls:=Value.type "tuple",data:=Data.seq #[a,b] }:=⟨_,rfl⟩
 have sz1:h1.objs.size=s.heap.objs.size+1:=by rw [hh1];simp [Heap.push]
 have old1:∀b o,s.heap.get? b=some o->h1.get? b=some o:=fun b o e=>by rw [hh1];exact Heap.get?_push_of_some _ e
 have hT:h1.IsTuple s.heap.objs.size #[a,b]:=⟨_,by rw [hh1];exact Heap.get?_push_size _ rfl,rfl,0,rfl⟩
 show wpAny _ A.in1 (pyIter (.ref s.heap.objs.size) >>= _) _ _ { s with heap:=s.heap.push { cls:=Value.type "tuple",data:=Data.seq #[a,b] } }
 rw [<-hh1]
 refine wpAny_bind (wpAny_pyIter_tuple (s:={ s with heap:=h1 }) hT ?_)
 refine wpAny_bind (wpAny_newObj_type ?_)
 obtain ⟨h2,hh2⟩:∃h2,h2=h1.push { cls:=Value.type "tuple_iterator",data:=Data.fields #[Value.ref s.heap.objs.size,Value.int 0 0] }:=⟨_,rfl⟩
 have sz:h2.objs.size=s.heap.objs.size+2:=by rw [hh2];simp [Heap.push];have:=sz1;omega
 have old:∀b o,h1.get? b=some o->h2.get? b=some o:=fun b o e=>by rw [hh2];exact Heap.get?_push_of_some _ e
 have ne:s.heap.objs.size≠h1.objs.size:=by rw [sz1];exact Nat.ne_of_lt (Nat.lt_succ_self _)
 have W:=Walks.tuple (prog:=prog) (w:=w) (A:=A.in1) hh h1.objs.size s.heap.objs.size ne #[a,b]
 have st:h2.IsTupleIter h1.objs.size s.heap.objs.size 0/\h2.IsTuple s.heap.objs.size #[a,b]:=by
  obtain ⟨o,e,c,n,d⟩:=hT
  exact ⟨⟨_,by rw [hh2];exact Heap.get?_push_size _ rfl,rfl,rfl⟩,⟨o,old _ _ e,c,n,d⟩⟩
 rw [<-hh2]
 have nf:h2.objs.size∉[h1.objs.size,s.heap.objs.size]:=fun hm=>by
  simp only [List.mem_cons,List.not_mem_nil,or_false] at hm
  rcases hm with e | e
  . exact absurd (show (h2.objs.size:Nat)=h1.objs.size from e) (by omega)
  . exact absurd (show (h2.objs.size:Nat)=s.heap.objs.size from e) (by omega)
 rw [nm]
 refine wpAny_pure ⟨plainId_quiet PySem.F.plain_min_loop _,?_⟩
 refine zi9 [] W bt h2.objs.size nf (fun s'=>∃h' tk,s'={ s with heap:=h',toks:=tk }/\∀b o,s.heap.get? b=some o->h'.get? b=some o) ?_ cm (by simp) ⟨_,_,rfl,fun b o e=>Heap.get?_push_of_some _ (old b o (old1 b o e))⟩ (W.frame _ _ _ st fun b _ o e=>Heap.get?_push_of_some _ e) (Heap.get?_push_size _ rfl) fun v h' tk pv kp=>fin v h' tk (by simpa using pv) ?_
 . rintro _ h'' tk'' ⟨h',tk,rfl,k1⟩ kp
   refine ⟨h'',tk'',rfl,fun b o e=>kp b o ?_ ?_ (k1 b o e)⟩
   . simp only [List.mem_singleton];exact Nat.ne_of_lt (Nat.lt_of_lt_of_le (Heap.lt_size e) (by rw [sz1];exact Nat.le_succ _))
   . exact Nat.ne_of_lt (Nat.lt_of_lt_of_le (Heap.lt_size e) (by rw [sz];exact Nat.le_add_right _ 2))
 . intro b o e
   have hb:=Heap.lt_size e
   exact kp b o (by simp only [List.mem_singleton];exact Nat.ne_of_lt (Nat.lt_of_lt_of_le hb (by rw [sz1];exact Nat.le_succ _))) (Nat.ne_of_lt (Nat.lt_of_lt_of_le hb (by rw [sz];exact Nat.le_add_right _ 2))) (Heap.get?_push_of_some _ (old b o (old1 b o e)))
theorem zrq {a b:Value} {Q:Value->Shared->Prop} {bt:Nat->Nat->Bool} (hh:A.handled=none)
  (cm:zmp prog w A.in1 (fun i v=>(#[a,b]:Array Value)[i]?=some v) bt (fun s'=>∃h' tk,s'={ s with heap:=h',toks:=tk }/\∀b o,s.heap.get? b=some o->h'.get? b=some o))
  (fin:∀v h' tk,(#[a,b]:Array Value)[argBest bt 1]?=some v->(∀b o,s.heap.get? b=some o->h'.get? b=some o)->Q v { s with heap:=h',toks:=tk }) :
  wpAny (model prog w) A (call (.builtin "max") [a,b]) Q E s:=by
 have nm:(toString "max"++toString ".loop":String)="max.loop":=by decide
 refine kmk_tree PySem.F.kind_max PySem.F.plain_max PySem.F.entry_max (PySem.F.args_max2 a b) ?_
 show wpAny _ A.in1 (Builtin.Builtins.bindParams "max" ["key","default"] 0 ⟨[],[]⟩ >>= _) _ _ s
 refine wpAny_bind (wpAny_of_eq (show Builtin.Builtins.bindParams "max" ["key","default"] 0 ⟨[],[]⟩=pure [none,none] from rfl) ?_)
 show wpAny _ A.in1 (newTuple [a,b] >>= _) _ _ s
 refine wpAny_bind (wpAny_newObj_type ?_)
 obtain ⟨h1,hh1⟩:∃h1,h1=s.heap.push { cls:=Value.type "tuple",data:=Data.seq #[a,b] }:=⟨_,rfl⟩
 have sz1:h1.objs.size=s.heap.objs.size+1:=by rw [hh1];simp [Heap.push]
 have old1:∀b o,s.heap.get? b=some o->h1.get? b=some o:=fun b o e=>by rw [hh1];exact Heap.get?_push_of_some _ e
 have hT:h1.IsTuple s.heap.objs.size #[a,b]:=⟨_,by rw [hh1];exact Heap.get?_push_size _ rfl,rfl,0,rfl⟩
 show wpAny _ A.in1 (pyIter (.ref s.heap.objs.size) >>= _) _ _ { s with heap:=s.heap.push { cls:=Value.type "tuple",data:=Data.seq #[a,b] } }
 rw [<-hh1]
 refine wpAny_bind (wpAny_pyIter_tuple (s:={ s with heap:=h1 }) hT ?_)
 refine wpAny_bind (wpAny_newObj_type ?_)
 obtain ⟨h2,hh2⟩:∃h2,h2=h1.push { cls:=Value.type "tuple_iterator",data:=Data.fields #[Value.ref s.heap.objs.size,Value.int 0 0] }:=⟨_,rfl⟩
 have sz:h2.objs.size=s.heap.objs.size+2:=by rw [hh2];simp [Heap.push];have:=sz1;omega
 have old:∀b o,h1.get? b=some o->h2.get? b=some o:=fun b o e=>by rw [hh2];exact Heap.get?_push_of_some _ e
 have ne:s.heap.objs.size≠h1.objs.size:=by rw [sz1];exact Nat.ne_of_lt (Nat.lt_succ_self _)
 have W:=Walks.tuple (prog:=prog) (w:=w) (A:=A.in1) hh h1.objs.size s.heap.objs.size ne #[a,b]
 have st:h2.IsTupleIter h1.objs.size s.heap.objs.size 0/\h2.IsTuple s.heap.objs.size #[a,b]:=by
  obtain ⟨o,e,c,n,d⟩:=hT
  exact ⟨⟨_,by rw [hh2];exact Heap.get?_push_size _ rfl,rfl,rfl⟩,⟨o,old _ _ e,c,n,d⟩⟩
 rw [<-hh2]
 have nf:h2.objs.size∉[h1.objs.size,s.heap.objs.size]:=fun hm=>by
  simp only [List.mem_cons,List.not_mem_nil,or_false] at hm
  rcases hm with e | e
  . exact absurd (show (h2.objs.size:Nat)=h1.objs.size from e) (by omega)
  . exact absurd (show (h2.objs.size:Nat)=s.heap.objs.size from e) (by omega)
 rw [nm]
 refine wpAny_pure ⟨plainId_quiet PySem.F.plain_max_loop _,?_⟩
 refine zie [] W bt h2.objs.size nf (fun s'=>∃h' tk,s'={ s with heap:=h',toks:=tk }/\∀b o,s.heap.get? b=some o->h'.get? b=some o) ?_ cm (by simp) ⟨_,_,rfl,fun b o e=>Heap.get?_push_of_some _ (old b o (old1 b o e))⟩ (W.frame _ _ _ st fun b _ o e=>Heap.get?_push_of_some _ e) (Heap.get?_push_size _ rfl) fun v h' tk pv kp=>fin v h' tk (by simpa using pv) ?_
 . rintro _ h'' tk'' ⟨h',tk,rfl,k1⟩ kp
   refine ⟨h'',tk'',rfl,fun b o e=>kp b o ?_ ?_ (k1 b o e)⟩
   . simp only [List.mem_singleton];exact Nat.ne_of_lt (Nat.lt_of_lt_of_le (Heap.lt_size e) (by rw [sz1];exact Nat.le_succ _))
   . exact Nat.ne_of_lt (Nat.lt_of_lt_of_le (Heap.lt_size e) (by rw [sz];exact Nat.le_add_right _ 2))
 . intro b o e
   have hb:=Heap.lt_size e
   exact kp b o (by simp only [List.mem_singleton];exact Nat.ne_of_lt (Nat.lt_of_lt_of_le hb (by rw [sz1];exact Nat.le_succ _))) (Nat.ne_of_lt (Nat.lt_of_lt_of_le hb (by rw [sz];exact Nat.le_add_right _ 2))) (Heap.get?_push_of_some _ (old b o (old1 b o e)))
end
noncomputable def zc7:List D->Option D
 | [.tup ds,.tup es]=>match z2l ds,z2l es with
  | some ns,some ms=>some (if HT.lexLt ms ns=true then .tup es else .tup ds)
  | _,_=>none
 | _=>none
def zk6 (K:Frag):List V->Hp->VK->Prop:=fun xs H Q=>∃a b ns ms,xs=[.ref a,.ref b]/\SqT K H a (ns.map V.int)/\SqT K H b (ms.map V.int)/\Q (if HT.lexLt ms ns=true then .ref b else .ref a) H
theorem zif {K:Frag}:z5y K false zc7 (zk6 K):=by
 intro H0 H xs ds z Q s r ho k
 unfold zc7 at ho
 split at ho<;>first | (cases ho;done) | skip
 split at ho<;>first | (cases ho;done) | skip
 rename_i ds es ns ms h1 h2
 cases ho
 obtain ⟨x,ys,rfl,rx,y,ys,rfl,ry,rfl⟩:=by simpa only [RDs] using r
 obtain ⟨a,xs,rfl,ha,ra⟩:=rx.tup
 obtain ⟨b,zs,rfl,hb,rb⟩:=ry.tup
 have e1:=z3n h1 ra
 have e2:=z3n h2 rb
 refine ⟨a,b,ns,ms,rfl,.of (by rw [<-e1];exact s _ _ ha),.of (by rw [<-e2];exact s _ _ hb),k _ H (.pure s ?_)⟩
 split
 . exact ry
 . exact rx
theorem zmq {X:Cx} (hc:X.calm=true) (hu:X.A.units+64<cLine):CallR X (.builtin "min") (zk6 X.K):=by
 intro pins s σ H xs us Q I r h
 obtain ⟨a,b,ns,ms,rfl,ha,hb,q⟩:=h
 obtain ⟨u,w',rfl,ru,rw'⟩:=ze1 r
 cases ru
 cases rw'
 obtain ⟨m,hn,_⟩:=id I.loc
 have IK:∀{h':Heap} {tk:Nat},(∀b o,s.heap.get? b=some o->h'.get? b=some o)->Inv X pins σ H { s with heap:=h',toks:=tk }:=fun {h' tk} kp=>I.kept (t':=tk) kp
 refine zrp (bt:=fun i j=>HT.lexLt (if i=0 then ns else ms) (if j=0 then ns else ms)) (I.ok.hd hc) ?_ ?_
 . rintro i j vi vj _ Q' E' ⟨h',tk,rfl,kp⟩ pi pj hQ
   have I':=IK (tk:=tk) kp
   obtain ⟨its,r1,p1,_⟩:=I'.tuple ha
   obtain ⟨its2,r2,p2,_⟩:=I'.tuple hb
   have i1:IntsAre its.toArray.toList ns:=z2x r1
   have i2:IntsAre its2.toArray.toList ms:=z2x r2
   have pk:∀{i:Nat} {v:Value},(#[Value.ref a,Value.ref b]:Array Value)[i]?=some v->∃c jts,v=.ref c/\IsTup h' c jts/\IntsAre jts.toList (if i=0 then ns else ms):=fun {i v} e=>by
    match i,e with
    | 0,e=>cases e;exact ⟨a,_,rfl,p1,i1⟩
    | 1,e=>cases e;exact ⟨b,_,rfl,p2,i2⟩
    | i+2,e=>simp at e
   obtain ⟨c1,j1,rfl,q1,w1⟩:=pk pi
   obtain ⟨c2,j2,rfl,q2,w2⟩:=pk pj
   exact HT.lt_tupInts q1 q2 w1 w2 (by show X.A.units+1<cLine;omega) hQ
 . intro v h' tk pv kp
   have e:argBest (fun i j=>HT.lexLt (if i=0 then ns else ms) (if j=0 then ns else ms)) 1=if HT.lexLt ms ns=true then 1 else 0:=by simp [argBest]
   rw [e] at pv
   refine ⟨if HT.lexLt ms ns=true then .ref b else .ref a,H,IK kp,?_,q⟩
   split at pv
   . rename_i z;rw [if_pos z];simpa [RelV] using pv.symm
   . rename_i z;rw [if_neg z];simpa [RelV] using pv.symm
noncomputable def zc8:List D->Option D
 | [.tup ds,.tup es]=>match z2l ds,z2l es with
  | some ns,some ms=>some (if z32 ms ns=true then .tup es else .tup ds)
  | _,_=>none
 | _=>none
def zk7 (K:Frag):List V->Hp->VK->Prop:=fun xs H Q=>∃a b ns ms,xs=[.ref a,.ref b]/\SqT K H a (ns.map V.int)/\SqT K H b (ms.map V.int)/\Q (if z32 ms ns=true then .ref b else .ref a) H
theorem zig {K:Frag}:z5y K false zc8 (zk7 K):=by
 intro H0 H xs ds z Q s r ho k
 unfold zc8 at ho
 split at ho<;>first | (cases ho;done) | skip
 split at ho<;>first | (cases ho;done) | skip
 rename_i ds es ns ms h1 h2
 cases ho
 obtain ⟨x,ys,rfl,rx,y,ys,rfl,ry,rfl⟩:=by simpa only [RDs] using r
 obtain ⟨a,xs,rfl,ha,ra⟩:=rx.tup
 obtain ⟨b,zs,rfl,hb,rb⟩:=ry.tup
 have e1:=z3n h1 ra
 have e2:=z3n h2 rb
 refine ⟨a,b,ns,ms,rfl,.of (by rw [<-e1];exact s _ _ ha),.of (by rw [<-e2];exact s _ _ hb),k _ H (.pure s ?_)⟩
 split
 . exact ry
 . exact rx
theorem zmr {X:Cx} (hc:X.calm=true) (hu:X.A.units+64<cLine):CallR X (.builtin "max") (zk7 X.K):=by
 intro pins s σ H xs us Q I r h
 obtain ⟨a,b,ns,ms,rfl,ha,hb,q⟩:=h
 obtain ⟨u,w',rfl,ru,rw'⟩:=ze1 r
 cases ru
 cases rw'
 obtain ⟨m,hn,_⟩:=id I.loc
 have IK:∀{h':Heap} {tk:Nat},(∀b o,s.heap.get? b=some o->h'.get? b=some o)->Inv X pins σ H { s with heap:=h',toks:=tk }:=fun {h' tk} kp=>I.kept (t':=tk) kp
 refine zrq (bt:=fun i j=>z32 (if i=0 then ns else ms) (if j=0 then ns else ms)) (I.ok.hd hc) ?_ ?_
 . rintro i j vi vj _ Q' E' ⟨h',tk,rfl,kp⟩ pi pj hQ
   have I':=IK (tk:=tk) kp
   obtain ⟨its,r1,p1,_⟩:=I'.tuple ha
   obtain ⟨its2,r2,p2,_⟩:=I'.tuple hb
   have i1:IntsAre its.toArray.toList ns:=z2x r1
   have i2:IntsAre its2.toArray.toList ms:=z2x r2
   have pk:∀{i:Nat} {v:Value},(#[Value.ref a,Value.ref b]:Array Value)[i]?=some v->∃c jts,v=.ref c/\IsTup h' c jts/\IntsAre jts.toList (if i=0 then ns else ms):=fun {i v} e=>by
    match i,e with
    | 0,e=>cases e;exact ⟨a,_,rfl,p1,i1⟩
    | 1,e=>cases e;exact ⟨b,_,rfl,p2,i2⟩
    | i+2,e=>simp at e
   obtain ⟨c1,j1,rfl,q1,w1⟩:=pk pi
   obtain ⟨c2,j2,rfl,q2,w2⟩:=pk pj
   exact zdd q1 q2 w1 w2 (by show X.A.units+1<cLine;omega) hQ
 . intro v h' tk pv kp
   have e:argBest (fun i j=>z32 (if i=0 then ns else ms) (if j=0 then ns else ms)) 1=if z32 ms ns=true then 1 else 0:=by simp [argBest]
   rw [e] at pv
   refine ⟨if z32 ms ns=true then .ref b else .ref a,H,IK kp,?_,q⟩
   split at pv
   . rename_i z;rw [if_pos z];simpa [RelV] using pv.symm
   . rename_i z;rw [if_neg z];simpa [RelV] using pv.symm
abbrev Kp (is:List Nat) (σ σ':St):Prop:=∀i∈is,σ'[i]?=σ[i]?
noncomputable def zrr (is:List Nat) (De:Ends) (σ:St):Ends:={ De with nx:=fun σ' H'=>Kp is σ σ'->De.nx σ' H',bk:=fun σ' H'=>Kp is σ σ'->De.bk σ' H',ct:=fun σ' H'=>Kp is σ σ'->De.ct σ' H' }
noncomputable def TSk (K:Frag) (EX:XW) (is:List Nat) (g:DS->SR):TS:=fun De σ H=>TSd K EX false g (zrr is De σ) σ H
structure QK (X:Cx) (EX:XW) (is:List Nat) (st:Stmt) (g:DS->SR):Prop where
 h:PS X st (TSk X.K EX is g)
structure QKB (X:Cx) (EX:XW) (is:List Nat) (sts:List Stmt) (g:DS->SR):Prop where
 h:PSs X sts (TSk X.K EX is g)
theorem Kp.set {is:List Nat} {σ:St} {i:Nat} {v:Option V} (h:i∉is):Kp is σ (σ.set i v):=fun j hj=>List.getElem?_set_ne (fun e:i=j=>h (by rw [e];exact hj))
section
variable {X:Cx} {EX:XW} {is:List Nat} {st:Stmt} {sts:List Stmt} {c e:Expr} {f fv fk:DE->R D} {t:DE->R Bool} {g g1 g2:DS->SR} {pos:Pos} {m:List Bool}
theorem zg0 (h:QK X EX is st g):QKB X EX is [st] g:=⟨zdu h.h⟩
theorem zy0 {x y:List Stmt} (hc:QT X EX c t) (ha:QKB X EX is x g1) (hb:QKB X EX is y g2):QK X EX is (.If c x y pos) (sIf t g1 g2):=⟨(zo4 hc.h ha.h hb.h).imp fun _ _ _ q=>zp5 q⟩
theorem zk8 {i:Nat} {o ix:Expr} {tpos:Pos} (hu:X.A.units+64<cLine) (ho:PE X o (zag i)) (hk:QE X EX false ix fk) (hv:QE X EX false e fv)
  (ha:∀v,assign (.Subscript o ix tpos) X.env v=(do
   let ov <-holding [v] (eval o X.env)
   let iv <-holding [v,ov] (eval ix X.env)
   standAt tpos
   holding [v,ov,iv] (setItem ov iv v)
   release [v,ov,iv] []):=by intro _;rfl) (hs:swapsWithSole [.Subscript o ix tpos] e pos.line X.env=pure false:=by rfl) (hw:swappedStores [.Subscript o ix tpos] e X.env=pure none:=by rfl)
  (h1:(assignEach [.Subscript o ix tpos] X.env).map (·.2)=[assign (.Subscript o ix tpos) X.env]:=by rfl):QK X EX is (.Assign [.Subscript o ix tpos] e pos) (zh6 dSetN i m fk fv):=⟨(zj5 hv.h (zj4 ho hk.h (zrj hu) ha) hs hw h1).imp fun De σ H q=>by
 have q:=zp8 zft q
 unfold zhd zt2 zrr Kp at q
 simp only [implies_true,true_implies] at q
 exact q⟩
end
noncomputable def spU (K:Frag) (mU:List D->R D) (n:Nat):Sp:=fun vs H Q _=>∃(d:D) (ds:List D) (a:Addr) (ws:List V) (H0:Hp),vs=.ref a::ws/\ds.length+1=n/\Same H0 H/\H0 a=none/\OB K H0 H a d/\RDs K H0 ds ws /\
 Rk (fun _=>False) (mU (d::ds)) fun d'=>∀H' H0',Same (hid [a] H) H'->Ext H0 (hid [a] H) H0' H'->H0' a=none->OB K H0' H' a d'->Q .non H'
noncomputable def zvn (n k:Nat) (g:DS->SR):List D->R D
 | d::r=>if r.length+1=n then (match g (.ow d::(r.map .im++List.replicate k .em)) with
  | .nx (.ow d'::_)=>.ok d'
  | _=>.st) else .st
 | []=>.st
theorem RDs.atR {K:Frag} {H:Hp}:∀{ds:List D} {ws:List V},RDs K H ds ws->∀(i:Nat) d,ds[i]?=some d->∃w,ws[i]?=some w/\RD K H d w
 | [],_,_,i,d,q=>by simp at q
 | e::es,_,r,i,d,q=>by
  simp only [RDs] at r
  obtain ⟨y,ys,rfl,r1,r2⟩:=r
  cases i with
  | zero=>cases q;exact ⟨y,rfl,r1⟩
  | succ i=>exact RDs.atR r2 i d q
theorem zrs {K:Frag} {H0 H:Hp} {d:D} {ds:List D} {a:Addr} {ws:List V} (s:Same H0 H) (h0:H0 a=none) (ob:OB K H0 H a d) (r:RDs K H0 ds ws) (k:Nat) :
  RS K H0 (hid [a] H) H0 (.ow d::(ds.map .im++List.replicate k .em)) (some (.ref a)::(ws.map some++List.replicate k none)) H:=by
 have hl:=r.length
 have tail:∀(i:Nat) (s:Sl),(ds.map Sl.im++List.replicate k Sl.em)[i]?=some s->s=.em\/∃e,s=.im e/\ds[i]?=some e:=fun i s q=>by
  by_cases hi:i<ds.length
  . rw [List.getElem?_append_left (by simpa using hi),List.getElem?_map,List.getElem?_eq_getElem hi] at q
    exact .inr ⟨ds[i],(Option.some.inj q).symm,List.getElem?_eq_getElem hi⟩
  . rw [List.getElem?_append_right (by simpa using hi)] at q
    exact .inl (List.mem_replicate.mp (List.mem_of_getElem? q)).2
 have zero:∀(i:Nat) e,(Sl.ow d::(ds.map Sl.im++List.replicate k Sl.em))[i]?=some (.ow e)->i=0/\d=e:=fun i e q=>by
  cases i with
  | zero=>cases q;exact ⟨rfl,rfl⟩
  | succ i=>rcases tail i _ q with z | ⟨_,z,_⟩<;>cases z
 refine ⟨fun b o h=>?_,⟨Same.refl _,s,fun a ha e=>e⟩,by simp [hl],fun i e q=>?_,fun i e q=>?_,fun i j e e' b qi qj si sj=>?_⟩
 . unfold hid at h;split at h
   . cases h
   . exact h
 . cases i with
   | zero=>cases q
   | succ i=>
    rcases tail i _ q with z | ⟨e',z,q'⟩
    . cases z
    . cases z
      obtain ⟨w,hw,rw'⟩:=r.atR i e q'
      refine ⟨w,?_,rw'⟩
      have hi:i<ws.length:=by
       apply Classical.byContradiction;intro hn
       rw [List.getElem?_eq_none (by omega)] at hw;cases hw
      show (ws.map some++List.replicate k none)[i]?=_
      rw [List.getElem?_append_left (by simpa using hi),List.getElem?_map,hw];rfl
 . obtain ⟨rfl,rfl⟩:=zero i e q
   exact ⟨a,rfl,h0,zre (List.mem_singleton.mpr rfl),ob⟩
 . obtain ⟨rfl,_⟩:=zero i e qi
   obtain ⟨rfl,_⟩:=zero j e' qj
   rfl
theorem fnU {P:Program} {w:World} {K:Frag} {mg:Str->Option Value} {base:Heap} {x qual:Str} {st:Stmt} {f:Addr} {fd:FuncData} {N ps:List Str} {k n kk:Nat} {g:DS->SR} (F:Fun K x qual st f fd) (S:FnScope N ps (z03 st)) (hps:ps.length=n) (hN:N.length=n+kk)
  (hbody:∀(cdv:Value) (A:Around) (outer:List Env) (s:Shared) (H:Hp) (E:XK),Room k (A.deeper (envOfC qual (z03 st) s.heap.objs.size f cdv)) ->
   QKB (zh3 (CX1 P w) P w K mg base N qual (z03 st) f cdv A outer s H E) F0 [0] (z0e st) g):FnOk P w K mg base (CX1 P w) (k+1) f fd ps (spU K (zvn n kk g) n):=by
 refine F.okX S (fun vs H Q E h=>?_) (fun cdv A outer s H vs Q E hr h=>?_)
 . obtain ⟨d,ds,a,ws,H0,rfl,hn,_,_,_,r,_⟩:=h
   rw [List.length_cons,<-r.length,hn,hps]
 . refine ⟨_,(hbody cdv A outer s H E hr).h,?_⟩
   obtain ⟨d,ds,a,ws,H0,rfl,hn,s0,h0,ob,r,h⟩:=h
   have hl:=r.length
   have e:start N (.ref a::ws)=some (.ref a)::(ws.map some++List.replicate kk none):=by
    unfold start
    rw [List.length_cons,hN,<-hl,show n+kk - (ds.length+1)=kk by omega]
    rfl
   rw [e]
   refine ⟨H0,hid [a] H,H0,Sl.ow d::(ds.map Sl.im++List.replicate kk Sl.em),F0.same _,(zrs s0 h0 ob r kk:RS K H0 (hid [a] H) H0 (Sl.ow d::(ds.map Sl.im++List.replicate kk Sl.em)) (some (.ref a)::(ws.map some++List.replicate kk none)) H),?_⟩
   unfold zvn at h
   simp only at h
   rw [if_pos hn] at h
   cases q:g (Sl.ow d::(ds.map Sl.im++List.replicate kk Sl.em)) with
   | nx ρ=>
    rw [q] at h
    intro σ' H' H0' RR kp
    match ρ,h,RR with
    | .ow d'::r',h,RR=>
     obtain ⟨a',z1,z2,z3,z4⟩:=RR.ow 0 d' rfl
     have:=kp 0 (List.mem_singleton.mpr rfl)
     rw [z1] at this
     cases this
     exact h H' H0' RR.sb RR.ext z2 z4
    | [],h,_=>exact h.elim
    | .im _::_,h,_=>exact h.elim
    | .em::_,h,_=>exact h.elim
   | rt d=>rw [q] at h;exact h.elim
   | er x=>rw [q] at h;exact h.elim
   | bk ρ=>rw [q] at h;exact h.elim
   | ct ρ=>rw [q] at h;exact h.elim
   | st=>rw [q] at h;exact h.elim
noncomputable def zk9 (i:Nat) (m:List Bool) (mU:List D->R D) (n:Nat) (fs:DE->R (List D)):DS->SR:=fun ρ=>match ρ[i]? with
 | some (.ow _)=>(fs (vis m ρ)).toS fun ds=>match (z59 (z3l ds) m ρ)[i]? with
  | some (.ow d)=>if ds.length+1=n then (match mU (d::ds) with
   | .ok d'=>.nx ((z59 (z3l ds) m ρ).set i (.ow d'))
   | _=>.st) else .st
  | _=>.st
 | _=>.st
section
variable {K:Frag} {EX:XW} {fr:Bool} {De:Ends} {σ:St} {H:Hp} {m:List Bool}
theorem RS.hidden {Hc Hb H0 H0' H':Hp} {ρ:DS} {i:Nat} {d d':D} {a:Addr} (R:RS K Hc Hb H0 ρ σ H) (q:ρ[i]?=some (.ow d)) (h1:σ[i]?=some (some (.ref a))) (s':Same (hid [a] H) H') (e':Ext H0 (hid [a] H) H0' H') (n':H0' a=none) (ob:OB K H0' H' a d'):RS K Hc Hb H0' (ρ.set i (.ow d')) σ H':=by
 obtain ⟨a',z1,z2,z3,z4⟩:=R.ow i d q
 rw [h1] at z1;cases z1
 have sbh:Same Hb (hid [a] H):=fun b o hb=>by
  rw [zfn fun hm=>by rw [List.mem_singleton.mp hm,z3] at hb;cases hb];exact R.sb b o hb
 refine ⟨sbh.trans s',⟨R.ext.1.trans e'.1,e'.2.1,fun b hb hc=>e'.2.2 b (sbh.ne hb) (R.ext.2.2 b hb hc)⟩,by simp [R.len],fun j e qj=>?_,fun j e qj=>?_,fun j k e1 e2 b q1 q2 s1 s2=>?_⟩
 . rcases zav qj with ⟨_,z⟩ | ⟨_,qj⟩
   . cases z
   . obtain ⟨v,v1,v2⟩:=R.im j e qj
     exact ⟨v,v1,v2.mono e'.1⟩
 . rcases zav qj with ⟨e0,z⟩ | ⟨ne,qj⟩
   . subst e0;cases z;exact ⟨a,h1,n',z3,ob⟩
   . obtain ⟨b,b1,b2,b3,b4⟩:=R.ow j e qj
     have na:b∉[a]:=fun hm=>ne (R.ap i j _ _ _ q qj h1 (by rw [b1,List.mem_singleton.mp hm]))
     obtain ⟨o,ho,_⟩:=b4.some
     have hh:hid [a] H b=some o:=by rw [zfn na];exact ho
     refine ⟨b,b1,e'.2.2 b (by rw [hh];exact fun z=>nomatch z) b2,b3,?_⟩
     exact (b4.at (by rw [ho];exact s' b o hh)).mono e'.1 (Same.refl _)
 . have back:∀(j:Nat) e,(ρ.set i (.ow d'))[j]?=some (.ow e)->∃e0,ρ[j]?=some (.ow e0):=fun j e qj=>by
    rcases zav qj with ⟨e0,_⟩ | ⟨_,qj⟩
    . subst e0;exact ⟨_,q⟩
    . exact ⟨_,qj⟩
   obtain ⟨x1,y1⟩:=back j e1 q1
   obtain ⟨x2,y2⟩:=back k e2 q2
   exact R.ap j k _ _ b y1 y2 s1 s2
theorem zvo {i n:Nat} {mU:List D->R D} {fs:DE->R (List D)} {E:XK} (h:TSd K EX fr (zk9 i m mU n fs) De σ H) :
  zdv (z9e (spU K mU n) E (zcq (zag i) (TAd K EX fs))) De σ H:=by
 obtain ⟨Hc,Hb,H0,ρ,sb,R,h⟩:=h
 unfold zk9 at h
 split at h
 . rename_i d0 q0
   rw [SK.toS] at h
   obtain ⟨a,h1,h2,h3,h4⟩:=R.ow i d0 q0
   unfold zdv z9e zcq zag
   rw [h1]
   refine ⟨sb.trans R.sb,vis m ρ,HeOf m ρ σ H0 H,R.heH m,R.re m,h.mono fun ds h vs H' H0' s e rds=>?_⟩
   obtain ⟨H0n,R',rd'⟩:=R.outs s e rds
   split at h
   . rename_i d q
     split at h
     . rename_i hn
       split at h
       . rename_i d' qm
         obtain ⟨a',z1,z2,z3,z4⟩:=R'.ow i d q
         rw [h1] at z1;cases z1
         refine ⟨d,ds,a,vs,H0n,rfl,hn,R'.ext.2.1,z2,z4,rd',?_⟩
         rw [qm]
         exact fun H2 H02 s2 e2 n2 ob=>h σ H2 H02 (R'.hidden q h1 s2 e2 n2 ob)
       . exact h.elim
     . exact h.elim
   . exact h.elim
 . exact h.elim
end
section
variable {X:Cx} {EX:XW} {fr:Bool}
theorem zms {i n kl jj:Nat} {fn:Str} {fp cp pos:Pos} {e1:Expr} {es:List Expr} {ps:List Str} {mU:List D->R D} {fs:DE->R (List D)} {m:List Bool} (G:z35 X.prog X.w X.K X.mg X.base fn ps kl (spU X.K mU n)) (hr:Room jj X.A) (hg:Gl X fn) (h1:PE X e1 (zag i)) (h2:QA X EX es fs) (hkj:kl<=jj:=by omega) (hdb:(fn==("__debug__":Str))=false:=by decide)
  (he:starEach (e1::es) X.env=(false,eval e1 X.env)::starEach es X.env:=by rfl) (hpl:(backTo cp (starEach es X.env)).any (·.1)=false:=by rfl)
  (hsw:swapsWith (.Call (.Name fn fp) (e1::es) [] cp) none pos.line X.env=pure false:=by rfl) :
  QS X EX fr (.Expr (.Call (.Name fn fp) (e1::es) [] cp) pos) (zk9 i m mU n fs):=
 ⟨(zdw (zex G (zuh (X:=X)).on hr hg (z65 h1 h2.h he) hkj hdb he hpl) hsw).imp fun _ _ _ q=>zvo q⟩
end
section
variable {prog:Program} {w:World} {A:Around} {E:Value->Shared->Prop} {s:Shared} {κ:SortKind} {a₀:Array Keyed} {rk:Keyed->Nat}
noncomputable def tk (rk:Keyed->Nat) (xs:Array Keyed) (i:Nat):Nat:=match xs[i]? with
 | some p=>rk p
 | none=>0
def z5j (prog:Program) (w:World) (A:Around) (E:Value->Shared->Prop) (s:Shared) (κ:SortKind) (a₀:Array Keyed) (rk:Keyed->Nat):Prop:=
 ∀x y,x∈a₀->y∈a₀->∀(st:SortSt) (Q:Option Bool->SortSt->Prop),kindOf st=κ->Q (some (decide (rk x<rk y))) st->wpS (model prog w) A E s (lt' x y) Q st
structure TBs (κ:SortKind) (a₀:Array Keyed) (st:SortSt):Prop where
 perm:(arrOf st).Perm a₀
 kind:kindOf st=κ
 ok:failedOf st=none
def TSo (rk:Keyed->Nat) (xs:Array Keyed) (lo hi:Nat):Prop:=∀i j,lo<=i->i<=j->j<hi->tk rk xs i<=tk rk xs j
theorem z1s {xs:Array Keyed} {i:Nat} (h:i<xs.size):tk rk xs i=rk xs[i]:=by unfold tk;rw [getElem?_pos xs i h]
theorem z61 {xs ys:Array Keyed} {i j:Nat} (h:xs[i]?=ys[j]?):tk rk xs i=tk rk ys j:=by unfold tk;rw [h]
theorem TBs.size {st:SortSt} (B:TBs κ a₀ st):(arrOf st).size=a₀.size:=B.perm.size_eq
theorem TBs.mem {st:SortSt} (B:TBs κ a₀ st) {x:Keyed} (h:x∈arrOf st):x∈a₀:=Array.mem_def.mpr ((Array.perm_iff_toList_perm.mp B.perm).mem_iff.mp (Array.mem_def.mp h))
theorem TBs.set {st:SortSt} (B:TBs κ a₀ st) {xs:Array Keyed} (hp:xs.Perm (arrOf st)):TBs κ a₀ (setArr st xs):=⟨hp.trans B.perm,B.kind,B.ok⟩
theorem z15 {st:SortSt} {xs:Array Keyed} {i:Nat} {Q:Keyed->SortSt->Prop} (h:i<xs.size) (q:Q xs[i] st):wpS (model prog w) A E s (elem' xs i) Q st:=by
 rw [elem'_eq,getElem?_pos xs i h]
 exact wpS_pure q
theorem znu (hc:z5j prog w A E s κ a₀ rk) {st:SortSt} (B:TBs κ a₀ st) {i j:Nat} (hi:i<a₀.size) (hj:j<a₀.size) {Q:Option Bool->SortSt->Prop}
  (h:Q (some (decide (tk rk (arrOf st) i<tk rk (arrOf st) j))) st):wpS (model prog w) A E s (ltAt' i j) Q st:=by
 rw [ltAt'_eq]
 have hi':i<(arrOf st).size:=by rw [B.size];exact hi
 have hj':j<(arrOf st).size:=by rw [B.size];exact hj
 rw [z1s hi',z1s hj'] at h
 refine wpS_bind (wpS_get (wpS_bind (z15 hi' (wpS_bind (z15 hj' ?_)))))
 exact hc _ _ (B.mem (Array.getElem_mem _)) (B.mem (Array.getElem_mem _)) st Q B.kind h
theorem z6m {xs:Array Keyed} {i j:Nat} (hj:j<=xs.size) (k:Nat):tk rk (mirror xs i j ((j - i) / 2)) k=if i<=k/\k<j then tk rk xs (i+j - 1 - k) else tk rk xs k:=by
 by_cases h:i<=k/\k<j<;>simp only [h,if_true,if_false]<;>refine z61 ?_<;>rw [getElem?_mirror_all hj]
 . rw [if_pos h]
 . rw [if_neg h]
theorem zg1 {xs:Array Keyed} {src d:Nat} (hs:src<xs.size) (hd:d<=src) (k:Nat) :
  tk rk (bubble xs src d) k=if k=src - d then tk rk xs src else if src - d<k/\k<=src then tk rk xs (k - 1) else tk rk xs k:=by
 have e:=getElem?_bubble hs d hd k
 by_cases h1:k=src - d
 . rw [if_pos h1] at e ⊢;exact z61 e
 . rw [if_neg h1] at e ⊢
   by_cases h2:src - d<k/\k<=src
   . rw [if_pos h2] at e ⊢;exact z61 e
   . rw [if_neg h2] at e ⊢;exact z61 e
theorem z8m {xs:Array Keyed} {i j:Nat} (hj:j<=xs.size) (ha:∀k,i<=k->k<j->tk rk xs k=tk rk xs (j - 1)) (k:Nat):tk rk (mirror xs i j ((j - i) / 2)) k=tk rk xs k:=by
 rw [z6m hj]
 by_cases h:i<=k/\k<j
 . rw [if_pos h,ha (i+j - 1 - k) (by omega) (by omega),ha k h.1 h.2]
 . rw [if_neg h]
theorem TSo.step {xs:Array Keyed} {lo n:Nat} (h:TSo rk xs lo (lo+n)) (h1:1<=n) (hn:tk rk xs (lo+n - 1)<=tk rk xs (lo+n)):TSo rk xs lo (lo+(n+1)):=fun i j h0 h1' h2=>by
 by_cases hj:j=lo+n
 . subst hj
   by_cases hi:i=lo+n
   . rw [hi];exact Nat.le_refl _
   . exact Nat.le_trans (h i (lo+n - 1) h0 (by omega) (by omega)) hn
 . exact h i j h0 h1' (by omega)
theorem TSo.one {xs:Array Keyed} (lo:Nat):TSo rk xs lo (lo+1):=fun i j h0 h1 h2=>by
 obtain rfl:i=j:=by omega
 exact Nat.le_refl _
structure TL (st st':SortSt) (lo:Nat):Prop where
 low:∀k,k<lo->(arrOf st')[k]?=(arrOf st)[k]?
 pend:pendingOf st'=pendingOf st
theorem TL.refl (st:SortSt) (lo:Nat):TL st st lo:=⟨fun _ _=>rfl,rfl⟩
theorem TL.trans {a b c:SortSt} {lo:Nat} (h:TL a b lo) (k:TL b c lo):TL a c lo:=⟨fun i hi=>(k.low i hi).trans (h.low i hi),k.pend.trans h.pend⟩
theorem TL.mirror {st:SortSt} {lo i j:Nat} (hi:lo<=i) (hj:j<=(arrOf st).size):TL st (setArr st (mirror (arrOf st) i j ((j - i) / 2))) lo:=
 ⟨fun k hk=>by show (PyProof.Rows.mirror (arrOf st) i j ((j - i) / 2))[k]?=_;rw [getElem?_mirror_all hj,if_neg (by omega)],rfl⟩
theorem zih {st:SortSt} {i j:Nat} {Q:Unit->SortSt->Prop} (h:Q () (setArr st (mirror (arrOf st) i j ((j - i) / 2)))):wpS (model prog w) A E s (reverseSlice' i j) Q st:=by
 rw [reverseSlice'_eq]
 exact wpS_modify h
theorem TSo.ups' {xs:Array Keyed} {lo a:Nat} (h:TSo rk xs lo (lo+a)) (ha:1<=a):∀{n:Nat},a<=n->(∀i,a<=i->i<n->tk rk xs (lo+i - 1)<=tk rk xs (lo+i))->TSo rk xs lo (lo+n)
 | 0,z,_=>by omega
 | n+1,z,up=>by
  by_cases e:a=n+1
  . rw [<-e];exact h
  . exact (TSo.ups' h ha (n:=n) (by omega) fun i a b=>up i a (by omega)).step (by omega) (up n (by omega) (by omega))
theorem TSo.ups {xs:Array Keyed} {lo n:Nat} (h:TSo rk xs lo (lo+1)) (hn:1<=n) (up:∀i,1<=i->i<n->tk rk xs (lo+i - 1)<=tk rk xs (lo+i)):TSo rk xs lo (lo+n):=h.ups' (Nat.le_refl _) hn up
theorem z7s {σ:Type} {r:String} {Q:Unit->σ->Prop} {st:σ} (h:Q () st):wpS (model prog w) A E s (liftM (rule r):StateT σ Sem Unit) Q st:=wpS_lift (wpAny_rule ⟨rfl,h⟩)
theorem zwu {σ β:Type} {f:Nat->β->StateT σ Sem (ForInStep β)} (mk:Nat->β) (st:σ) (down:Nat->Bool) {a b:Nat} {Q:β->σ->Prop} (hab:a<=b)
  (go:∀x n (Q:ForInStep β->σ->Prop),a<=n->n<b->Q (if down n=true then .done (mk n) else .yield (mk (n+1))) st->wpS (model prog w) A E s (f x (mk n)) Q st)
  (h:∀n,a<=n->n<=b->(∀i,a<=i->i<n->down i=false)->(n<b->down n=true)->Q (mk n) st):wpS (model prog w) A E s (forIn [a:b] (mk a) f) Q st:=by
 refine wpS_forRange (I:=fun x c u=>u=st/\c=mk x/\∀i,a<=i->i<x->down i=false) (fun x c u hx hb hI=>?_) (fun c u hI=>?_) ⟨rfl,rfl,fun i y z=>by omega⟩
 . obtain ⟨rfl,rfl,up⟩:=hI
   refine go x x _ hx hb ?_
   cases hd:down x
   . exact ⟨rfl,rfl,fun i y z=>by
    by_cases e:i=x
    . rw [e];exact hd
    . exact up i y (by omega)⟩
   . exact h x hx (Nat.le_of_lt hb) up fun _=>hd
 . obtain ⟨rfl,rfl,up⟩:=hI
   rw [Nat.max_eq_right hab] at up ⊢
   exact h b hab (Nat.le_refl _) up fun z=>absurd z (Nat.lt_irrefl _)
theorem zka {σ β:Type} {f:Nat->β->StateT σ Sem (ForInStep β)} (mk:Nat->Nat->β) (st:σ) (mid:Nat->Nat->Nat) (p:Nat->Bool) {N l0 r0:Nat} {Q:β->σ->Prop} (hmid:∀l r,l<r->l<=mid l r/\mid l r<r)
  (go:∀x l r (Q:ForInStep β->σ->Prop),l0<=l->l<r->r<=r0->Q (.yield (if p (mid l r)=true then mk (mid l r+1) r else mk l (mid l r))) st->wpS (model prog w) A E s (f x (mk l r)) Q st)
  (stop:∀x l (Q:ForInStep β->σ->Prop),l<=r0->Q (.done (mk l l)) st->wpS (model prog w) A E s (f x (mk l l)) Q st)
  (mono:∀i j,l0<=i->i<=j->j<r0->p j=true->p i=true) (hl:l0<=r0) (hN:r0<=l0+N)
  (h:∀k,l0<=k->k<=r0->(∀i,l0<=i->i<k->p i=true)->(∀i,k<=i->i<r0->p i=false)->Q (mk k k) st):wpS (model prog w) A E s (forIn [0:N] (mk l0 r0) f) Q st:=by
 have key:∀l r,l0<=l->l<=r->r<=r0->(∀i,l0<=i->i<l->p i=true)->(∀i,r<=i->i<r0->p i=false)->l=r->Q (mk l r) st:=fun l r a b c d e z=>by subst z;exact h l a c d e
 refine wpS_forRange (I:=fun x c u=>u=st/\∃l r,(l0<=l/\l<=r/\r<=r0/\r+x<=l+N)/\c=mk l r/\(∀i,l0<=i->i<l->p i=true)/\∀i,r<=i->i<r0->p i=false)
  (fun x c u _ hb hI=>?_) (fun c u hI=>?_) ⟨rfl,l0,r0,⟨Nat.le_refl _,hl,Nat.le_refl _,by omega⟩,rfl,fun i a b=>by omega,fun i a b=>by omega⟩
 . obtain ⟨rfl,l,r,⟨b1,b2,b3,b4⟩,rfl,lt,gt⟩:=hI
   by_cases e:l=r
   . subst e
     exact stop x l _ b3 (key l l b1 b2 b3 lt gt rfl)
   . have hm:=hmid l r (by omega)
     refine go x l r _ b1 (by omega) b3 ?_
     cases hp:p (mid l r)
     . exact ⟨rfl,l,mid l r,⟨b1,hm.1,by omega,by omega⟩,rfl,lt,fun i a b=>by
      cases hi:p i
      . rfl
      . rw [mono (mid l r) i (by omega) a b hi] at hp;cases hp⟩
     . exact ⟨rfl,mid l r+1,r,⟨by omega,by omega,b3,by omega⟩,rfl,fun i a b=>mono i (mid l r) a (by omega) (by omega) hp,gt⟩
 . obtain ⟨rfl,l,r,⟨b1,b2,b3,b4⟩,rfl,lt,gt⟩:=hI
   exact key l r b1 b2 b3 lt gt (by simp only [Nat.zero_max] at b4;omega)
theorem zmt (hc:z5j prog w A E s κ a₀ rk) {st:SortSt} (B:TBs κ a₀ st) {lo nrem:Nat} (hz:lo+nrem<=a₀.size) (h1:1<=nrem) {Q:Option Nat->SortSt->Prop}
  (h:∀n st',1<=n->n<=nrem->TBs κ a₀ st'->TL st st' lo->TSo rk (arrOf st') lo (lo+n)->Q (some n) st'):wpS (model prog w) A E s (countRun' lo nrem) Q st:=by
 rw [countRun'_eq]
 refine wpS_bind (zwu (fun n=>(none,n)) st (fun n=>decide (tk rk (arrOf st) (lo+n)<tk rk (arrOf st) (lo+n - 1))) h1 (fun x n Q a b q=>wpS_bind (znu hc B (by omega) (by omega) ?_)) fun n hn1 hn2 up dn=>?_)
 . by_cases hl:tk rk (arrOf st) (lo+n)<tk rk (arrOf st) (lo+n - 1)
   . simp only [hl,decide_true,if_true] at q ⊢;exact wpS_pure q
   . simp only [hl,decide_false,Bool.false_eq_true,if_false] at q ⊢;exact wpS_pure q
 have hs:=TSo.ups (n:=n) (TSo.one (rk:=rk) (xs:=arrOf st) lo) hn1 fun i a b=>by have:=up i a b;simp only [decide_eq_false_iff_not] at this;omega
 have hd:n<nrem->tk rk (arrOf st) (lo+n)<tk rk (arrOf st) (lo+n - 1):=fun z=>by simpa using dn z
 dsimp only
 by_cases hnr:n=nrem
 . rw [if_pos (by simp [hnr])]
   exact wpS_pure (h n _ hn1 hn2 B (.refl _ _) hs)
 rw [if_neg (by simp [hnr])]
 have hd':=hd (by omega)
 have z40:∀(xs:Array Keyed),TSo rk xs lo (lo+n)->¬tk rk xs lo<tk rk xs (lo+n - 1)->∀k,lo<=k->k<lo+n->tk rk xs k=tk rk xs (lo+n - 1):=fun xs hs hr k h0 h1=>by
  have a:=hs lo k (Nat.le_refl _) h0 h1
  have b:=hs k (lo+n - 1) h0 (by omega) (by omega)
  omega
 have ni0:∀(xs:Array Keyed),(∀k,lo<=k->k<lo+n->tk rk xs k=tk rk xs (lo+n - 1))->tk rk xs (lo+n)<tk rk xs (lo+n - 1)->∀i j,lo<=i->i<=j->j<lo+(n+1)->tk rk xs j<=tk rk xs i:=fun xs fl hd i j h0 h1 h2=>by
  by_cases hj:j=lo+n
  . subst hj
    by_cases hi:i=lo+n
    . rw [hi];exact Nat.le_refl _
    . rw [fl i h0 (by omega)];omega
  . rw [fl i h0 (by omega),fl j (by omega) (by omega)];exact Nat.le_refl _
 rcases Nat.lt_or_ge 1 n with hn | hn
 case' inl=>
  rw [if_pos hn]
  refine wpS_bind (znu hc B (by omega) (by omega) ?_)
  by_cases hr:tk rk (arrOf st) lo<tk rk (arrOf st) (lo+n - 1)
  . simp only [hr,decide_true,if_true]
    exact wpS_pure (h n _ hn1 hn2 B (.refl _ _) hs)
  simp only [hr,decide_false,Bool.false_eq_true,if_false]
  have hz0:lo+n<=(arrOf st).size:=by rw [B.size];omega
  have fl:=z40 _ hs hr
  have ea:=z8m hz0 fl
  refine wpS_bind (zih ?_)
  obtain ⟨st1,B1,L1,ni,e1⟩:∃st1,TBs κ a₀ st1/\TL st st1 lo/\(∀i j,lo<=i->i<=j->j<lo+(n+1)->tk rk (arrOf st1) j<=tk rk (arrOf st1) i)/\st1=setArr st (mirror (arrOf st) lo (lo+n) ((lo+n - lo) / 2)):=
   ⟨_,B.set (mirror_perm _ _ _ _),.mirror (Nat.le_refl _) hz0,fun i j h0 h1 h2=>by
    show tk rk (mirror (arrOf st) _ _ _) j<=tk rk (mirror (arrOf st) _ _ _) i
    rw [ea,ea]
    exact ni0 _ fl hd' i j h0 h1 h2,rfl⟩
  rw [<-e1]
  clear e1
 case' inr=>
  rw [if_neg (by omega)]
  obtain ⟨st1,B1,L1,ni,e1⟩:∃st1,TBs κ a₀ st1/\TL st st1 lo/\(∀i j,lo<=i->i<=j->j<lo+(n+1)->tk rk (arrOf st1) j<=tk rk (arrOf st1) i)/\st1=st:=
   ⟨_,B,.refl _ _,ni0 _ (z40 _ hs (by rw [show lo+n - 1=lo by omega];exact Nat.lt_irrefl _)) hd',rfl⟩
  rw [<-e1]
  clear e1
 all_goals
  refine wpS_bind (z7s ?_)
  refine wpS_bind (wpS_mono (wpS_forRange (I:=fun x c st2=>TBs κ a₀ st2/\TL st st2 lo/\∃q,c=(none,x,q)/\q+1<=x/\(∀i j,lo<=i->i<=j->j<lo+x->tk rk (arrOf st2) j<=tk rk (arrOf st2) i)/\∀k,lo+x - (q+1)<=k->k<lo+x->tk rk (arrOf st2) k=tk rk (arrOf st2) (lo+x - 1))
   (Q:=fun c st2=>TBs κ a₀ st2/\TL st st2 lo/\∃x q,c=(none,x,q)/\1<=x/\x<=nrem/\q+1<=x/\(∀i j,lo<=i->i<=j->j<lo+x->tk rk (arrOf st2) j<=tk rk (arrOf st2) i)/\∀k,lo+x - (q+1)<=k->k<lo+x->tk rk (arrOf st2) k=tk rk (arrOf st2) (lo+x - 1)) ?step ?fin ⟨B1,L1,0,rfl,by omega,ni,fun k h0 h1=>by rw [show k=lo+(n+1) - 1 by omega]⟩) ?post)
  case fin=>
   rintro c st2 ⟨B2,L2,q,rfl,hq,ni2,al⟩
   rw [show max (n+1) nrem=nrem by omega] at *
   exact ⟨B2,L2,nrem,q,rfl,h1,Nat.le_refl _,hq,ni2,al⟩
  case post=>
   rintro c st2 ⟨B2,L2,x,q,rfl,hx1,hx2,hq,ni2,al⟩
   have hz2:lo+x<=(arrOf st2).size:=by rw [B2.size];omega
   dsimp only
   rcases Nat.lt_or_ge 0 q with hq0 | hq0
   case' inl=>
    rw [if_pos hq0]
    refine wpS_bind (zih ?_)
    have ea:=z8m hz2 al
    obtain ⟨st3,B3,L3,ni3,e3⟩:∃st3,TBs κ a₀ st3/\TL st st3 lo/\(∀i j,lo<=i->i<=j->j<lo+x->tk rk (arrOf st3) j<=tk rk (arrOf st3) i)/\st3=setArr st2 (mirror (arrOf st2) (lo+x - (q+1)) (lo+x) ((lo+x - (lo+x - (q+1))) / 2)):=
     ⟨_,B2.set (mirror_perm _ _ _ _),L2.trans (.mirror (by omega) hz2),fun i j h0 h1 h2=>by
      show tk rk (mirror (arrOf st2) _ _ _) j<=tk rk (mirror (arrOf st2) _ _ _) i
      rw [ea,ea];exact ni2 i j h0 h1 h2,rfl⟩
    rw [<-e3]
    clear e3
   case' inr=>
    rw [if_neg (by omega)]
    obtain ⟨st3,B3,L3,ni3,e3⟩:∃st3,TBs κ a₀ st3/\TL st st3 lo/\(∀i j,lo<=i->i<=j->j<lo+x->tk rk (arrOf st3) j<=tk rk (arrOf st3) i)/\st3=st2:=⟨_,B2,L2,ni2,rfl⟩
    rw [<-e3]
    clear e3
   all_goals
    have hz3:lo+x<=(arrOf st3).size:=by rw [B3.size];omega
    refine wpS_bind (zih ?_)
    obtain ⟨st4,e4⟩:∃st4,st4=setArr st3 (mirror (arrOf st3) lo (lo+x) ((lo+x - lo) / 2)):=⟨_,rfl⟩
    have B4:TBs κ a₀ st4:=e4 ▸ B3.set (mirror_perm _ _ _ _)
    have L4:TL st st4 lo:=e4 ▸ L3.trans (.mirror (Nat.le_refl _) hz3)
    have s0:TSo rk (arrOf st4) lo (lo+x):=fun i j h0 h1 h2=>by
     rw [e4]
     show tk rk (mirror (arrOf st3) lo (lo+x) _) i<=tk rk (mirror (arrOf st3) lo (lo+x) _) j
     rw [z6m hz3,z6m hz3,if_pos (by omega),if_pos (by omega)]
     exact ni3 _ _ (by omega) (by omega) (by omega)
    rw [<-e4]
    clear e4
    refine wpS_bind (zwu (fun n=>(none,n)) st4 (fun n=>decide (tk rk (arrOf st4) (lo+n)<tk rk (arrOf st4) (lo+n - 1))) hx2 (fun y m Q a b q=>wpS_bind (znu hc B4 (by omega) (by omega) ?_)) fun m hm1 hm2 up _=>?_)
    . by_cases hl:tk rk (arrOf st4) (lo+m)<tk rk (arrOf st4) (lo+m - 1)
      . simp only [hl,decide_true,if_true] at q ⊢;exact wpS_pure q
      . simp only [hl,decide_false,Bool.false_eq_true,if_false] at q ⊢;exact wpS_pure q
    . dsimp only
      refine wpS_pure (h m _ (by omega) hm2 B4 L4 (s0.ups' hx1 hm1 fun i a b=>?_))
      have:=up i a b
      simp only [decide_eq_false_iff_not] at this
      omega
  case step=>
   rintro x c st2 hnx hxr ⟨B2,L2,q,rfl,hq,ni2,al⟩
   have hz2:lo+x<=(arrOf st2).size:=by rw [B2.size];omega
   dsimp only
   refine wpS_bind (znu hc B2 (by omega) (by omega) ?_)
   have ext:∀(xs:Array Keyed),(∀i j,lo<=i->i<=j->j<lo+x->tk rk xs j<=tk rk xs i)->tk rk xs (lo+x)<=tk rk xs (lo+x - 1)->∀i j,lo<=i->i<=j->j<lo+(x+1)->tk rk xs j<=tk rk xs i:=fun xs nx hx i j h0 h1 h2=>by
    by_cases hj:j=lo+x
    . subst hj
      by_cases hi:i=lo+x
      . rw [hi];exact Nat.le_refl _
      . exact Nat.le_trans hx (nx i (lo+x - 1) h0 (by omega) (by omega))
    . exact nx i j h0 h1 (by omega)
   by_cases hl:tk rk (arrOf st2) (lo+x)<tk rk (arrOf st2) (lo+x - 1)
   . simp only [hl,decide_true,if_true]
     by_cases hq0:q > 0
     . rw [if_pos hq0]
       have ea:=z8m hz2 al
       refine wpS_bind (zih (wpS_pure ⟨B2.set (mirror_perm _ _ _ _),L2.trans (.mirror (by omega) hz2),0,rfl,by omega,ext _ (fun i j h0 h1 h2=>?_) ?_,fun k h0 h1=>by rw [show k=lo+(x+1) - 1 by omega]⟩))
       . show tk rk (mirror (arrOf st2) _ _ _) j<=tk rk (mirror (arrOf st2) _ _ _) i
         rw [ea,ea];exact ni2 i j h0 h1 h2
       . show tk rk (mirror (arrOf st2) _ _ _) _<=tk rk (mirror (arrOf st2) _ _ _) _
         rw [ea,ea];exact Nat.le_of_lt hl
     . rw [if_neg hq0]
       exact wpS_pure ⟨B2,L2,0,rfl,by omega,ext _ ni2 (Nat.le_of_lt hl),fun k h0 h1=>by rw [show k=lo+(x+1) - 1 by omega]⟩
   . simp only [hl,decide_false,Bool.false_eq_true,if_false]
     refine wpS_bind (znu hc B2 (by omega) (by omega) ?_)
     by_cases hg:tk rk (arrOf st2) (lo+x - 1)<tk rk (arrOf st2) (lo+x)
     . simp only [hg,decide_true,if_true]
       exact wpS_pure ⟨B2,L2,x,q,rfl,by omega,by omega,hq,ni2,al⟩
     . simp only [hg,decide_false,Bool.false_eq_true,if_false]
       refine wpS_pure ⟨B2,L2,q+1,rfl,by omega,ext _ ni2 (by omega),fun k h0 h1=>?_⟩
       rw [show lo+(x+1) - 1=lo+x by omega]
       by_cases hk:k=lo+x
       . rw [hk]
       . rw [al k (by omega) (by omega)];omega
theorem TSo.down {xs:Array Keyed} {lo k l:Nat} (hz:lo+k<xs.size) (hl:l<=k) (hs:TSo rk xs lo (lo+k)) (below:∀i,i<l->tk rk xs (lo+i)<=tk rk xs (lo+k)) (above:∀i,l<=i->i<k->tk rk xs (lo+k)<tk rk xs (lo+i)) :
  TSo rk (bubble xs (lo+k) (lo+k - (lo+l))) lo (lo+(k+1)):=fun i j h0 hij hj=>by
 obtain ⟨i,rfl⟩:∃i',i=lo+i':=⟨i - lo,by omega⟩
 obtain ⟨j,rfl⟩:∃j',j=lo+j':=⟨j - lo,by omega⟩
 have val:∀m,m<=k->tk rk (bubble xs (lo+k) (lo+k - (lo+l))) (lo+m)=if m<l then tk rk xs (lo+m) else if m=l then tk rk xs (lo+k) else tk rk xs (lo+(m - 1)):=fun m hm=>by
  rw [zg1 hz (by omega)]
  by_cases a:m<l
  . rw [if_neg (by omega),if_neg (by omega),if_pos a]
  . by_cases b:m=l
    . rw [if_pos (by omega),if_neg a,if_pos b]
    . rw [if_neg (by omega),if_pos (by omega),if_neg a,if_neg b,show lo+m - 1=lo+(m - 1) by omega]
 have st:∀a b,a<=b->b<k->tk rk xs (lo+a)<=tk rk xs (lo+b):=fun a b u v=>hs _ _ (by omega) (by omega) (by omega)
 rw [val i (by omega),val j (by omega)]
 by_cases a:j<l
 . rw [if_pos a,if_pos (by omega)];exact st i j (by omega) (by omega)
 . rw [if_neg a]
   by_cases b:i<l
   . rw [if_pos b]
     by_cases c:j=l
     . rw [if_pos c];exact below i b
     . rw [if_neg c];exact st i (j - 1) (by omega) (by omega)
   . rw [if_neg b]
     by_cases c:i=l
     . rw [if_pos c]
       by_cases d:j=l
       . rw [if_pos d];exact Nat.le_refl _
       . rw [if_neg d];exact Nat.le_of_lt (above _ (by omega) (by omega))
     . rw [if_neg c,if_neg (by omega)];exact st _ _ (by omega) (by omega)
theorem zvp (hc:z5j prog w A E s κ a₀ rk) {st:SortSt} (B:TBs κ a₀ st) {lo n ok:Nat} (hz:lo+n<=a₀.size) (h1:1<=ok) (hok:ok<=n) (hs:TSo rk (arrOf st) lo (lo+ok)) {Q:Bool->SortSt->Prop}
  (h:∀u,TBs κ a₀ u->TL st u lo->TSo rk (arrOf u) lo (lo+n)->Q true u):wpS (model prog w) A E s (binarySort' lo n ok) Q st:=by
 rw [binarySort'_eq,Nat.max_eq_left h1]
 refine wpS_bind (wpS_mono (wpS_forRange (I:=fun k c u=>c=(none,())/\TBs κ a₀ u/\TL st u lo/\TSo rk (arrOf u) lo (lo+k))
  (Q:=fun c u=>c=(none,())/\TBs κ a₀ u/\TL st u lo/\TSo rk (arrOf u) lo (lo+n)) (fun k c u ha hb hI=>?_) (fun c u hI=>by rwa [Nat.max_eq_right hok] at hI) ⟨rfl,B,.refl _ _,hs⟩) fun c u hI=>?_)
 . obtain ⟨rfl,B1,L1,hs⟩:=hI
   have hz1:lo+k<(arrOf u).size:=by rw [B1.size];omega
   refine wpS_bind (zka (fun l r=>(none,l,r)) u (fun l r=>(l+r) / 2) (fun i=>decide (tk rk (arrOf u) (lo+i)<=tk rk (arrOf u) (lo+k))) (fun l r _=>by omega) (fun x l r Q a b c q=>?_) (fun x l Q _ q=>?_) (fun i j _ a b c=>?_) (Nat.zero_le _) (by omega) fun l _ hl lt gt=>?_)
   . dsimp only
     rw [if_neg (by omega)]
     refine wpS_bind (znu hc B1 (by omega) (by omega) ?_)
     by_cases z:tk rk (arrOf u) (lo+k)<tk rk (arrOf u) (lo+(l+r) / 2)
     . simp only [z,Nat.not_le.mpr z,decide_true,decide_false,Bool.false_eq_true,if_true,if_false] at q ⊢
       exact wpS_pure q
     . simp only [z,Nat.not_lt.mp z,decide_true,decide_false,Bool.false_eq_true,if_true,if_false] at q ⊢
       exact wpS_pure q
   . dsimp only
     rw [if_pos (Nat.le_refl _)]
     exact wpS_pure q
   . simp only [decide_eq_true_eq] at c ⊢
     exact Nat.le_trans (hs _ _ (by omega) (by omega) (by omega)) c
   . dsimp only
     rw [moveDown'_eq]
     refine wpS_bind (wpS_modify (wpS_pure ⟨rfl,B1.set (bubble_perm _ _ _),L1.trans ⟨fun j hj=>?_,rfl⟩,?_⟩))
     . show (bubble (arrOf u) (lo+k) (lo+k - (lo+l)))[j]?=_
       rw [getElem?_bubble hz1 _ (by omega),if_neg (by omega),if_neg (by omega)]
     . exact TSo.down hz1 hl hs (fun i a=>by simpa using lt i (Nat.zero_le _) a) fun i a b=>by simpa using gt i a b
 . obtain ⟨rfl,B1,L1,hs⟩:=hI
   exact wpS_pure (h u B1 L1 hs)
end
section
variable {prog:Program} {w:World} {A:Around} {E:Value->Shared->Prop} {s:Shared} {κ:SortKind} {a₀:Array Keyed} {rk:Keyed->Nat}
theorem zrt {σ β:Type} {f:Nat->β->StateT σ Sem (ForInStep β)} (mk:Nat->Nat->β) (st:σ) (q:Nat->Bool) {N M:Nat} {Q:β->σ->Prop} (q0:q 0=true) (hM:0<M) (hN:M<=N)
  (go:∀x last ofs (Q:ForInStep β->σ->Prop),0<ofs->ofs<M->Q (if q ofs=true then .yield (mk ofs (2 * ofs+1)) else .done (mk last ofs)) st->wpS (model prog w) A E s (f x (mk last ofs)) Q st)
  (stop:∀x last ofs (Q:ForInStep β->σ->Prop),M<=ofs->Q (.done (mk last ofs)) st->wpS (model prog w) A E s (f x (mk last ofs)) Q st)
  (h:∀last ofs,last<ofs->last<M->q last=true->(ofs<M->q ofs=false)->Q (mk last ofs) st):wpS (model prog w) A E s (forIn [0:N] (mk 0 1) f) Q st:=by
 refine wpS_forRange (I:=fun x c u=>u=st/\∃last ofs,c=mk last ofs/\x<ofs/\last<ofs/\last<M/\q last=true) (fun x c u _ _ hI=>?_) (fun c u hI=>?_) ⟨rfl,0,1,rfl,by omega,by omega,hM,q0⟩
 . obtain ⟨rfl,last,ofs,rfl,b1,b2,b3,b4⟩:=hI
   by_cases hm:ofs<M
   . refine go x last ofs _ (by omega) hm ?_
     cases hq:q ofs
     . exact h last ofs b2 b3 b4 fun _=>hq
     . exact ⟨rfl,ofs,2 * ofs+1,rfl,by omega,by omega,hm,hq⟩
   . exact stop x last ofs _ (by omega) (h last ofs b2 b3 b4 fun z=>absurd z hm)
 . obtain ⟨rfl,last,ofs,rfl,b1,b2,b3,b4⟩:=hI
   exact h last ofs b2 b3 b4 fun z=>by omega
noncomputable def gal:Bool->Keyed->Array Keyed->Nat->Nat->Nat->StateT SortSt Sem (Option Nat):=sortPriv% PySem.Builtin.gallop
noncomputable def bey (rk:Keyed->Nat) (left:Bool) (key:Keyed) (arr:Array Keyed) (base i:Nat):Bool:=if left=true then decide (tk rk arr (base+i)<rk key) else !decide (rk key<tk rk arr (base+i))
theorem zvq (hc:z5j prog w A E s κ a₀ rk) {st:SortSt} (hk:kindOf st=κ) {left:Bool} {key:Keyed} {arr:Array Keyed} {base i:Nat} (kin:key∈a₀) (ain:∀x∈arr,x∈a₀) (hz:base+i<arr.size) {Q:Option Bool->SortSt->Prop}
  (h:Q (some (bey rk left key arr base i)) st):wpS (model prog w) A E s (elem' arr (base+i) >>= fun x=>if left=true then lt' x key else lt' key x >>= fun r=>pure (r.map fun b=>!b)) Q st:=by
 refine wpS_bind (z15 hz ?_)
 unfold bey at h
 rw [z1s hz] at h
 cases left with
 | true=>
  rw [if_pos rfl] at h ⊢
  exact hc _ _ (ain _ (Array.getElem_mem _)) kin st Q hk h
 | false=>
  rw [if_neg Bool.false_ne_true] at h ⊢
  exact wpS_bind (hc _ _ kin (ain _ (Array.getElem_mem _)) st _ hk (wpS_pure h))
theorem zde (hc:z5j prog w A E s κ a₀ rk) {st:SortSt} (hk:kindOf st=κ) {left:Bool} {key:Keyed} {arr:Array Keyed} {base n hint:Nat} (kin:key∈a₀) (ain:∀x∈arr,x∈a₀) (hz:base+n<=arr.size) (hh:hint<n)
  (mono:∀i j,i<=j->j<n->bey rk left key arr base j=true->bey rk left key arr base i=true) {Q:Option Nat->SortSt->Prop}
  (h:∀k,k<=n->(∀i,i<k->bey rk left key arr base i=true)->(∀i,k<=i->i<n->bey rk left key arr base i=false)->Q (some k) st):wpS (model prog w) A E s (gal left key arr base n hint) Q st:=by
 have anti:∀i j,i<=j->j<n->bey rk left key arr base i=false->bey rk left key arr base j=false:=fun i j a b c=>by
  cases e:bey rk left key arr base j
  . rfl
  . rw [mono i j a b e] at c;cases c
 have ask:∀i (Q:Option Bool->SortSt->Prop),i<n->Q (some (bey rk left key arr base i)) st->wpS (model prog w) A E s (elem' arr (base+i) >>= fun x=>if left=true then lt' x key else lt' key x >>= fun r=>pure (r.map fun b=>!b)) Q st:=fun i Q hi q=>zvq hc hk kin ain (by omega) q
 unfold gal
 refine wpS_bind (ask hint _ hh ?_)
 dsimp only
 rcases hr:bey rk left key arr base hint with _ | _
 case' true=>
  rw [if_pos rfl]
  refine wpS_bind (zrt (fun l o=>(none,l,o)) st (fun o=>bey rk left key arr base (hint+o)) (M:=n - hint) hr (by omega) (by omega) (fun x last ofs Q a b q=>?_) (fun x last ofs Q a q=>?_) fun last ofs a b c d=>?_)
  . dsimp only
    rw [if_neg (by omega)]
    refine wpS_bind (ask _ _ (by omega) ?_)
    dsimp only
    cases e:bey rk left key arr base (hint+ofs)<;>rw [e] at q<;>exact wpS_pure q
  . dsimp only
    rw [if_pos (by omega)]
    exact wpS_pure q
  dsimp only
  obtain ⟨lo,hi,elo,ehi,b1,b2,b3,b4⟩:∃lo hi,lo=hint+last+1/\hi=hint+min ofs (n - hint)/\lo<=hi/\hi<=n/\(∀i,i<lo->bey rk left key arr base i=true)/\∀i,hi<=i->i<n->bey rk left key arr base i=false:=
   ⟨_,_,rfl,rfl,by omega,by omega,fun i z=>mono i (hint+last) (by omega) (by omega) c,fun i y z=>anti (hint+ofs) i (by omega) z (d (by omega))⟩
  rw [<-elo,<-ehi]
  clear elo ehi c d
 case' false=>
  rw [if_neg Bool.false_ne_true]
  refine wpS_bind (zrt (fun l o=>(none,l,o)) st (fun o=>!bey rk left key arr base (hint - o)) (M:=hint+1) (by rw [Nat.sub_zero,hr];rfl) (by omega) (by omega) (fun x last ofs Q a b q=>?_) (fun x last ofs Q a q=>?_) fun last ofs a b c d=>?_)
  . dsimp only
    rw [if_neg (by omega)]
    refine wpS_bind (ask _ _ (by omega) ?_)
    dsimp only
    cases e:bey rk left key arr base (hint - ofs)<;>rw [e] at q<;>exact wpS_pure q
  . dsimp only
    rw [if_pos (by omega)]
    exact wpS_pure q
  dsimp only
  obtain ⟨lo,hi,elo,ehi,b1,b2,b3,b4⟩:∃lo hi,lo=hint+1 - min ofs (hint+1)/\hi=hint - last/\lo<=hi/\hi<=n/\(∀i,i<lo->bey rk left key arr base i=true)/\∀i,hi<=i->i<n->bey rk left key arr base i=false:=
   ⟨_,_,rfl,rfl,by omega,by omega,fun i z=>mono i (hint - ofs) (by omega) (by omega) (by simpa using d (by omega)),fun i y z=>anti (hint - last) i (by omega) z (by simpa using c)⟩
  rw [<-elo,<-ehi]
  clear elo ehi c d
 all_goals
  refine wpS_bind (zka (fun l r=>(none,l,r)) st (fun l r=>l+(r - l) / 2) (bey rk left key arr base) (fun l r _=>by omega) (fun x l r Q a b c q=>?_) (fun x l Q _ q=>?_) (fun i j _ a b c=>mono i j a (by omega) c) b1 (by omega) fun k _ hk lt gt=>?_)
  . dsimp only
    rw [if_neg (by omega)]
    refine wpS_bind (ask _ _ (by omega) ?_)
    dsimp only
    cases e:bey rk left key arr base (l+(r - l) / 2)<;>rw [e] at q<;>exact wpS_pure q
  . dsimp only
    rw [if_pos (Nat.le_refl _)]
    exact wpS_pure q
  . dsimp only
    refine wpS_pure (h k (by omega) (fun i z=>?_) fun i y z=>?_)
    . by_cases e:i<lo
      . exact b3 i e
      . exact lt i (by omega) z
    . by_cases e:i<hi
      . exact gt i y e
      . exact b4 i (by omega) z
end
section
variable {R:Keyed->Keyed->Prop}
def AscR (R:Keyed->Keyed->Prop) (l:List Keyed):Prop:=l.Pairwise R
structure MR (R:Keyed->Keyed->Prop) (A B out:List Keyed) (ia ib:Nat):Prop where
 perm:out.Perm (A.take ia++B.take ib)
 asc:AscR R out
 la:∀x∈out,∀y∈A.drop ia,R x y
 lb:∀x∈out,∀y∈B.drop ib,R x y
theorem AscR.drop {l:List Keyed} (h:AscR R l) (n:Nat):AscR R (l.drop n):=h.sublist (List.drop_sublist _ _)
theorem AscR.take {l:List Keyed} (h:AscR R l) (n:Nat):AscR R (l.take n):=h.sublist (List.take_sublist _ _)
theorem drop_take (l:List Keyed) (n k:Nat):l.drop n=(l.drop n).take k++l.drop (n+k):=by
 rw [<-List.drop_drop,List.take_append_drop]
theorem zg2 (l:List Keyed) (n k:Nat):l.take (n+k)=l.take n++(l.drop n).take k:=by
 rw [List.take_add]
variable {A B out:List Keyed} {ia ib k:Nat}
theorem MR.appA (M:MR R A B out ia ib) (hA:AscR R A) (h:∀x∈(A.drop ia).take k,∀y∈B.drop ib,R x y):MR R A B (out++(A.drop ia).take k) (ia+k) ib:=by
 have dd:=drop_take A ia k
 have sA:=hA.drop ia
 rw [dd] at sA
 have pw:=List.pairwise_append.mp sA
 refine ⟨?_,List.pairwise_append.mpr ⟨M.asc,pw.1,fun x hx y hy=>M.la x hx y (List.mem_of_mem_take hy)⟩,fun x hx y hy=>?_,fun x hx y hy=>?_⟩
 . rw [zg2]
   refine (M.perm.append_right _).trans ?_
   rw [List.append_assoc,List.append_assoc]
   exact List.perm_append_comm.append_left _
 . rcases List.mem_append.mp hx with z | z
   . exact M.la x z y (by rw [dd];exact List.mem_append_right _ hy)
   . exact pw.2.2 x z y hy
 . rcases List.mem_append.mp hx with z | z
   . exact M.lb x z y hy
   . exact h x z y hy
theorem MR.swap (M:MR R A B out ia ib):MR R B A out ib ia:=⟨M.perm.trans List.perm_append_comm,M.asc,M.lb,M.la⟩
theorem MR.appB (M:MR R A B out ia ib) (hB:AscR R B) (h:∀x∈(B.drop ib).take k,∀y∈A.drop ia,R x y):MR R A B (out++(B.drop ib).take k) ia (ib+k):=(M.swap.appA hB h).swap
theorem MR.fin (M:MR R A B out ia ib) (hA:AscR R A) (h:∀x∈A.drop ia,∀y∈B.drop ib,R x y) (hB:AscR R B):(out++A.drop ia++B.drop ib).Perm (A++B)/\AscR R (out++A.drop ia++B.drop ib):=by
 have m1:=M.appA (k:=A.length) hA (fun x hx=>h x (List.mem_of_mem_take hx))
 have e1:(A.drop ia).take A.length=A.drop ia:=List.take_of_length_le (by rw [List.length_drop];omega)
 rw [e1] at m1
 have d1:A.drop (ia+A.length)=[]:=List.drop_eq_nil_of_le (by omega)
 have m2:=m1.appB (k:=B.length) hB (fun x _ y hy=>by rw [d1] at hy;cases hy)
 have e2:(B.drop ib).take B.length=B.drop ib:=List.take_of_length_le (by rw [List.length_drop];omega)
 rw [e2] at m2
 refine ⟨m2.perm.trans ?_,m2.asc⟩
 rw [List.take_of_length_le (by omega),List.take_of_length_le (by omega)]
variable {rk:Keyed->Nat}
abbrev Asc (rk:Keyed->Nat) (l:List Keyed):Prop:=AscR (fun x y=>rk x<=rk y) l
abbrev MI (rk:Keyed->Nat) (A B out:List Keyed) (ia ib:Nat):Prop:=MR (fun x y=>rk x<=rk y) A B out ia ib
variable {a b:Array Keyed} {outA:Array Keyed}
theorem z2p (h:Asc rk a.toList) {i j:Nat} (hij:i<=j) (hj:j<a.size):tk rk a i<=tk rk a j:=by
 rw [z1s (by omega),z1s hj]
 rcases Nat.lt_or_ge i j with z | z
 . have:=List.pairwise_iff_getElem.mp h i j (by simpa using (by omega:i<a.size)) (by simpa using hj) z
   simpa using this
 . obtain rfl:i=j:=by omega
   exact Nat.le_refl _
theorem zg3 {r n:Nat} (h:∀j,n<=j->j<a.size->r<=tk rk a j):∀y∈a.toList.drop n,r<=rk y:=fun y hy=>by
 obtain ⟨i,hi,e⟩:=List.mem_iff_getElem.mp hy
 rw [List.getElem_drop] at e
 have hi':n+i<a.size:=by simp at hi;omega
 have:=h (n+i) (by omega) hi'
 rw [z1s hi'] at this
 rw [<-e]
 simpa using this
theorem zg4 {r n k:Nat} (h:∀i,i<k->n+i<a.size->tk rk a (n+i)<=r):∀y∈(a.toList.drop n).take k,rk y<=r:=fun y hy=>by
 obtain ⟨i,hi,e⟩:=List.mem_iff_getElem.mp hy
 rw [List.getElem_take,List.getElem_drop] at e
 simp only [List.length_take,List.length_drop,Array.length_toList] at hi
 have hi':n+i<a.size:=by omega
 have:=h i (by omega) hi'
 rw [z1s hi'] at this
 rw [<-e]
 simpa using this
abbrev MA (rk:Keyed->Nat) (a b out:Array Keyed) (ia ib:Nat):Prop:=MI rk a.toList b.toList out.toList ia ib
theorem zmu (n k:Nat):(a.extract n (n+k)).toList=(a.toList.drop n).take k:=by
 rw [Array.toList_extract,List.extract_eq_take_drop,Nat.add_sub_cancel_left]
theorem z8n (n:Nat):(a.extract n a.size).toList=a.toList.drop n:=by
 rw [Array.toList_extract,List.extract_eq_take_drop]
 refine List.take_of_length_le ?_
 simp
theorem zru {n:Nat} (h:n<a.size):(a.toList.drop n).take 1=[a[n]]:=by
 rw [List.drop_eq_getElem_cons (by simpa using h)]
 simp
theorem MI.extA (M:MA rk a b outA ia ib) (hA:Asc rk a.toList) {r:Nat} (h1:∀i,i<k->ia+i<a.size->tk rk a (ia+i)<=r) (h2:∀j,ib<=j->j<b.size->r<=tk rk b j):MA rk a b (outA++a.extract ia (ia+k)) (ia+k) ib:=by
 show MI rk a.toList b.toList (outA++a.extract ia (ia+k)).toList (ia+k) ib
 rw [Array.toList_append,zmu]
 exact MR.appA M hA fun x hx y hy=>Nat.le_trans (zg4 h1 x hx) (zg3 h2 y hy)
theorem MI.pushA (M:MA rk a b outA ia ib) (hA:Asc rk a.toList) (hi:ia<a.size) (h2:∀j,ib<=j->j<b.size->tk rk a ia<=tk rk b j):MA rk a b (outA.push a[ia]) (ia+1) ib:=by
 have m:=M.extA (k:=1) (r:=tk rk a ia) hA (fun i z _=>by rw [show i=0 by omega];exact Nat.le_refl _) h2
 show MI rk a.toList b.toList (outA.push a[ia]).toList (ia+1) ib
 rw [Array.toList_push,<-zru hi,<-zmu,<-Array.toList_append]
 exact m
theorem MI.swapA (M:MA rk a b outA ia ib):MA rk b a outA ib ia:=MR.swap M
theorem MI.done (M:MA rk a b outA ia ib) (hA:Asc rk a.toList) (hB:Asc rk b.toList) (h:a.size<=ia\/b.size<=ib) :
  (outA++a.extract ia a.size++b.extract ib b.size).toList.Perm (a.toList++b.toList)/\Asc rk (outA++a.extract ia a.size++b.extract ib b.size).toList:=by
 rw [Array.toList_append,Array.toList_append,z8n,z8n]
 refine MR.fin M hA (fun x hx y hy=>?_) hB
 rcases h with z | z
 . rw [List.drop_eq_nil_of_le (by simpa using z)] at hx;cases hx
 . rw [List.drop_eq_nil_of_le (by simpa using z)] at hy;cases hy
theorem MI.last (M:MA rk a b outA ia ib) (hA:Asc rk a.toList) (hB:Asc rk b.toList) (h:∀x∈b.toList.drop ib,∀y∈a.toList.drop ia,rk x<=rk y) :
  (outA++b.extract ib b.size++a.extract ia a.size).toList.Perm (a.toList++b.toList)/\Asc rk (outA++b.extract ib b.size++a.extract ia a.size).toList:=by
 rw [Array.toList_append,Array.toList_append,z8n,z8n]
 have:=MR.fin M.swap hB h hA
 exact ⟨this.1.trans List.perm_append_comm,this.2⟩
end
section
variable {prog:Program} {w:World} {A:Around} {E:Value->Shared->Prop} {s:Shared} {κ:SortKind} {a₀:Array Keyed} {rk:Keyed->Nat}
noncomputable def mlo:Array Keyed->Array Keyed->StateT SortSt Sem (Array Keyed):=sortPriv% PySem.Builtin.mergeLo
structure GS (st u:SortSt):Prop where
 kind:kindOf u=kindOf st
 arr:arrOf u=arrOf st
 pend:pendingOf u=pendingOf st
 ok:failedOf u=failedOf st
theorem zrv {motive:Nat->Prop} (big:motive 2) (all:∀n,motive 2->motive n) (n:Nat):motive n:=all n big
theorem GS.refl (st:SortSt):GS st st:=⟨rfl,rfl,rfl,rfl⟩
theorem GS.g {st u:SortSt} (h:GS st u) (n:Nat):GS st (SortSt.mk' (kindOf u) (arrOf u) (pendingOf u) n (failedOf u)):=⟨h.kind,h.arr,h.pend,h.ok⟩
theorem zy1 (hc:z5j prog w A E s κ a₀ rk) {st:SortSt} (hk:kindOf st=κ) {a b:Array Keyed} (ain:∀x∈a,x∈a₀) (bin:∀x∈b,x∈a₀) (hA:Asc rk a.toList) (hB:Asc rk b.toList) (na:0<a.size) (nb:0<b.size)
  (first:∀j,j<a.size->tk rk b 0<=tk rk a j) (last:∀j,j<b.size->tk rk b j<=tk rk a (a.size - 1)) {Q:Array Keyed->SortSt->Prop}
  (h:∀out u,GS st u->out.toList.Perm (a.toList++b.toList)/\Asc rk out.toList->Q out u):wpS (model prog w) A E s (mlo a b) Q st:=by
 have M0:MA rk a b #[b[0]] 0 1:=(MI.pushA (outA:=#[]) (ia:=0) (ib:=0) (show MA rk b a #[] 0 0 from ⟨.refl _,.nil,fun x hx=>absurd hx List.not_mem_nil,fun x hx=>absurd hx List.not_mem_nil⟩) hB nb fun j _ hj=>first j hj).swapA
 have lastA:∀{out:Array Keyed} {ia ib:Nat},MA rk a b out ia ib->ia+1=a.size->(out++b.extract ib b.size++a.extract ia a.size).toList.Perm (a.toList++b.toList)/\Asc rk (out++b.extract ib b.size++a.extract ia a.size).toList:=fun {out ia ib} M e=>by
  refine M.last hA hB fun x hx y hy=>?_
  refine zg3 (fun j h1 h2=>?_) y hy
  obtain ⟨i,hi,ex⟩:=List.mem_iff_getElem.mp (List.mem_of_mem_drop hx)
  have hi':i<b.size:=by simpa using hi
  have:=last i hi'
  rw [z1s hi'] at this
  rw [show j=a.size - 1 by omega,<-ex]
  simpa using this
 unfold mlo
 refine wpS_bind (z7s ?_)
 dsimp only
 refine wpS_bind (z15 nb ?_)
 by_cases e1:1=b.size
 . rw [if_pos (by simp [<-e1])]
   exact wpS_pure (h _ st (.refl _) (M0.done hA hB (.inr (by omega))))
 rw [if_neg (by simpa using e1)]
 by_cases e2:0+1=a.size
 . rw [if_pos (by simp [<-e2])]
   exact wpS_pure (h _ st (.refl _) (lastA M0 e2))
 rw [if_neg (by simpa using e2)]
 refine wpS_bind (wpS_get ?_)
 refine wpS_bind (wpS_mono (wpS_forRange (I:=fun x c u=>GS st u/\∃out ia ib g,c=(none,out,ia,ib,g)/\MA rk a b out ia ib/\ia+1<a.size/\ib<b.size/\x+1<=ia+ib)
  (Q:=fun c u=>GS st u/\∃r t,c=(some r,t)/\r.toList.Perm (a.toList++b.toList)/\Asc rk r.toList) ?step ?fin ⟨.refl _,_,0,1,_,rfl,M0,by omega,by omega,by omega⟩) ?post)
 case fin=>
  rintro c u ⟨_,out,ia,ib,g,rfl,_,h1,h2,h3⟩
  simp only [Nat.zero_max] at h3
  omega
 case post=>
  rintro c u ⟨G,r,t,rfl,f⟩
  exact wpS_pure (h r u G f)
 case step=>
  rintro x c u _ _ ⟨G,out,ia,ib,g,rfl,M,h1,h2,h3⟩
  dsimp only
  refine wpS_bind (wpS_mono (wpS_forRange (I:=fun y c v=>v=u/\∃out ia ib ac bc,c=(none,out,ia,ib,ac,bc)/\MA rk a b out ia ib/\ia+1<a.size/\ib<b.size/\x+1+y<=ia+ib)
   (Q:=fun c v=>v=u/\((∃r t,c=(some r,t)/\r.toList.Perm (a.toList++b.toList)/\Asc rk r.toList)\/∃out ia ib ac bc,c=(none,out,ia,ib,ac,bc)/\MA rk a b out ia ib/\ia+1<a.size/\ib<b.size/\x+2<=ia+ib))
   ?walk ?wfin ⟨rfl,out,ia,ib,0,0,rfl,M,h1,h2,by omega⟩) ?wpost)
  case wfin=>
   rintro c v ⟨rfl,out,ia,ib,ac,bc,rfl,M,h1,h2,h3⟩
   simp only [Nat.zero_max] at h3
   exact ⟨rfl,.inr ⟨out,ia,ib,ac,bc,rfl,M,h1,h2,by omega⟩⟩
  case walk=>
   rintro y c v _ _ ⟨rfl,out,ia,ib,ac,bc,rfl,M,h1,h2,h3⟩
   dsimp only
   refine wpS_bind (z15 h2 (wpS_bind (z15 (show ia<a.size by omega) (wpS_bind (hc _ _ (bin _ (Array.getElem_mem _)) (ain _ (Array.getElem_mem _)) _ _ (G.kind.trans hk) ?_)))))
   rw [<-z1s (rk:=rk),<-z1s (rk:=rk)]
   by_cases l:tk rk b ib<tk rk a ia
   . simp only [l,decide_true,if_true]
     have M':=(MI.pushA M.swapA hB h2 fun j z1 z2=>Nat.le_trans (Nat.le_of_lt l) (z2p hA z1 z2)).swapA
     refine wpS_bind (z15 h2 ?_)
     by_cases f1:ib+1=b.size
     . rw [if_pos (by simpa using f1)]
       exact wpS_pure ⟨rfl,.inl ⟨_,_,rfl,M'.done hA hB (.inr (by omega))⟩⟩
     rw [if_neg (by simpa using f1)]
     by_cases f2:bc+1 ≥ g
     . rw [if_pos f2]
       exact wpS_pure ⟨rfl,.inr ⟨_,_,_,_,_,rfl,M',h1,by omega,by omega⟩⟩
     . rw [if_neg f2]
       exact wpS_pure ⟨rfl,_,_,_,_,_,rfl,M',h1,by omega,by omega⟩
   . simp only [l,decide_false,Bool.false_eq_true,if_false]
     have M':=MI.pushA M hA (by omega) fun j z1 z2=>Nat.le_trans (Nat.not_lt.mp l) (z2p hB z1 z2)
     refine wpS_bind (z15 (show ia<a.size by omega) ?_)
     by_cases f1:ia+1+1=a.size
     . rw [if_pos (by simpa using f1)]
       exact wpS_pure ⟨rfl,.inl ⟨_,_,rfl,lastA M' f1⟩⟩
     rw [if_neg (by simpa using f1)]
     by_cases f2:ac+1 ≥ g
     . rw [if_pos f2]
       exact wpS_pure ⟨rfl,.inr ⟨_,_,_,_,_,rfl,M',by omega,h2,by omega⟩⟩
     . rw [if_neg f2]
       exact wpS_pure ⟨rfl,_,_,_,_,_,rfl,M',by omega,h2,by omega⟩
  case wpost=>
   rintro c v ⟨rfl,⟨r,t,rfl,f⟩ | ⟨out,ia,ib,ac,bc,rfl,M,h1,h2,h3⟩⟩
   . exact wpS_pure ⟨G,r,_,rfl,f⟩
   dsimp only
   refine wpS_bind (z7s ?_)
   refine wpS_bind (wpS_mono (wpS_forRange (I:=fun _ c v=>GS st v/\∃out ia ib mg ac bc,c=(none,out,ia,ib,mg,ac,bc)/\MA rk a b out ia ib/\ia+1<a.size/\ib<b.size/\x+2<=ia+ib)
    (Q:=fun c v=>GS st v/\((∃r t,c=(some r,t)/\r.toList.Perm (a.toList++b.toList)/\Asc rk r.toList)\/∃out ia ib mg ac bc,c=(none,out,ia,ib,mg,ac,bc)/\MA rk a b out ia ib/\ia+1<a.size/\ib<b.size/\x+2<=ia+ib))
    ?jump (fun c v hI=>⟨hI.1,.inr hI.2⟩) ⟨G,out,ia,ib,_,ac,bc,rfl,M,h1,h2,h3⟩) ?jpost)
   case jpost=>
    rintro c v2 ⟨G2,⟨r,t,rfl,f⟩ | ⟨out,ia,ib,mg,ac,bc,rfl,M,h1,h2,h3⟩⟩
    . exact wpS_pure ⟨G2,r,_,rfl,f⟩
    . dsimp only
      exact wpS_bind (wpS_modify (wpS_pure ⟨G2.g _,out,ia,ib,_,rfl,M,h1,h2,by omega⟩))
   case jump=>
    clear M h1 h2 h3 out ia ib ac bc
    rintro y c v2 _ _ ⟨G2,out,ia,ib,mg,ac,bc,rfl,M,h1,h2,h3⟩
    dsimp only
    generalize mg - 1=mg1
    induction mg using zrv generalizing mg1
    case all n ih=>
     have k:=ih mg1
     rw [if_pos (by decide:(2:Nat) > 1)] at k
     by_cases hm:n > 1
     . rw [if_pos hm];exact k
     . rw [if_neg hm]
       have k:=ih n
       rw [if_pos (by decide:(2:Nat) > 1)] at k
       with_unfolding_all exact k
    rw [if_pos (by decide:(2:Nat) > 1)]
    all_goals
     refine wpS_bind (wpS_modify ?_)
     refine wpS_bind (z15 h2 ?_)
     refine wpS_bind (zde hc (by exact G2.kind.trans hk) (bin _ (Array.getElem_mem _)) ain (by omega) (by omega) (fun i j z1 z2 z3=>?_) fun k hkn lt gt=>?_)
     . unfold bey at z3 ⊢
       rw [if_neg Bool.false_ne_true] at z3 ⊢
       have:=z2p hA (show ia+i<=ia+j by omega) (by omega)
       simp only [Bool.not_eq_true',decide_eq_false_iff_not] at z3 ⊢
       omega
     dsimp only
     have cb:ia+k<a.size->tk rk b ib<=tk rk a (ia+k):=fun z=>by
      have:=gt k (Nat.le_refl _) (by omega)
      unfold bey at this
      rw [if_neg Bool.false_ne_true,<-z1s (rk:=rk)] at this
      simp only [Bool.not_eq_false',decide_eq_true_eq] at this
      omega
     have ca:∀i,i<k->ia+i<a.size->tk rk a (ia+i)<=tk rk b ib:=fun i z _=>by
      have:=lt i z
      unfold bey at this
      rw [if_neg Bool.false_ne_true,<-z1s (rk:=rk)] at this
      simp only [Bool.not_eq_true',decide_eq_false_iff_not] at this
      omega
     have M1:=MI.extA (k:=k) M hA ca fun j z1 z2=>z2p hB z1 z2
     rcases Nat.lt_or_ge 0 k with hk0 | hk0
     case' inl=>
      rw [if_pos hk0]
      by_cases f1:ia+k+1=a.size
      . rw [if_pos (by simpa using f1)]
        exact wpS_pure ⟨G2.g _,.inl ⟨_,_,rfl,lastA M1 f1⟩⟩
      rw [if_neg (by simpa using f1)]
      by_cases f2:ia+k=a.size
      . rw [if_pos (by simpa using f2)]
        exact wpS_pure ⟨G2.g _,.inl ⟨_,_,rfl,M1.done hA hB (.inl (by omega))⟩⟩
      rw [if_neg (by simpa using f2)]
      obtain ⟨out1,ia1,eo,ei,M2,b1,c1,p1⟩:∃out1 ia1,out1=out++a.extract ia (ia+k)/\ia1=ia+k/\MA rk a b out1 ia1 ib/\ia1+1<a.size/\tk rk b ib<=tk rk a ia1/\x+2<=ia1+ib:=⟨_,_,rfl,rfl,M1,by omega,cb (by omega),by omega⟩
      rw [<-eo,<-ei]
      clear eo ei
     case' inr=>
      rw [if_neg (by omega)]
      obtain ⟨out1,ia1,rfl,rfl,M2,b1,c1,p1⟩:∃out1 ia1,out1=out/\ia1=ia/\MA rk a b out1 ia1 ib/\ia1+1<a.size/\tk rk b ib<=tk rk a ia1/\x+2<=ia1+ib:=
       ⟨_,_,rfl,rfl,M,h1,by have:=cb (by omega);rwa [show ia+k=ia by omega] at this,h3⟩
     all_goals
      clear M1 ca cb lt gt
      refine wpS_bind (z15 h2 ?_)
      have M3:=(MI.pushA M2.swapA hB h2 fun j z1 z2=>Nat.le_trans c1 (z2p hA z1 z2)).swapA
      by_cases f3:ib+1=b.size
      . rw [if_pos (by simpa using f3)]
        exact wpS_pure ⟨G2.g _,.inl ⟨_,_,rfl,M3.done hA hB (.inr (by omega))⟩⟩
      rw [if_neg (by simpa using f3)]
      have hi1:ia1<a.size:=by omega
      refine wpS_bind (z15 hi1 ?_)
      refine wpS_bind (zde hc (by exact G2.kind.trans hk) (ain _ (Array.getElem_mem _)) bin (by omega) (by omega) (fun i j z1 z2 z3=>?_) fun k2 hkn lt gt=>?_)
      . unfold bey at z3 ⊢
        rw [if_pos rfl] at z3 ⊢
        have:=z2p hB (show ib+1+i<=ib+1+j by omega) (by omega)
        simp only [decide_eq_true_eq] at z3 ⊢
        omega
      dsimp only
      have cb:ib+1+k2<b.size->tk rk a ia1<=tk rk b (ib+1+k2):=fun z=>by
       have:=gt k2 (Nat.le_refl _) (by omega)
       unfold bey at this
       rw [if_pos rfl,<-z1s (rk:=rk)] at this
       simp only [decide_eq_false_iff_not] at this
       omega
      have ca:∀i,i<k2->ib+1+i<b.size->tk rk b (ib+1+i)<=tk rk a ia1:=fun i z _=>by
       have:=lt i z
       unfold bey at this
       rw [if_pos rfl,<-z1s (rk:=rk)] at this
       simp only [decide_eq_true_eq] at this
       omega
      have M4:=(MI.extA (k:=k2) M3.swapA hB ca fun j z1 z2=>z2p hA z1 z2).swapA
      generalize out1.push b[ib]=out2 at *
      rcases Nat.lt_or_ge 0 k2 with hk1 | hk1
      case' inl=>
       rw [if_pos hk1]
       by_cases f4:ib+1+k2=b.size
       . rw [if_pos (by simpa using f4)]
         exact wpS_pure ⟨G2.g _,.inl ⟨_,_,rfl,M4.done hA hB (.inr (by omega))⟩⟩
       rw [if_neg (by simpa using f4)]
       obtain ⟨out3,ib1,eo,ei,M5,b2,c2,p2⟩:∃out3 ib1,out3=out2++b.extract (ib+1) (ib+1+k2)/\ib1=ib+1+k2/\MA rk a b out3 ia1 ib1/\ib1<b.size/\tk rk a ia1<=tk rk b ib1/\x+2<=ia1+ib1:=⟨_,_,rfl,rfl,M4,by omega,cb (by omega),by omega⟩
       rw [<-eo,<-ei]
       clear eo ei
      case' inr=>
       rw [if_neg (by omega)]
       obtain ⟨out3,ib1,rfl,ei,M5,b2,c2,p2⟩:∃out3 ib1,out3=out2/\ib1=ib+1/\MA rk a b out3 ia1 ib1/\ib1<b.size/\tk rk a ia1<=tk rk b ib1/\x+2<=ia1+ib1:=
        ⟨_,_,rfl,rfl,M3,by omega,by have:=cb (by omega);rwa [show ib+1+k2=ib+1 by omega] at this,by omega⟩
       rw [<-ei]
       clear ei
      all_goals
       clear M4 M3 ca cb lt gt
       refine wpS_bind (z15 hi1 ?_)
       have M6:=MI.pushA M5 hA hi1 fun j z1 z2=>Nat.le_trans c2 (z2p hB z1 z2)
       by_cases f5:ia1+1+1=a.size
       . rw [if_pos (by simpa using f5)]
         exact wpS_pure ⟨G2.g _,.inl ⟨_,_,rfl,lastA M6 f5⟩⟩
       rw [if_neg (by simpa using f5)]
       split
       . exact wpS_pure ⟨G2.g _,.inr ⟨_,_,_,_,_,_,rfl,M6,by omega,b2,by omega⟩⟩
       . exact wpS_pure ⟨G2.g _,_,_,_,_,_,_,rfl,M6,by omega,b2,by omega⟩
end
section
variable {rk:Keyed->Nat} {a b outA:Array Keyed} {na nb:Nat}
abbrev MH (rk:Keyed->Nat) (a b out:Array Keyed) (na nb:Nat):Prop:=MR (fun x y=>rk y<=rk x) a.toList.reverse b.toList.reverse out.toList (a.size - na) (b.size - nb)
theorem zay (h:Asc rk a.toList):AscR (fun x y=>rk y<=rk x) a.toList.reverse:=List.pairwise_reverse.mpr h
theorem z3z (h:na<=a.size):a.toList.reverse.drop (a.size - na)=(a.toList.take na).reverse:=by
 rw [List.drop_reverse,Array.length_toList,show a.size - (a.size - na)=na by omega]
theorem zg5 {r:Nat} (h:∀j,j<na->j<a.size->tk rk a j<=r):∀y∈a.toList.take na,rk y<=r:=by
 have:=zg4 (rk:=rk) (a:=a) (n:=0) (k:=na) (r:=r) (fun i z1 z2=>by rw [Nat.zero_add];exact h i z1 (by omega))
 rwa [List.drop_zero] at this
theorem MR.extH (M:MH rk a b outA na nb) (hA:Asc rk a.toList) {p r:Nat} (hp:p<=na) (hn:na<=a.size) (hb:nb<=b.size) (h1:∀i,p<=i->i<na->r<=tk rk a i) (h2:∀j,j<nb->tk rk b j<=r):MH rk a b (outA++(a.extract p na).reverse) p nb:=by
 have e:((a.extract p na).reverse).toList=(a.toList.reverse.drop (a.size - na)).take (na - p):=by
  rw [z3z hn,Array.toList_reverse,Array.toList_extract,List.extract_eq_take_drop,List.take_reverse,List.length_take,Array.length_toList,List.drop_take]
  rw [show min na a.size - (na - p)=p by omega]
 show MR _ _ _ (outA++(a.extract p na).reverse).toList (a.size - p) (b.size - nb)
 rw [Array.toList_append,e,show a.size - p=a.size - na+(na - p) by omega]
 refine MR.appA M (zay hA) fun x hx y hy=>?_
 rw [<-e,Array.toList_reverse,List.mem_reverse,Array.toList_extract,List.extract_eq_take_drop] at hx
 rw [z3z hb,List.mem_reverse] at hy
 refine Nat.le_trans (zg5 (fun j z _=>h2 j z) y hy) ?_
 obtain ⟨i,hi,ex⟩:=List.mem_iff_getElem.mp hx
 rw [List.getElem_take,List.getElem_drop] at ex
 simp only [List.length_take,List.length_drop,Array.length_toList] at hi
 have:=h1 (p+i) (by omega) (by omega)
 rw [z1s (show p+i<a.size by omega)] at this
 rw [<-ex]
 simpa using this
theorem MR.pushH (M:MH rk a b outA na nb) (hA:Asc rk a.toList) (h0:0<na) (hn:na<=a.size) (hb:nb<=b.size) (h2:∀j,j<nb->tk rk b j<=tk rk a (na - 1)):MH rk a b (outA.push a[na - 1]) (na - 1) nb:=by
 have m:=MR.extH M hA (p:=na - 1) (r:=tk rk a (na - 1)) (by omega) hn hb (fun i z1 z2=>by rw [show i=na - 1 by omega];exact Nat.le_refl _) h2
 have e:(a.extract (na - 1) na).reverse.toList=[a[na - 1]]:=by
  rw [Array.toList_reverse,show a.extract (na - 1) na=a.extract (na - 1) (na - 1+1) by rw [Nat.sub_add_cancel h0],zmu,zru (by omega)]
  rfl
 show MR _ _ _ (outA.push a[na - 1]).toList _ _
 rw [Array.toList_push,<-e,<-Array.toList_append]
 exact m
theorem MR.finH (M:MH rk a b outA na nb) (hA:Asc rk a.toList) (hB:Asc rk b.toList) (hn:na<=a.size) (hb:nb<=b.size) (h:∀x∈b.toList.take nb,∀y∈a.toList.take na,rk y<=rk x) :
  (a.extract 0 na++b.extract 0 nb++outA.reverse).toList.Perm (a.toList++b.toList)/\Asc rk (a.extract 0 na++b.extract 0 nb++outA.reverse).toList:=by
 have f:=MR.fin M.swap (zay hB) (fun x hx y hy=>?_) (zay hA)
 . rw [z3z hn,z3z hb] at f
   have e:(a.extract 0 na++b.extract 0 nb++outA.reverse).toList=(outA.toList++(b.toList.take nb).reverse++(a.toList.take na).reverse).reverse:=by
    have ea:∀(c:Array Keyed) (k:Nat),(c.extract 0 k).toList=c.toList.take k:=fun c k=>by
     rw [Array.toList_extract,List.extract_eq_take_drop,List.drop_zero,Nat.sub_zero]
    rw [Array.toList_append,Array.toList_append,ea,ea,Array.toList_reverse]
    simp
   rw [e]
   refine ⟨(List.reverse_perm _).trans (f.1.trans ?_),List.pairwise_reverse.mpr f.2⟩
   exact ((List.reverse_perm _).append (List.reverse_perm _)).trans List.perm_append_comm
 . rw [z3z hb,List.mem_reverse] at hx
   rw [z3z hn,List.mem_reverse] at hy
   exact h x hx y hy
end
section
variable {prog:Program} {w:World} {A:Around} {E:Value->Shared->Prop} {s:Shared} {κ:SortKind} {a₀:Array Keyed} {rk:Keyed->Nat}
noncomputable def mhi:Array Keyed->Array Keyed->StateT SortSt Sem (Array Keyed):=sortPriv% PySem.Builtin.mergeHi
theorem zy2 (hc:z5j prog w A E s κ a₀ rk) {st:SortSt} (hk:kindOf st=κ) {a b:Array Keyed} (ain:∀x∈a,x∈a₀) (bin:∀x∈b,x∈a₀) (hA:Asc rk a.toList) (hB:Asc rk b.toList) (na0:0<a.size) (nb0:0<b.size)
  (first:∀j,j<a.size->tk rk b 0<=tk rk a j) (last:∀j,j<b.size->tk rk b j<=tk rk a (a.size - 1)) {Q:Array Keyed->SortSt->Prop}
  (h:∀out u,GS st u->out.toList.Perm (a.toList++b.toList)/\Asc rk out.toList->Q out u):wpS (model prog w) A E s (mhi a b) Q st:=by
 have M0:MH rk a b #[a[a.size - 1]] (a.size - 1) b.size:=MR.pushH (outA:=#[]) (na:=a.size) (nb:=b.size)
  (show MH rk a b #[] a.size b.size from ⟨by simp,.nil,fun x hx=>absurd hx List.not_mem_nil,fun x hx=>absurd hx List.not_mem_nil⟩) hA na0 (Nat.le_refl _) (Nat.le_refl _) last
 have dn:∀{out:Array Keyed} {na nb:Nat},MH rk a b out na nb->na<=a.size->nb<=b.size->(na=0\/nb=0)->(a.extract 0 na++b.extract 0 nb++out.reverse).toList.Perm (a.toList++b.toList)/\Asc rk (a.extract 0 na++b.extract 0 nb++out.reverse).toList:=fun {out na nb} M h1 h2 e=>by
  refine MR.finH M hA hB h1 h2 fun x hx y hy=>?_
  rcases e with rfl | rfl
  . rw [List.take_zero] at hy;cases hy
  . rw [List.take_zero] at hx;cases hx
 have fb:∀{out:Array Keyed} {na nb:Nat},MH rk a b out na nb->na<=a.size->nb<=b.size->nb=1->(b.extract 0 nb++a.extract 0 na++out.reverse).toList.Perm (a.toList++b.toList)/\Asc rk (b.extract 0 nb++a.extract 0 na++out.reverse).toList:=fun {out na nb} M h1 h2 e=>by
  have f:=MR.finH (a:=b) (b:=a) M.swap hB hA h2 h1 fun x hx y hy=>?_
  . exact ⟨f.1.trans List.perm_append_comm,f.2⟩
  . obtain ⟨i,hi,ex⟩:=List.mem_iff_getElem.mp (List.mem_of_mem_take hx)
    have hi':i<a.size:=by simpa using hi
    have q:=first i hi'
    rw [z1s hi'] at q
    rw [<-ex]
    refine Nat.le_trans (zg5 (r:=tk rk b 0) (fun j z1 z2=>by rw [show j=0 by omega];exact Nat.le_refl _) y hy) (by simpa using q)
 unfold mhi
 refine wpS_bind (z7s ?_)
 dsimp only
 refine wpS_bind (z15 (show a.size - 1<a.size by omega) ?_)
 by_cases e1:a.size - 1=0
 . rw [if_pos (by simpa using e1)]
   exact wpS_pure (h _ st (.refl _) (dn M0 (by omega) (Nat.le_refl _) (.inl e1)))
 rw [if_neg (by simpa using e1)]
 by_cases e2:b.size=1
 . rw [if_pos (by simpa using e2)]
   exact wpS_pure (h _ st (.refl _) (fb M0 (by omega) (Nat.le_refl _) e2))
 rw [if_neg (by simpa using e2)]
 refine wpS_bind (wpS_get ?_)
 refine wpS_bind (wpS_mono (wpS_forRange (I:=fun x c u=>GS st u/\∃na nb out g,c=(none,na,nb,out,g)/\MH rk a b out na nb/\(0<na/\na<=a.size)/\(1<nb/\nb<=b.size)/\na+nb+x+1<=a.size+b.size)
  (Q:=fun c u=>GS st u/\∃r t,c=(some r,t)/\r.toList.Perm (a.toList++b.toList)/\Asc rk r.toList) ?step ?fin ⟨.refl _,_,_,_,_,rfl,M0,by omega,by omega,by omega⟩) ?post)
 case fin=>
  rintro c u ⟨_,na,nb,out,g,rfl,_,h1,h2,h3⟩
  simp only [Nat.zero_max] at h3
  omega
 case post=>
  rintro c u ⟨G,r,t,rfl,f⟩
  exact wpS_pure (h r u G f)
 case step=>
  rintro x c u _ _ ⟨G,na,nb,out,g,rfl,M,h1,h2,h3⟩
  dsimp only
  refine wpS_bind (wpS_mono (wpS_forRange (I:=fun y c v=>v=u/\∃na nb out ac bc,c=(none,na,nb,out,ac,bc)/\MH rk a b out na nb/\(0<na/\na<=a.size)/\(1<nb/\nb<=b.size)/\na+nb+x+1+y<=a.size+b.size)
   (Q:=fun c v=>v=u/\((∃r t,c=(some r,t)/\r.toList.Perm (a.toList++b.toList)/\Asc rk r.toList)\/∃na nb out ac bc,c=(none,na,nb,out,ac,bc)/\MH rk a b out na nb/\(0<na/\na<=a.size)/\(1<nb/\nb<=b.size)/\na+nb+x+2<=a.size+b.size))
   ?walk ?wfin ⟨rfl,na,nb,out,0,0,rfl,M,h1,h2,by omega⟩) ?wpost)
  case wfin=>
   rintro c v ⟨rfl,na,nb,out,ac,bc,rfl,M,h1,h2,h3⟩
   simp only [Nat.zero_max] at h3
   exact ⟨rfl,.inr ⟨na,nb,out,ac,bc,rfl,M,h1,h2,by omega⟩⟩
  case walk=>
   rintro y c v _ _ ⟨rfl,na,nb,out,ac,bc,rfl,M,h1,h2,h3⟩
   dsimp only
   refine wpS_bind (z15 (show nb - 1<b.size by omega) (wpS_bind (z15 (show na - 1<a.size by omega) (wpS_bind (hc _ _ (bin _ (Array.getElem_mem _)) (ain _ (Array.getElem_mem _)) _ _ (G.kind.trans hk) ?_)))))
   rw [<-z1s (rk:=rk),<-z1s (rk:=rk)]
   by_cases l:tk rk b (nb - 1)<tk rk a (na - 1)
   . simp only [l,decide_true,if_true]
     have M':=MR.pushH M hA h1.1 h1.2 h2.2 fun j z=>Nat.le_trans (z2p hB (show j<=nb - 1 by omega) (by omega)) (Nat.le_of_lt l)
     refine wpS_bind (z15 (show na - 1<a.size by omega) ?_)
     by_cases f1:na - 1=0
     . rw [if_pos (by simpa using f1)]
       exact wpS_pure ⟨rfl,.inl ⟨_,_,rfl,dn M' (by omega) h2.2 (.inl f1)⟩⟩
     rw [if_neg (by simpa using f1)]
     by_cases f2:ac+1 ≥ g
     . rw [if_pos f2]
       exact wpS_pure ⟨rfl,.inr ⟨_,_,_,_,_,rfl,M',by omega,h2,by omega⟩⟩
     . rw [if_neg f2]
       exact wpS_pure ⟨rfl,_,_,_,_,_,rfl,M',by omega,h2,by omega⟩
   . simp only [l,decide_false,Bool.false_eq_true,if_false]
     have M':MH rk a b (out.push b[nb - 1]) na (nb - 1):=(MR.pushH (a:=b) (b:=a) M.swap hB (by omega) h2.2 h1.2 fun j z=>Nat.le_trans (z2p hA (show j<=na - 1 by omega) (by omega)) (Nat.not_lt.mp l)).swap
     refine wpS_bind (z15 (show nb - 1<b.size by omega) ?_)
     by_cases f1:nb - 1=1
     . rw [if_pos (by simpa using f1)]
       exact wpS_pure ⟨rfl,.inl ⟨_,_,rfl,fb M' h1.2 (by omega) f1⟩⟩
     rw [if_neg (by simpa using f1)]
     by_cases f2:bc+1 ≥ g
     . rw [if_pos f2]
       exact wpS_pure ⟨rfl,.inr ⟨_,_,_,_,_,rfl,M',h1,by omega,by omega⟩⟩
     . rw [if_neg f2]
       exact wpS_pure ⟨rfl,_,_,_,_,_,rfl,M',h1,by omega,by omega⟩
  case wpost=>
   rintro c v ⟨rfl,⟨r,t,rfl,f⟩ | ⟨na,nb,out,ac,bc,rfl,M,h1,h2,h3⟩⟩
   . exact wpS_pure ⟨G,r,_,rfl,f⟩
   dsimp only
   refine wpS_bind (z7s ?_)
   refine wpS_bind (wpS_mono (wpS_forRange (I:=fun _ c v=>GS st v/\∃na nb out mg ac bc,c=(none,na,nb,out,mg,ac,bc)/\MH rk a b out na nb/\(0<na/\na<=a.size)/\(1<nb/\nb<=b.size)/\na+nb+x+2<=a.size+b.size)
    (Q:=fun c v=>GS st v/\((∃r t,c=(some r,t)/\r.toList.Perm (a.toList++b.toList)/\Asc rk r.toList)\/∃na nb out mg ac bc,c=(none,na,nb,out,mg,ac,bc)/\MH rk a b out na nb/\(0<na/\na<=a.size)/\(1<nb/\nb<=b.size)/\na+nb+x+2<=a.size+b.size))
    ?jump (fun c v hI=>⟨hI.1,.inr hI.2⟩) ⟨G,na,nb,out,_,ac,bc,rfl,M,h1,h2,h3⟩) ?jpost)
   case jpost=>
    rintro c v2 ⟨G2,⟨r,t,rfl,f⟩ | ⟨na,nb,out,mg,ac,bc,rfl,M,h1,h2,h3⟩⟩
    . exact wpS_pure ⟨G2,r,_,rfl,f⟩
    . dsimp only
      exact wpS_bind (wpS_modify (wpS_pure ⟨G2.g _,na,nb,out,_,rfl,M,h1,h2,by omega⟩))
   case jump=>
    clear M h1 h2 h3 out na nb ac bc
    rintro y c v2 _ _ ⟨G2,na,nb,out,mg,ac,bc,rfl,M,h1,h2,h3⟩
    dsimp only
    have hb1:nb - 1<b.size:=by omega
    generalize mg - 1=mg1
    induction mg using zrv generalizing mg1
    case all n ih=>
     have k:=ih mg1
     rw [if_pos (by decide:(2:Nat) > 1)] at k
     by_cases hm:n > 1
     . rw [if_pos hm];exact k
     . rw [if_neg hm]
       have k:=ih n
       rw [if_pos (by decide:(2:Nat) > 1)] at k
       with_unfolding_all exact k
    rw [if_pos (by decide:(2:Nat) > 1)]
    all_goals
     refine wpS_bind (wpS_modify ?_)
     refine wpS_bind (z15 hb1 ?_)
     refine wpS_bind (zde hc (by exact G2.kind.trans hk) (bin _ (Array.getElem_mem _)) ain (by omega) (by omega) (fun i j z1 z2 z3=>?_) fun p hp lt gt=>?_)
     . unfold bey at z3 ⊢
       rw [if_neg Bool.false_ne_true] at z3 ⊢
       have:=z2p hA (show 0+i<=0+j by omega) (by omega)
       simp only [Bool.not_eq_true',decide_eq_false_iff_not] at z3 ⊢
       omega
     dsimp only
     have ca:∀i,p<=i->i<na->tk rk b (nb - 1)<=tk rk a i:=fun i z1 z2=>by
      have:=gt i z1 z2
      unfold bey at this
      rw [if_neg Bool.false_ne_true,<-z1s (rk:=rk),Nat.zero_add] at this
      simp only [Bool.not_eq_false',decide_eq_true_eq] at this
      omega
     have cb:∀i,i<p->tk rk a i<=tk rk b (nb - 1):=fun i z=>by
      have:=lt i z
      unfold bey at this
      rw [if_neg Bool.false_ne_true,<-z1s (rk:=rk),Nat.zero_add] at this
      simp only [Bool.not_eq_true',decide_eq_false_iff_not] at this
      omega
     have M1:=MR.extH M hA (p:=p) hp h1.2 h2.2 ca fun j z=>z2p hB (show j<=nb - 1 by omega) (by omega)
     rcases Nat.lt_or_ge 0 (na - p) with hk0 | hk0
     case' inl=>
      rw [if_pos hk0]
      by_cases f1:p=0
      . rw [if_pos (by simpa using f1)]
        exact wpS_pure ⟨G2.g _,.inl ⟨_,_,rfl,dn M1 (by omega) h2.2 (.inl f1)⟩⟩
      rw [if_neg (by simpa using f1)]
      obtain ⟨out1,na1,eo,ei,M2,b1,c1,p1⟩:∃out1 na1,out1=out++(a.extract p na).reverse/\na1=p/\MH rk a b out1 na1 nb/\(0<na1/\na1<=a.size)/\(∀i,i<na1->tk rk a i<=tk rk b (nb - 1))/\na1+nb+x+2<=a.size+b.size:=⟨_,_,rfl,rfl,M1,by omega,cb,by omega⟩
      rw [<-eo]
      clear eo
      generalize na - p=kk
      subst ei
     case' inr=>
      rw [if_neg (by omega)]
      obtain ⟨out1,na1,rfl,rfl,M2,b1,c1,p1⟩:∃out1 na1,out1=out/\na1=na/\MH rk a b out1 na1 nb/\(0<na1/\na1<=a.size)/\(∀i,i<na1->tk rk a i<=tk rk b (nb - 1))/\na1+nb+x+2<=a.size+b.size:=
       ⟨_,_,rfl,rfl,M,h1,fun i z=>cb i (by omega),h3⟩
      generalize na1 - p=kk
     all_goals
      clear M1 ca cb lt gt
      refine wpS_bind (z15 hb1 ?_)
      have M3:MH rk a b (out1.push b[nb - 1]) na1 (nb - 1):=(MR.pushH (a:=b) (b:=a) M2.swap hB (by omega) h2.2 b1.2 c1).swap
      generalize out1.push b[nb - 1]=out2 at *
      by_cases f3:nb - 1=1
      . rw [if_pos (by simpa using f3)]
        exact wpS_pure ⟨G2.g _,.inl ⟨_,_,rfl,fb M3 b1.2 (by omega) f3⟩⟩
      rw [if_neg (by simpa using f3)]
      have hi1:na1 - 1<a.size:=by omega
      refine wpS_bind (z15 hi1 ?_)
      refine wpS_bind (zde hc (by exact G2.kind.trans hk) (ain _ (Array.getElem_mem _)) bin (by omega) (by omega) (fun i j z1 z2 z3=>?_) fun p2 hp2 lt gt=>?_)
      . unfold bey at z3 ⊢
        rw [if_pos rfl] at z3 ⊢
        have:=z2p hB (show 0+i<=0+j by omega) (by omega)
        simp only [decide_eq_true_eq] at z3 ⊢
        omega
      dsimp only
      have ca:∀i,p2<=i->i<nb - 1->tk rk a (na1 - 1)<=tk rk b i:=fun i z1 z2=>by
       have:=gt i z1 z2
       unfold bey at this
       rw [if_pos rfl,<-z1s (rk:=rk),Nat.zero_add] at this
       simp only [decide_eq_false_iff_not] at this
       omega
      have cb:∀i,i<p2->tk rk b i<=tk rk a (na1 - 1):=fun i z=>by
       have:=lt i z
       unfold bey at this
       rw [if_pos rfl,<-z1s (rk:=rk),Nat.zero_add] at this
       simp only [decide_eq_true_eq] at this
       omega
      have M4:MH rk a b (out2++(b.extract p2 (nb - 1)).reverse) na1 p2:=(MR.extH (a:=b) (b:=a) M3.swap hB (p:=p2) hp2 (by omega) b1.2 ca fun j z=>z2p hA (show j<=na1 - 1 by omega) (by omega)).swap
      rcases Nat.lt_or_ge 0 (nb - 1 - p2) with hk1 | hk1
      case' inl=>
       rw [if_pos hk1]
       by_cases f4:p2=1
       . rw [if_pos (by simpa using f4)]
         exact wpS_pure ⟨G2.g _,.inl ⟨_,_,rfl,fb M4 b1.2 (by omega) f4⟩⟩
       rw [if_neg (by simpa using f4)]
       by_cases f5:p2=0
       . rw [if_pos (by simpa using f5)]
         exact wpS_pure ⟨G2.g _,.inl ⟨_,_,rfl,dn M4 b1.2 (by omega) (.inr f5)⟩⟩
       rw [if_neg (by simpa using f5)]
       obtain ⟨out3,nb1,eo,ei,M5,b2,c2,p3⟩:∃out3 nb1,out3=out2++(b.extract p2 (nb - 1)).reverse/\nb1=p2/\MH rk a b out3 na1 nb1/\(1<nb1/\nb1<=b.size)/\(∀i,i<nb1->tk rk b i<=tk rk a (na1 - 1))/\na1+nb1+x+2<=a.size+b.size:=⟨_,_,rfl,rfl,M4,by omega,cb,by omega⟩
       rw [<-eo]
       clear eo
       generalize nb - 1 - p2=kk2
       subst ei
      case' inr=>
       rw [if_neg (by omega)]
       obtain ⟨out3,nb1,rfl,ei,M5,b2,c2,p3⟩:∃out3 nb1,out3=out2/\nb1=nb - 1/\MH rk a b out3 na1 nb1/\(1<nb1/\nb1<=b.size)/\(∀i,i<nb1->tk rk b i<=tk rk a (na1 - 1))/\na1+nb1+x+2<=a.size+b.size:=
        ⟨_,_,rfl,rfl,M3,by omega,fun i z=>cb i (by omega),by omega⟩
       rw [<-ei]
       generalize nb1 - p2=kk2
       clear ei
      all_goals
       clear M4 ca cb lt gt
       refine wpS_bind (z15 hi1 ?_)
       have M6:=MR.pushH M5 hA b1.1 b1.2 b2.2 c2
       by_cases f6:na1 - 1=0
       . rw [if_pos (by simpa using f6)]
         exact wpS_pure ⟨G2.g _,.inl ⟨_,_,rfl,dn M6 (by omega) b2.2 (.inl f6)⟩⟩
       rw [if_neg (by simpa using f6)]
       split
       . exact wpS_pure ⟨G2.g _,.inr ⟨_,_,_,_,_,_,rfl,M6,by omega,b2,by omega⟩⟩
       . exact wpS_pure ⟨G2.g _,_,_,_,_,_,_,rfl,M6,by omega,b2,by omega⟩
end
section
variable {rk:Keyed->Nat}
theorem zkb (c:Nat):∀(m:List Keyed) (n:Nat) (ys:Array Keyed),c+n+m.length<=ys.size ->
  ((m.zipIdx n).foldl (fun a (q:Keyed×Nat)=>a.setIfInBounds (c+q.2) q.1) ys).toList=ys.toList.take (c+n)++m++ys.toList.drop (c+n+m.length)
 | [],n,ys,_=>by simp
 | p::m,n,ys,h=>by
  simp only [List.length_cons] at h
  rw [List.zipIdx_cons,List.foldl_cons,zkb c m (n+1) _ (by rw [Array.size_setIfInBounds];omega),Array.toList_setIfInBounds]
  have hl:c+n<ys.toList.length:=by rw [Array.length_toList];omega
  rw [show c+(n+1)=c+n+1 by omega,List.take_set,List.drop_set_of_lt (by omega),List.take_succ_eq_append_getElem hl,List.set_append_right _ _ (by rw [List.length_take];omega)]
  rw [List.length_take,show c+n - min (c+n) ys.toList.length=0 by omega,List.set_cons_zero,List.length_cons,show c+n+1+m.length=c+n+(m.length+1) by omega]
  simp
structure Seg (xs:Array Keyed) (pre X post:List Keyed):Prop where
 eq:xs.toList=pre++X++post
variable {xs:Array Keyed} {pre X post:List Keyed}
theorem Seg.size (S:Seg xs pre X post):xs.size=pre.length+X.length+post.length:=by
 rw [<-Array.length_toList,S.eq,List.length_append,List.length_append]
theorem Seg.at (S:Seg xs pre X post) {i:Nat} (h:i<X.length):∃hh:pre.length+i<xs.size,xs[pre.length+i]=X[i]:=by
 refine ⟨by rw [S.size];omega,?_⟩
 rw [<-Array.getElem_toList]
 simp only [S.eq]
 rw [List.getElem_append_left (by rw [List.length_append];omega),List.getElem_append_right (by omega)]
 simp
theorem Seg.tk (S:Seg xs pre X post) {i:Nat} (h:i<X.length):tk rk xs (pre.length+i)=rk X[i]:=by
 obtain ⟨hh,e⟩:=S.at h
 rw [z1s hh,e]
theorem Asc.at {l:List Keyed} (h:Asc rk l) {i j:Nat} (hij:i<=j) (hj:j<l.length):rk l[i]<=rk l[j]:=by
 rcases Nat.lt_or_ge i j with z | z
 . exact List.pairwise_iff_getElem.mp h i j (by omega) hj z
 . obtain rfl:i=j:=by omega
   exact Nat.le_refl _
theorem Seg.ext (S:Seg xs pre X post) (k m:Nat) (h:k<=m) (hm:m<=X.length):(xs.extract (pre.length+k) (pre.length+m)).toList=(X.drop k).take (m - k):=by
 rw [Array.toList_extract,List.extract_eq_take_drop,S.eq,List.append_assoc,<-List.drop_drop,List.drop_left,List.drop_append_of_le_length (by omega),show pre.length+m - (pre.length+k)=m - k by omega,
  List.take_append_of_le_length (by rw [List.length_drop];omega)]
end
section
variable {prog:Program} {w:World} {A:Around} {E:Value->Shared->Prop} {s:Shared} {κ:SortKind} {a₀:Array Keyed} {rk:Keyed->Nat}
theorem zwv {a:Array Keyed} {l:List Keyed} (e:a.toList=l) {i:Nat} (h:i<l.length):tk rk a i=rk l[i]:=by
 subst e
 rw [z1s (by simpa using h)]
 simp
theorem zvr {σ:Type} {M:Model} {v st:σ} {Q:PUnit->σ->Prop} (h:Q ⟨⟩ v):wpS M A E s (set v:StateT σ Sem PUnit) Q st:=by
 unfold wpS;rw [StateT.run_set];exact wpAny_pure ⟨rfl,h⟩
theorem zy3 (hc:z5j prog w A E s κ a₀ rk) {st:SortSt} (B:TBs κ a₀ st) {L R:List (Nat×Nat×Nat)} {pw pw':Nat} {pre X Y post:List Keyed} (hP:(pendingOf st).toList=L++(pre.length,X.length,pw)::(pre.length+X.length,Y.length,pw')::R)
  (hx:(arrOf st).toList=pre++X++(Y++post)) (aX:Asc rk X) (aY:Asc rk Y) (nX:0<X.length) (nY:0<Y.length) {Q:Bool->SortSt->Prop}
  (h:∀u Z,TBs κ a₀ u->(pendingOf u).toList=L++(pre.length,X.length+Y.length,pw)::R->(arrOf u).toList=pre++Z++post->Asc rk Z->Z.length=X.length+Y.length->Q true u):wpS (model prog w) A E s (mergeAt' L.length) Q st:=by
 have S1:Seg (arrOf st) pre X (Y++post):=⟨hx⟩
 have S2:Seg (arrOf st) (pre++X) Y post:=⟨by rw [hx,<-List.append_assoc]⟩
 have l2:(pre++X).length=pre.length+X.length:=List.length_append
 have p1:(pendingOf st)[L.length]?=some (pre.length,X.length,pw):=by rw [<-Array.getElem?_toList,hP];simp
 have p2:(pendingOf st)[L.length+1]?=some (pre.length+X.length,Y.length,pw'):=by rw [<-Array.getElem?_toList,hP];simp
 have pn:(((pendingOf st).setIfInBounds L.length (pre.length,X.length+Y.length,pw)).eraseIdxIfInBounds (L.length+1)).toList=L++(pre.length,X.length+Y.length,pw)::R:=by
  rw [Array.toList_eraseIdxIfInBounds,Array.toList_setIfInBounds,hP]
  simp [List.eraseIdx_append_of_length_le]
 unfold mergeAt'
 refine wpS_bind (wpS_get ?_)
 dsimp only
 rw [p1,p2]
 dsimp only
 refine wpS_bind (zvr ?_)
 have z0:pre.length+X.length<(arrOf st).size:=by rw [S1.size,List.length_append];omega
 refine wpS_bind (z15 z0 ?_)
 have kin:∀x∈arrOf st,x∈a₀:=fun x hx=>B.mem hx
 have hX:=S1.size
 rw [List.length_append] at hX
 have vX:∀{i:Nat} (hi:i<X.length),tk rk (arrOf st) (pre.length+i)=rk X[i]:=fun hi=>S1.tk hi
 have vY:∀{i:Nat} (hi:i<Y.length),tk rk (arrOf st) (pre.length+X.length+i)=rk Y[i]:=fun {i} hi=>by have:=S2.tk (rk:=rk) hi;rwa [l2] at this
 have ky:rk (arrOf st)[pre.length+X.length]=rk Y[0]:=by rw [<-z1s (rk:=rk) z0];exact vY nY
 refine wpS_bind (zde hc (by exact B.kind) (kin _ (Array.getElem_mem _)) kin (by omega) nX (fun i j z1 z2 z3=>?_) fun k hkn lt gt=>?_)
 . unfold bey at z3 ⊢
   rw [if_neg Bool.false_ne_true] at z3 ⊢
   rw [vX (by omega)] at z3 ⊢
   have:=aX.at z1 z2
   simp only [Bool.not_eq_true',decide_eq_false_iff_not] at z3 ⊢
   omega
 dsimp only
 have ca:∀i (hi:i<X.length),i<k->rk X[i]<=rk Y[0]:=fun i hi z=>by
  have:=lt i z
  unfold bey at this
  rw [if_neg Bool.false_ne_true,vX hi,ky] at this
  simp only [Bool.not_eq_true',decide_eq_false_iff_not] at this
  omega
 have cb:∀i (hi:i<X.length),k<=i->rk Y[0]<rk X[i]:=fun i hi z=>by
  have:=gt i z hi
  unfold bey at this
  rw [if_neg Bool.false_ne_true,vX hi,ky] at this
  simpa using this
 have finXY:(∀i (hi:i<X.length) j (hj:j<Y.length),rk X[i]<=rk Y[j])->Asc rk (X++Y):=fun q=>by
  refine List.pairwise_append.mpr ⟨aX,aY,fun x hx y hy=>?_⟩
  obtain ⟨i,hi,rfl⟩:=List.mem_iff_getElem.mp hx
  obtain ⟨j,hj,rfl⟩:=List.mem_iff_getElem.mp hy
  exact q i hi j hj
 by_cases e1:X.length - k=0
 . rw [if_pos (by simpa using e1)]
   exact wpS_pure (h _ (X++Y) ⟨B.perm,B.kind,B.ok⟩ pn (by show (arrOf st).toList=_;rw [hx];simp) (finXY fun i hi j hj=>Nat.le_trans (ca i hi (by omega)) (aY.at (Nat.zero_le _) hj)) List.length_append)
 rw [if_neg (by simpa using e1)]
 have z1:pre.length+k+(X.length - k) - 1<(arrOf st).size:=by omega
 refine wpS_bind (z15 z1 ?_)
 have kx:rk (arrOf st)[pre.length+k+(X.length - k) - 1]=rk X[X.length - 1]:=by
  rw [<-z1s (rk:=rk) z1,show pre.length+k+(X.length - k) - 1=pre.length+(X.length - 1) by omega]
  exact vX (by omega)
 refine wpS_bind (zde hc (by exact B.kind) (kin _ (Array.getElem_mem _)) kin (by omega) (by omega) (fun i j z1 z2 z3=>?_) fun m hm lt2 gt2=>?_)
 . unfold bey at z3 ⊢
   rw [if_pos rfl] at z3 ⊢
   rw [vY (by omega)] at z3 ⊢
   have:=aY.at z1 z2
   simp only [decide_eq_true_eq] at z3 ⊢
   omega
 dsimp only
 have da:∀j (hj:j<Y.length),j<m->rk Y[j]<rk X[X.length - 1]:=fun j hj z=>by
  have:=lt2 j z
  unfold bey at this
  rw [if_pos rfl,vY hj,kx] at this
  simpa using this
 have db:∀j (hj:j<Y.length),m<=j->rk X[X.length - 1]<=rk Y[j]:=fun j hj z=>by
  have:=gt2 j z hj
  unfold bey at this
  rw [if_pos rfl,vY hj,kx] at this
  simp only [decide_eq_false_iff_not] at this
  omega
 by_cases e2:m=0
 . rw [if_pos (by simpa using e2)]
   exact wpS_pure (h _ (X++Y) ⟨B.perm,B.kind,B.ok⟩ pn (by show (arrOf st).toList=_;rw [hx];simp) (finXY fun i hi j hj=>Nat.le_trans (aX.at (show i<=X.length - 1 by omega) (by omega)) (db j hj (by omega))) List.length_append)
 rw [if_neg (by simpa using e2)]
 have ex:((arrOf st).extract (pre.length+k) (pre.length+X.length)).toList=X.drop k:=by
  rw [S1.ext k X.length hkn (Nat.le_refl _)]
  exact List.take_of_length_le (by rw [List.length_drop];omega)
 have ey:((arrOf st).extract (pre.length+X.length) (pre.length+X.length+m)).toList=Y.take m:=by
  have:=S2.ext 0 m (Nat.zero_le _) hm
  rwa [l2,Nat.add_zero,List.drop_zero,Nat.sub_zero] at this
 generalize hx1:(arrOf st).extract (pre.length+k) (pre.length+X.length)=x1 at *
 generalize hy1:(arrOf st).extract (pre.length+X.length) (pre.length+X.length+m)=y1 at *
 have lx:x1.size=X.length - k:=by rw [<-Array.length_toList,ex,List.length_drop]
 have ly:y1.size=m:=by rw [<-Array.length_toList,ey,List.length_take];omega
 have tx:∀i,i<X.length - k->∃hi:k+i<X.length,tk rk x1 i=rk X[k+i]:=fun i hi=>⟨by omega,by rw [zwv ex (by rw [List.length_drop];exact hi),List.getElem_drop]⟩
 have ty:∀i,i<m->∃hi:i<Y.length,tk rk y1 i=rk Y[i]:=fun i hi=>⟨by omega,by rw [zwv ey (by rw [List.length_take];omega),List.getElem_take]⟩
 have xin:∀x∈x1,x∈a₀:=fun x hx=>kin x (Array.mem_def.mpr (by rw [Array.mem_def,ex] at hx;rw [S1.eq];exact List.mem_append_left _ (List.mem_append_right _ (List.mem_of_mem_drop hx))))
 have yin:∀x∈y1,x∈a₀:=fun x hx=>kin x (Array.mem_def.mpr (by rw [Array.mem_def,ey] at hx;rw [S2.eq];exact List.mem_append_left _ (List.mem_append_right _ (List.mem_of_mem_take hx))))
 have first:∀j,j<x1.size->tk rk y1 0<=tk rk x1 j:=fun j hj=>by
  obtain ⟨h1,e1⟩:=tx j (by omega)
  obtain ⟨h2,e2⟩:=ty 0 (by omega)
  rw [e1,e2];exact Nat.le_of_lt (cb _ h1 (by omega))
 have last:∀j,j<y1.size->tk rk y1 j<=tk rk x1 (x1.size - 1):=fun j hj=>by
  obtain ⟨h1,e1⟩:=tx (x1.size - 1) (by omega)
  obtain ⟨h2,e2⟩:=ty j (by omega)
  rw [e1,e2]
  have:=da j h2 (by omega)
  simp only [show k+(x1.size - 1)=X.length - 1 by omega]
  omega
 have A1:Asc rk x1.toList:=by rw [ex];exact aX.drop k
 have A2:Asc rk y1.toList:=by rw [ey];exact aY.take m
 have done:∀(out:Array Keyed) (u:SortSt),GS (SortSt.mk' (kindOf st) (arrOf st) (((pendingOf st).setIfInBounds L.length (pre.length,X.length+Y.length,pw)).eraseIdxIfInBounds (L.length+1)) (gallopOf st) (failedOf st)) u->out.toList.Perm (x1.toList++y1.toList)/\Asc rk out.toList ->
   Q (failedOf (SortSt.mk' (kindOf u) (List.foldl (fun a (q:Keyed×Nat)=>a.setIfInBounds (pre.length+k+q.2) q.1) (arrOf u) out.toList.zipIdx) (pendingOf u) (gallopOf u) (failedOf u))).isNone (SortSt.mk' (kindOf u) (List.foldl (fun a (q:Keyed×Nat)=>a.setIfInBounds (pre.length+k+q.2) q.1) (arrOf u) out.toList.zipIdx) (pendingOf u) (gallopOf u) (failedOf u)):=fun out u G f=>by
  have eu:arrOf u=arrOf st:=G.arr
  have lo:out.toList.length=X.length - k+m:=by rw [f.1.length_eq,List.length_append,ex,ey,List.length_drop,List.length_take];omega
  have en:=zkb (pre.length+k) out.toList 0 (arrOf u) (by rw [eu];omega)
  rw [Nat.add_zero,eu,hx,lo] at en
  have t1:(pre++X++(Y++post)).take (pre.length+k)=pre++X.take k:=by
   rw [List.append_assoc,List.take_length_add_append,List.take_append_of_le_length hkn]
  have t2:(pre++X++(Y++post)).drop (pre.length+k+(X.length - k+m))=Y.drop m++post:=by
   rw [show pre.length+k+(X.length - k+m)=(pre++X).length+m by rw [l2];omega,List.drop_length_add_append,List.drop_append_of_le_length hm]
  rw [t1,t2] at en
  have ok:failedOf u=none:=G.ok.trans B.ok
  have pz:(X.take k++out.toList++Y.drop m).Perm (X++Y):=by
   refine ((f.1.append_left (X.take k)).append_right (Y.drop m)).trans ?_
   rw [ex,ey,<-List.append_assoc,List.take_append_drop,List.append_assoc,List.take_append_drop]
  rw [show (failedOf (SortSt.mk' (kindOf u) (List.foldl (fun a (q:Keyed×Nat)=>a.setIfInBounds (pre.length+k+q.2) q.1) (arrOf u) out.toList.zipIdx) (pendingOf u) (gallopOf u) (failedOf u))).isNone=true by show (failedOf u).isNone=true;rw [ok];rfl]
  refine h _ (X.take k++out.toList++Y.drop m) ⟨?_,G.kind.trans B.kind,ok⟩ (by show (pendingOf u).toList=_;rw [G.pend];exact pn) (by show (List.foldl _ (arrOf u) _).toList=_;rw [eu,en];simp) ?_ (by rw [pz.length_eq,List.length_append])
  . refine Array.perm_iff_toList_perm.mpr ?_
    show (List.foldl _ (arrOf u) _).toList.Perm _
    rw [eu,en]
    refine List.Perm.trans ?_ (Array.perm_iff_toList_perm.mp B.perm)
    rw [hx]
    have e1:pre++X.take k++out.toList++(Y.drop m++post)=pre++((X.take k++out.toList++Y.drop m)++post):=by simp
    have e2:pre++X++(Y++post)=pre++((X++Y)++post):=by simp
    rw [e1,e2]
    exact (pz.append_right _).append_left _
  . have mem1:∀y∈out.toList,(∃(i:Nat) (hi:i<X.length),k<=i/\y=X[i])\/∃(j:Nat) (hj:j<Y.length),j<m/\y=Y[j]:=fun y hy=>by
     rcases List.mem_append.mp (f.1.mem_iff.mp hy) with z | z
     . rw [ex] at z
       obtain ⟨i,hi,rfl⟩:=List.mem_iff_getElem.mp z
       rw [List.length_drop] at hi
       exact .inl ⟨k+i,by omega,by omega,List.getElem_drop⟩
     . rw [ey] at z
       obtain ⟨i,hi,rfl⟩:=List.mem_iff_getElem.mp z
       rw [List.length_take] at hi
       exact .inr ⟨i,by omega,by omega,List.getElem_take⟩
    refine List.pairwise_append.mpr ⟨List.pairwise_append.mpr ⟨aX.take k,f.2,fun x hx y hy=>?_⟩,aY.drop m,fun x hx y hy=>?_⟩
    . obtain ⟨i,hi,rfl⟩:=List.mem_iff_getElem.mp hx
      rw [List.length_take] at hi
      rw [List.getElem_take]
      rcases mem1 y hy with ⟨j,hj,z,rfl⟩ | ⟨j,hj,z,rfl⟩
      . exact aX.at (by omega) hj
      . exact Nat.le_trans (ca i (by omega) (by omega)) (aY.at (Nat.zero_le _) hj)
    . obtain ⟨j,hj,rfl⟩:=List.mem_iff_getElem.mp hy
      rw [List.length_drop] at hj
      rw [List.getElem_drop]
      rcases List.mem_append.mp hx with z | z
      . obtain ⟨i,hi,rfl⟩:=List.mem_iff_getElem.mp z
        rw [List.length_take] at hi
        rw [List.getElem_take]
        exact Nat.le_trans (ca i (by omega) (by omega)) (aY.at (Nat.zero_le _) (by omega))
      . rcases mem1 x z with ⟨i,hi,_,rfl⟩ | ⟨i,hi,q,rfl⟩
        . exact Nat.le_trans (aX.at (show i<=X.length - 1 by omega) (by omega)) (db _ (by omega) (by omega))
        . exact aY.at (by omega) (by omega)
 by_cases e3:X.length - k<=m
 . rw [if_pos e3]
   exact wpS_bind (zy1 hc (by exact B.kind) xin yin A1 A2 (by omega) (by omega) first last fun out u G f=>wpS_bind (wpS_modify (wpS_bind (wpS_get (wpS_pure (done out u G f))))))
 . rw [if_neg e3]
   exact wpS_bind (zy2 hc (by exact B.kind) xin yin A1 A2 (by omega) (by omega) first last fun out u G f=>wpS_bind (wpS_modify (wpS_bind (wpS_get (wpS_pure (done out u G f))))))
end
section
variable {rk:Keyed->Nat}
noncomputable def pend:Nat->List (List Keyed×Nat)->List (Nat×Nat×Nat)
 | _,[]=>[]
 | lo,(X,pw)::S=>(lo,X.length,pw)::pend (lo+X.length) S
noncomputable def z40 (S:List (List Keyed×Nat)):List Keyed:=(S.map (·.1)).flatten
theorem z1z (S T:List (List Keyed×Nat)):z40 (S++T)=z40 S++z40 T:=by simp [z40]
theorem z0i (X:List Keyed) (pw:Nat) (S:List (List Keyed×Nat)):z40 ((X,pw)::S)=X++z40 S:=by simp [z40]
theorem z41:∀(lo:Nat) (S T:List (List Keyed×Nat)),pend lo (S++T)=pend lo S++pend (lo+(z40 S).length) T
 | lo,[],T=>by simp [pend,z40]
 | lo,(X,pw)::S,T=>by
  rw [List.cons_append,pend,pend,z41,z0i,List.length_append,List.cons_append,Nat.add_assoc]
theorem z42:∀(lo:Nat) (S:List (List Keyed×Nat)),(pend lo S).length=S.length
 | _,[]=>rfl
 | lo,(X,pw)::S=>by rw [pend,List.length_cons,z42,List.length_cons]
structure Runs (rk:Keyed->Nat) (u:SortSt) (S:List (List Keyed×Nat)) (rest:List Keyed):Prop where
 arr:(arrOf u).toList=z40 S++rest
 pend:(pendingOf u).toList=L2.pend 0 S
 asc:∀X∈S,Asc rk X.1/\0<X.1.length
variable {prog:Program} {w:World} {A:Around} {E:Value->Shared->Prop} {s:Shared} {κ:SortKind} {a₀:Array Keyed}
theorem zrw (hc:z5j prog w A E s κ a₀ rk) {u:SortSt} (B:TBs κ a₀ u) {S T:List (List Keyed×Nat)} {X Y:List Keyed} {pw pw':Nat} {rest:List Keyed} (H:Runs rk u (S++(X,pw)::(Y,pw')::T) rest) {Q:Bool->SortSt->Prop}
  (h:∀v Z,TBs κ a₀ v->Runs rk v (S++(Z,pw)::T) rest->Z.length=X.length+Y.length->Q true v):wpS (model prog w) A E s (mergeAt' S.length) Q u:=by
 have aX:=H.asc (X,pw) (by simp)
 have aY:=H.asc (Y,pw') (by simp)
 have hl:(pend 0 S).length=S.length:=z42 0 S
 rw [<-hl]
 refine zy3 hc B (L:=pend 0 S) (R:=pend ((z40 S).length+X.length+Y.length) T) (pw:=pw) (pw':=pw') (pre:=z40 S) (X:=X) (Y:=Y) (post:=z40 T++rest) ?_ ?_ aX.1 aY.1 aX.2 aY.2 fun v Z B' hp ha aZ lZ=>?_
 . rw [H.pend,z41,Nat.zero_add,pend,pend]
 . rw [H.arr,z1z,z0i,z0i];simp
 . refine h v Z B' ⟨?_,?_,fun W hW=>?_⟩ lZ
   . rw [ha,z1z,z0i];simp
   . rw [hp,z41,Nat.zero_add,pend,lZ,Nat.add_assoc]
   . rcases List.mem_append.mp hW with z | z
     . exact H.asc W (List.mem_append_left _ z)
     . rcases List.mem_cons.mp z with rfl | z
       . exact ⟨aZ,by show 0<Z.length;rw [lZ];exact Nat.lt_of_lt_of_le aX.2 (Nat.le_add_right _ _)⟩
       . exact H.asc W (List.mem_append_right _ (.tail _ (.tail _ z)))
theorem zrx {xs:Array Keyed} {lo n:Nat} (h:TSo rk xs lo (lo+n)) (hz:lo+n<=xs.size):Asc rk ((xs.toList.drop lo).take n):=by
 refine List.pairwise_iff_getElem.mpr fun i j hi hj hij=>?_
 simp only [List.length_take,List.length_drop,Array.length_toList] at hi hj
 have:=h (lo+i) (lo+j) (by omega) (by omega) (by omega)
 rw [z1s (by omega),z1s (by omega)] at this
 simpa using this
theorem Runs.few {u:SortSt} {rest:List Keyed}:∀{S:List (List Keyed×Nat)},(∀X∈S,Asc rk X.1/\0<X.1.length)->S.length<=(z40 S).length
 | [],_=>Nat.zero_le _
 | (X,pw)::S,h=>by
  have:=Runs.few (u:=u) (rest:=rest) (S:=S) fun Y hY=>h Y (.tail _ hY)
  have:=(h (X,pw) (.head _)).2
  rw [z0i,List.length_append,List.length_cons]
  simp only at this
  omega
theorem zry {S:List (List Keyed×Nat)} {i:Nat} (h:i+1<S.length):∃S1 X pw Y pw' T,S=S1++(X,pw)::(Y,pw')::T/\S1.length=i:=by
 refine ⟨S.take i,S[i].1,S[i].2,S[i+1].1,S[i+1].2,S.drop (i+2),?_,by rw [List.length_take];omega⟩
 have e1:=List.drop_eq_getElem_cons (show i<S.length by omega)
 have e2:=List.drop_eq_getElem_cons h
 show S=S.take i++S[i]::S[i+1]::S.drop (i+1+1)
 rw [<-e2,<-e1,List.take_append_drop]
theorem zrz (hc:z5j prog w A E s κ a₀ rk) {u:SortSt} (B:TBs κ a₀ u) {S:List (List Keyed×Nat)} {rest:List Keyed} (H:Runs rk u S rest) {i:Nat} (hi:i+1<S.length) {Q:Bool->SortSt->Prop}
  (h:∀v S',TBs κ a₀ v->Runs rk v S' rest->(z40 S').length=(z40 S).length->S'.length+1=S.length->Q true v):wpS (model prog w) A E s (mergeAt' i) Q u:=by
 obtain ⟨S1,X,pw,Y,pw',T,rfl,rfl⟩:=zry hi
 refine zrw hc B H fun v Z B' H' lZ=>h v _ B' H' ?_ ?_
 . rw [z1z,z1z,z0i,z0i,z0i];simp only [List.length_append];omega
 . simp only [List.length_append,List.length_cons];omega
theorem Runs.push {v:SortSt} {S:List (List Keyed×Nat)} {Z r:List Keyed} (H:Runs rk v S (Z++r)) (a:Asc rk Z) (z:0<Z.length):Runs rk (setPending v ((pendingOf v).push ((z40 S).length,Z.length,0))) (S++[(Z,0)]) r:=by
 refine ⟨?_,?_,fun X hX=>?_⟩
 . show (arrOf v).toList=_
   rw [H.arr,z1z,z0i];simp [z40]
 . show ((pendingOf v).push _).toList=_
   rw [Array.toList_push,H.pend,z41,Nat.zero_add];rfl
 . rcases List.mem_append.mp hX with q | q
   . exact H.asc X q
   . rw [List.mem_singleton] at q;subst q;exact ⟨a,z⟩
theorem zg6 {β:Type} (f:β->β):∀(l:List β) (x:β),(l++[x]).modify l.length f=l++[f x]
 | [],_=>rfl
 | a::l,x=>by
  rw [List.cons_append,List.length_cons,List.modify_succ_cons,zg6 f l x,List.cons_append]
theorem Runs.repow {v:SortSt} {S:List (List Keyed×Nat)} {r:List Keyed} (H:Runs rk v S r) (hS:S≠[]) (P:Nat):∃S',Runs rk (setPending v ((pendingOf v).modify ((pendingOf v).size - 1) fun x=>(x.1,x.2.1,P))) S' r/\z40 S'=z40 S:=by
 obtain ⟨S0,⟨X,pw⟩,rfl⟩:∃S0 t,S=S0++[t]:=⟨S.dropLast,S.getLast hS,(List.dropLast_concat_getLast hS).symm⟩
 have sz:(pendingOf v).size=S0.length+1:=by rw [<-Array.length_toList,H.pend,z42];simp
 refine ⟨S0++[(X,P)],⟨?_,?_,fun Y hY=>?_⟩,by rw [z1z,z1z,z0i,z0i]⟩
 . show (arrOf v).toList=_
   rw [H.arr,z1z,z1z,z0i,z0i]
 . show ((pendingOf v).modify _ _).toList=_
   rw [Array.toList_modify,H.pend,sz,z41,z41,Nat.add_sub_cancel,<-z42 0 S0]
   exact zg6 _ _ _
 . rcases List.mem_append.mp hY with q | q
   . exact H.asc Y (List.mem_append_left _ q)
   . rw [List.mem_singleton] at q;subst q;exact H.asc (X,pw) (by simp)
theorem zvs {c:Prop} [Decidable c] {n m:Nat} (h:n=m) (h2:¬n<=1):(if c then n - 2 - 1 else n - 2)+1<m:=by split<;>omega
theorem zs0 (hc:z5j prog w A E s κ a₀ rk) {st:SortSt} (B:TBs κ a₀ st) (h2:2<=a₀.size) (hp:pendingOf st=#[]) {Q:Unit->SortSt->Prop} (h:∀u,TBs κ a₀ u->Asc rk (arrOf u).toList->Q () u):wpS (model prog w) A E s sortRuns' Q st:=by
 rw [sortRuns'_eq]
 refine wpS_bind (wpS_get ?_)
 dsimp only
 rw [B.size]
 refine wpS_bind (wpS_mono (wpS_forRange (I:=fun x c u=>TBs κ a₀ u/\∃lo S rest,c=(none,lo)/\Runs rk u S rest/\(z40 S).length=lo/\lo<=a₀.size/\(x<=lo\/lo=a₀.size))
  (Q:=fun c u=>TBs κ a₀ u/\∃S rest,c=(none,a₀.size)/\Runs rk u S rest/\(z40 S).length=a₀.size) ?step ?fin ⟨B,0,[],(arrOf st).toList,rfl,⟨rfl,by rw [hp];rfl,fun X hX=>absurd hX List.not_mem_nil⟩,rfl,Nat.zero_le _,.inl (Nat.le_refl _)⟩) ?post)
 case fin=>
  rintro c u ⟨B1,lo,S,rest,rfl,H,e,l1,l2⟩
  simp only [Nat.zero_max] at l2
  obtain rfl:lo=a₀.size:=by omega
  exact ⟨B1,S,rest,rfl,H,e⟩
 case post=>
  rintro c u ⟨B1,S,rest,rfl,H,e⟩
  dsimp only
  refine wpS_bind (wpS_mono (wpS_forRange (I:=fun x c v=>c=(none,())/\TBs κ a₀ v/\∃S rest,Runs rk v S rest/\(z40 S).length=a₀.size/\S.length+x<=a₀.size)
   (Q:=fun c v=>c=(none,())/\TBs κ a₀ v/\∃S rest,Runs rk v S rest/\(z40 S).length=a₀.size/\S.length<=1) (fun x c v _ _ hI=>?_) (fun c v hI=>?_) ⟨rfl,B1,S,rest,H,e,by have:=Runs.few (u:=u) (rest:=rest) H.asc;omega⟩) fun c v hI=>?_)
  . obtain ⟨rfl,B2,S,rest,H,e,l⟩:=hI
    have sz:(pendingOf v).size=S.length:=by rw [<-Array.length_toList,H.pend,z42]
    refine wpS_bind (wpS_get ?_)
    by_cases q:(pendingOf v).size<=1
    . rw [if_pos q]
      exact wpS_pure ⟨rfl,B2,S,rest,H,e,by omega⟩
    . rw [if_neg q]
      refine wpS_bind (zrz hc B2 H (zvs sz q) fun u2 S' B3 H' e' l'=>?_)
      exact wpS_pure ⟨rfl,B3,S',rest,H',e'.trans e,by omega⟩
  . obtain ⟨rfl,B2,S,rest,H,e,l⟩:=hI
    exact ⟨rfl,B2,S,rest,H,e,by simp only [Nat.zero_max] at l;omega⟩
  . obtain ⟨rfl,B2,S,rest,H,e,l⟩:=hI
    refine wpS_pure (h v B2 ?_)
    have hr:rest=[]:=by
     have:=congrArg List.length H.arr
     rw [Array.length_toList,B2.size,List.length_append,e] at this
     exact List.length_eq_zero_iff.mp (by omega)
    rw [H.arr,hr,List.append_nil]
    match S,l,H.asc with
    | [],_,_=>exact .nil
    | [(X,pw)],_,a=>rw [z0i];simpa [z40] using (a _ (.head _)).1
    | _::_::_,l,_=>simp at l
 case step=>
  rintro x c u _ _ ⟨B1,lo,S,rest,rfl,H,e,l1,l2⟩
  dsimp only
  by_cases q:lo ≥ a₀.size
  . rw [if_pos q]
    obtain rfl:lo=a₀.size:=by omega
    exact wpS_pure ⟨B1,S,rest,rfl,H,e⟩
  rw [if_neg q]
  refine wpS_bind (zmt hc B1 (by omega) (by omega) fun n u1 n1 n2 B2 L2 so=>?_)
  dsimp only
  obtain ⟨mr,hmr⟩:∃mr,mr=minRun' a₀.size a₀.size 0:=⟨_,rfl⟩
  rw [<-hmr]
  rcases Nat.lt_or_ge n mr with hn | hn
  case' inl=>
   rw [if_pos hn]
   refine wpS_bind (z7s ?_)
   refine wpS_bind (zvp hc B2 (n:=min (a₀.size - lo) mr) (by omega) n1 (by omega) so fun u2 B3 L3 so2=>?_)
   rw [if_neg (by simp)]
   obtain ⟨m,em,m1,m2,so3⟩:∃m,m=min (a₀.size - lo) mr/\1<=m/\lo+m<=a₀.size/\TSo rk (arrOf u2) lo (lo+m):=⟨_,rfl,by omega,by omega,so2⟩
   rw [<-em]
   have L4:=L2.trans L3
   clear em
  case' inr=>
   rw [if_neg (by omega)]
   obtain ⟨m,u2,em,eu,m1,m2,so3,B3,L4⟩:∃m u2,m=n/\u2=u1/\1<=m/\lo+m<=a₀.size/\TSo rk (arrOf u2) lo (lo+m)/\TBs κ a₀ u2/\TL u u2 lo:=⟨_,_,rfl,rfl,n1,by omega,so,B2,L2⟩
   rw [<-em,<-eu]
   clear em eu
  all_goals
   have hz:lo+m<=(arrOf u2).size:=by rw [B3.size];exact m2
   obtain ⟨Z,eZ⟩:∃Z,Z=((arrOf u2).toList.drop lo).take m:=⟨_,rfl⟩
   have aZ:Asc rk Z:=eZ ▸ zrx so3 hz
   have lZ:Z.length=m:=by rw [eZ,List.length_take,List.length_drop,Array.length_toList];omega
   have H2:Runs rk u2 S (Z++(arrOf u2).toList.drop (lo+m)):=by
    refine ⟨?_,by rw [L4.pend];exact H.pend,H.asc⟩
    have t:(arrOf u2).toList.take lo=z40 S:=by
     have:(arrOf u2).toList.take lo=(arrOf u).toList.take lo:=by
      refine List.ext_getElem? fun i=>?_
      rw [List.getElem?_take,List.getElem?_take]
      by_cases z:i<lo
      . rw [if_pos z,if_pos z,Array.getElem?_toList,Array.getElem?_toList];exact L4.low i z
      . rw [if_neg z,if_neg z]
     rw [this,H.arr,<-e,List.take_left]
    rw [<-t,eZ,<-drop_take,List.take_append_drop]
   generalize (arrOf u2).toList.drop (lo+m)=r2 at H2
   refine wpS_bind (wpS_get ?_)
   have fin:∀(v:SortSt) (S':List (List Keyed×Nat)),TBs κ a₀ v->Runs rk v S' (Z++r2)->(z40 S').length=lo ->
     TBs κ a₀ (setPending v ((pendingOf v).push (lo,m,0)))/\∃lo' S'' rest,((none:Option Unit),lo+m)=(none,lo')/\Runs rk (setPending v ((pendingOf v).push (lo,m,0))) S'' rest/\(z40 S'').length=lo'/\lo'<=a₀.size/\(x+1<=lo'\/lo'=a₀.size):=fun v S' Bv Hv ev=>by
    have:=Hv.push aZ (by omega)
    rw [ev,lZ] at this
    exact ⟨⟨Bv.perm,Bv.kind,Bv.ok⟩,lo+m,_,r2,rfl,this,by rw [z1z,z0i,List.length_append,ev,List.length_append,lZ];simp [z40],m2,.inl (by omega)⟩
   cases hb:(pendingOf u2).back? with
   | none=>exact wpS_bind (wpS_modify (wpS_pure (fin u2 S B3 H2 e)))
   | some t=>
    obtain ⟨s1,n1',p1⟩:=t
    dsimp only
    have hS:S≠[]:=fun z=>by
     have:=H2.pend
     rw [z] at this
     rw [Array.toList_eq_nil_iff.mp this] at hb
     cases hb
    refine wpS_bind (wpS_mono (wpS_forRange (I:=fun _ c v=>c=(none,())/\TBs κ a₀ v/\∃S',Runs rk v S' (Z++r2)/\(z40 S').length=lo/\S'≠[])
     (Q:=fun c v=>c=(none,())/\TBs κ a₀ v/\∃S',Runs rk v S' (Z++r2)/\(z40 S').length=lo/\S'≠[]) (fun y c v _ _ hI=>?_) (fun c v hI=>hI) ⟨rfl,B3,S,H2,e,hS⟩) fun c v hI=>?_)
    . obtain ⟨rfl,Bv,S',Hv,ev,nv⟩:=hI
      refine wpS_bind (wpS_get ?_)
      have sz:(pendingOf v).size=S'.length:=by rw [<-Array.length_toList,Hv.pend,z42]
      cases hq:(if (pendingOf v).size > 1 then (pendingOf v)[(pendingOf v).size - 2]? else none) with
      | none=>exact wpS_pure ⟨rfl,Bv,S',Hv,ev,nv⟩
      | some t=>
       obtain ⟨q1,q2,older⟩:=t
       dsimp only
       have hs:(pendingOf v).size > 1:=by
        by_cases z:(pendingOf v).size > 1
        . exact z
        . rw [if_neg z] at hq;cases hq
       split
       . exact wpS_pure ⟨rfl,Bv,S',Hv,ev,nv⟩
       . refine wpS_bind (zrz hc Bv Hv (by omega) fun v2 S2 B5 H5 e5 l5=>?_)
         rw [if_neg (by simp)]
         exact wpS_pure ⟨rfl,B5,S2,H5,e5.trans ev,fun z=>by rw [z] at l5;simp at l5;omega⟩
    . obtain ⟨rfl,Bv,S',Hv,ev,nv⟩:=hI
      dsimp only
      obtain ⟨S2,H5,e5⟩:=Hv.repow nv (power' a₀.size (2 * s1+n1') (2 * s1+n1'+n1'+m) a₀.size)
      exact wpS_bind (wpS_modify (wpS_bind (wpS_modify (wpS_pure (fin _ S2 ⟨Bv.perm,Bv.kind,Bv.ok⟩ H5 (by rw [e5];exact ev))))))
end
section
variable {prog:Program} {w:World} {E:Value->Shared->Prop} {s:Shared} {A:Around}
noncomputable def z0l (h:Heap) (a:Addr) (vs:List Value):Heap:=((h.update a (Obj.mapSeq fun _=>#[])).push (seqObj "tuple" vs.toArray 0)).push (seqObj "list" #[] 0)
theorem z5k {h:Heap} {a:Addr} {vs:List Value} {n:Nat} (ho:h.get? a=some (seqObj "list" vs.toArray n)) :
  ∃k,(h.update a (Obj.mapSeq fun _=>#[])).get? a=some (seqObj "list" #[] k)/\(z0l h a vs).get? a=some (seqObj "list" #[] k):=
 ⟨_,get?_update_seq ho fun _=>#[],Heap.get?_push_of_some _ (Heap.get?_push_of_some _ (get?_update_seq ho fun _=>#[]))⟩
theorem zc9 {a:Addr} {vs:List Value} {n:Nat} {P:PySem.Fin->Shared->Prop} {κ:SortKind} {rk:Keyed->Nat} (ho:s.heap.get? a=some (seqObj "list" vs.toArray n)) (h2:2<=vs.length) (hz:vs.length<=sizeLine)
  (hκ:∀(Q:SortKind->Shared->Prop),Q κ { s with heap:=z0l s.heap a vs }->wpAny (model prog w) A (keyKind' vs.toArray) Q E { s with heap:=z0l s.heap a vs })
  (hc:z5j prog w A E { s with heap:=z0l s.heap a vs } κ (pairsOf vs) rk)
  (h:∀out:Array Keyed,out.Perm (pairsOf vs)->Asc rk out.toList->P (.done (.ret .none)) { s with heap:=sortedHeap s.heap a vs (out.map (·.2)) }):wpAny (model prog w) A (Builtin.«list.sort» ⟨[.ref a],[]⟩) P E s:=by
 obtain ⟨k,k1,k2⟩:=z5k ho
 have nn:¬vs.toArray.size<2:=by rw [List.size_toArray];omega
 rw [list_sort_plain]
 refine wpAny_bind (listItems_at ho rfl (wpAny_bind (listUpdate_at ho rfl (wpAny_bind (seqEpoch_at k1 rfl (wpAny_bind (wpAny_newTuple (wpAny_bind (wpAny_newList (wpAny_holding ?_) (Nat.zero_le _))) hz)))) (by rw [List.size_toArray];exact hz) (Nat.zero_le _))))
 show wpAny (model prog w) A _ P E { s with heap:=z0l s.heap a vs }
 rw [if_neg nn,if_neg nn]
 refine wpAny_bind (hκ _ (wpAny_bind (wpAny_mono (zs0 (st:=SortSt.mk' κ (pairsOf vs) #[] 7 none) hc ⟨.refl _,rfl,rfl⟩ (by rw [pairsOf_size];exact h2) rfl (Q:=fun _ u=>TBs κ (pairsOf vs) u/\Asc rk (arrOf u).toList) fun u B a=>⟨B,a⟩) ?_ fun _ _ x=>x)))
 rintro ⟨⟨⟩,u⟩ s' ⟨rfl,B,hA⟩
 refine wpAny_bind (seqEpoch_at k2 rfl (wpAny_bind (listUpdate_at k2 rfl ?_ (Nat.zero_le _) (by rw [Array.size_map,B.size,pairsOf_size];exact Nat.le_succ_of_le hz))))
 rw [B.ok,bne_self_eq_false]
 exact wpAny_pure (h _ B.perm hA)
noncomputable def z2q (h:Heap) (vs:List Value):Heap:=((h.push (seqObj "list" #[] 0)).update h.objs.size (Obj.mapSeq (·++vs.toArray))).push (seqObj "list" vs.toArray 0)
theorem z6n (h:Heap) (vs:List Value):(z2q h vs).get? (h.objs.size+1)=some (seqObj "list" vs.toArray 0):=by
 have e:((h.push (seqObj "list" #[] 0)).update h.objs.size (Obj.mapSeq (·++vs.toArray))).objs.size=h.objs.size+1:=(Heap.size_update _ _ _).trans (size_push' _ _)
 unfold z2q
 conv=>lhs;arg 2;rw [<-e]
 exact Heap.get?_push_size _ rfl
theorem zdf {h:Heap} {vs:List Value} {b:Addr} {o:Obj} (q:h.get? b=some o):(z0l (z2q h vs) (h.objs.size+1) vs).get? b=some o:=by
 have lt:b<h.objs.size:=Heap.lt_size q
 refine Heap.get?_push_of_some _ (Heap.get?_push_of_some _ ?_)
 rw [Heap.get?_update_ne _ _ _ _ (Nat.ne_of_lt (Nat.lt_add_right 1 lt))]
 refine Heap.get?_push_of_some _ ?_
 rw [Heap.get?_update_ne _ _ _ _ (Nat.ne_of_lt lt)]
 exact Heap.get?_push_of_some _ q
theorem zdg {l:Addr} {vs:List Value} {Q:Value->Shared->Prop} {κ:SortKind} {rk:Keyed->Nat} (hl:s.heap.IsList l vs.toArray) (h2:2<=vs.length) (hz:vs.length<=sizeLine)
  (hκ:∀(Q:SortKind->Shared->Prop),Q κ { s with heap:=z0l (z2q s.heap vs) (s.heap.objs.size+1) vs }->wpAny (model prog w) A.in1.in1 (keyKind' vs.toArray) Q (fun _ _=>False) { s with heap:=z0l (z2q s.heap vs) (s.heap.objs.size+1) vs })
  (hc:z5j prog w A.in1.in1 (fun _ _=>False) { s with heap:=z0l (z2q s.heap vs) (s.heap.objs.size+1) vs } κ (pairsOf vs) rk)
  (h:∀out:Array Keyed,out.Perm (pairsOf vs)->Asc rk out.toList->Q (.ref (s.heap.objs.size+1)) { s with heap:=sortedAll s.heap vs (out.map (·.2)) }):wpAny (model prog w) A (call (.builtin "sorted") [.ref l]) Q E s:=by
 have e:((s.heap.push (seqObj "list" #[] 0)).update s.heap.objs.size (Obj.mapSeq (·++vs.toArray))).objs.size=s.heap.objs.size+1:=(Heap.size_update _ _ _).trans (size_push' _ _)
 have b:=zc9 (s:={ s with heap:=z2q s.heap vs }) (E:=fun _ _=>False) (P:=fun f s'=>∃x,f=.done (.ret x)/\Q (.ref (s.heap.objs.size+1)) s') (z6n s.heap vs) h2 hz hκ hc fun out p a=>⟨_,rfl,h out p a⟩
 apply Calls.call_function_entry kind_sorted plain_sorted entry_sorted (args_sorted1 (.ref l))
 unfold Builtin.«sorted»
 refine wpAny_bind (m:=checkCount "sorted" 1 1 _) (wpAny_pure (wpAny_bind (collect_list hl (wpAny_bind (wpAny_newList ?_ hz)) hz)))
 show wpAny _ _ _ _ _ { s with heap:=z2q s.heap vs }
 rw [e]
 refine wpAny_bind (wpAny_holding (wpAny_call_entry slot_list_sort ⟨_,z6n s.heap vs,rfl⟩ entry_list_sort (wpAny_mono b (fun f s' q=>?_) fun _ _ x=>x.elim) (args_list_sort _)))
 obtain ⟨x,rfl,q⟩:=q
 exact ⟨_,rfl,wpAny_pure ⟨_,rfl,q⟩⟩
end
noncomputable def rkD (ds:List D) (d:D):Nat:=ds.countP fun e=>ltT e d
theorem zca {ds:List D} (h:ois ds=true) {d e:D} (hd:d∈ds) (he:e∈ds):decide (rkD ds d<rkD ds e)=ltT d e:=by
 have ho:∀x∈ds,x.oi=true:=fun x hx=>ois_mem.mp h x hx
 have up:∀{d e:D},d∈ds->e∈ds->ltT d e=true->rkD ds d<rkD ds e:=fun {d e} hd he q=>by
  unfold rkD
  have le:∀l:List D,(∀x∈l,x∈ds)->l.countP (fun x=>ltT x d)<=l.countP (fun x=>ltT x e):=fun l hl=>
   List.countP_mono_left fun x hx hxd=>zhz (ho x (hl x hx)) (ho d hd) (ho e he) hxd q
  obtain ⟨l1,l2,rfl⟩:=List.append_of_mem hd
  have a:=le l1 fun x hx=>by simp [hx]
  have b:=le l2 fun x hx=>by simp [hx]
  simp only [List.countP_append,List.countP_cons,q,zfd (ho d hd)]
  simp
  omega
 cases q:ltT d e with
 | true=>simpa using up hd he q
 | false=>
  cases q':ltT e d with
  | true=>have:=up he hd q';simp;omega
  | false=>obtain rfl:=zbt (ho d hd) (ho e he) q q';simp
theorem z50 {d:D} (h:d.oi=true):(∃a,d=.int a)\/∃ds,d=.tup ds/\ois ds=true:=by
 cases d with
 | int a=>exact .inl ⟨a,rfl⟩
 | tup ds=>exact .inr ⟨ds,rfl,by simpa only [D.oi] using h⟩
 | _=>exact nomatch h
theorem zmv {K:Frag} {H:Hp} {n:Nat} (ih:∀{d e:D} {x:V},d.dep<=n->d.oi=true->e.oi=true->RD K H d x->RD K H e x->d=e):∀{ds es:List D} {xs:List V},z3v ds<=n->ois ds=true->ois es=true->RDs K H ds xs->RDs K H es xs->ds=es:=by
 intro ds
 induction ds with
 | nil=>
  intro es xs _ _ _ r1 r2
  have l:=r2.length
  rw [<-r1.length] at l
  exact (List.length_eq_zero_iff.mp l).symm
 | cons d ds ihl=>
  intro es xs hd o1 o2 r1 r2
  cases es with
  | nil=>
   have l:=r1.length
   rw [<-r2.length] at l
   cases l
  | cons e es=>
   simp only [RDs] at r1 r2
   obtain ⟨x,ys,h1,p1,q1⟩:=r1
   obtain ⟨y,zs,h2,p2,q2⟩:=r2
   rw [h1] at h2;cases h2
   simp only [ois,Bool.and_eq_true] at o1 o2
   simp only [z3v] at hd
   rw [ih (Nat.le_trans (Nat.le_max_left _ _) hd) o1.1 o2.1 p1 p2,ihl (Nat.le_trans (Nat.le_max_right _ _) hd) o1.2 o2.2 q1 q2]
theorem zs1 {K:Frag} {H:Hp}:∀(n:Nat) {d e:D} {x:V},d.dep<=n->d.oi=true->e.oi=true->RD K H d x->RD K H e x->d=e:=by
 intro n
 induction n with
 | zero=>
  intro d e x hd o1 o2 r1 r2
  rcases z50 o1 with ⟨a,rfl⟩ | ⟨ds,rfl,_⟩
  . have h1:=r1.int
    rcases z50 o2 with ⟨b,rfl⟩ | ⟨es,rfl,_⟩
    . have h2:=r2.int;rw [h1] at h2;cases h2;rfl
    . obtain ⟨_,_,h2,_⟩:=r2.tup;rw [h1] at h2;cases h2
  . simp only [D.dep] at hd;exact absurd hd (Nat.not_succ_le_zero _)
 | succ n ih=>
  intro d e x hd o1 o2 r1 r2
  rcases z50 o1 with ⟨a,rfl⟩ | ⟨ds,rfl,p1⟩
  . have h1:=r1.int
    rcases z50 o2 with ⟨b,rfl⟩ | ⟨es,rfl,_⟩
    . have h2:=r2.int;rw [h1] at h2;cases h2;rfl
    . obtain ⟨_,_,h2,_⟩:=r2.tup;rw [h1] at h2;cases h2
  . obtain ⟨a,ys,h1,q1,w1⟩:=r1.tup
    rcases z50 o2 with ⟨b,rfl⟩ | ⟨es,rfl,p2⟩
    . have h2:=r2.int;rw [h1] at h2;cases h2
    . obtain ⟨b,zs,h2,q2,w2⟩:=r2.tup
      rw [h1] at h2;cases h2
      rw [q1] at q2;cases q2
      simp only [D.dep] at hd
      rw [zmv ih (Nat.le_of_succ_le_succ hd) p1 p2 w1 w2]
theorem zs2 {K:Frag} {H:Hp} {d e:D} {x:V} (o1:d.oi=true) (o2:e.oi=true) (r1:RD K H d x) (r2:RD K H e x):d=e:=zs1 d.dep (Nat.le_refl _) o1 o2 r1 r2
theorem z6o {α β:Type} {f:α->β} {l m:List β} (p:l.Perm m):∀{xs:List α},m=xs.map f->∃ys:List α,ys.Perm xs/\l=ys.map f:=by
 induction p with
 | nil=>intro xs h;exact ⟨xs,.refl _,h⟩
 | cons a p ih=>
  intro xs h
  cases xs with
  | nil=>cases h
  | cons x xs=>
   simp only [List.map_cons,List.cons.injEq] at h
   obtain ⟨ys,p',e⟩:=ih h.2
   exact ⟨x::ys,p'.cons x,by rw [e,h.1];rfl⟩
 | swap a b l=>
  intro xs h
  match xs,h with
  | x::y::xs,h=>
   simp only [List.map_cons,List.cons.injEq] at h
   exact ⟨y::x::xs,.swap _ _ _,by rw [h.1,h.2.1,h.2.2];rfl⟩
 | trans p q ih1 ih2=>
  intro xs h
  obtain ⟨ys,p',e⟩:=ih2 h
  obtain ⟨zs,q',e'⟩:=ih1 e
  exact ⟨zs,q'.trans p',e'⟩
theorem z43 (l:List D):(List.range l.length).map (fun i=>l.getD i (.int 0))=l:=by
 apply List.ext_getElem?
 intro i
 rw [List.getElem?_map]
 by_cases hi:i<l.length
 . rw [List.getElem?_range hi];simp [hi]
 . rw [List.getElem?_eq_none (by simpa using hi),List.getElem?_eq_none (by simpa using hi)];rfl
noncomputable def atOf (its:List Value) (v:Value):Nat:=Classical.epsilon fun i=>i<its.length/\its.getD i Value.none=v
theorem z5l {its:List Value} {i:Nat} (h:i<its.length):atOf its (its.getD i Value.none)<its.length/\its.getD (atOf its (its.getD i Value.none)) Value.none=its.getD i Value.none:=by
 have hh:∃j,j<its.length/\its.getD j Value.none=its.getD i Value.none:=⟨i,h,rfl⟩
 exact Classical.epsilon_spec hh
noncomputable def z29 (ds:List D):Bool:=ois ds&&decide (z3v ds<=20)&&ds.all (fun d=>ds.all fun e=>(z2n d e).isSome)&&(ds.all isI||ds.all zh7||ds.all zh8)
noncomputable def z3p:List D->Option D
 | [.lst ds]=>if z29 ds=true then some (.lst (z31 ds)) else none
 | _=>none
def zkc (K:Frag):List V->Hp->VK->Prop:=fun xs H Q=>∃p ys ds,xs=[.ref p]/\H p=some (.lst ys)/\RDs K H ds ys/\z29 ds=true/\∀(l:Addr) (is:List Nat),H l=none->(∀i∈is,i<ys.length)->z31 ds=is.map (fun i=>ds.getD i (.int 0))->Q (.ref l) (upd H l (.lst (is.map fun i=>ys.getD i .non)))
theorem z44 {K:Frag}:z5y K true z3p (zkc K):=by
 intro H0 H xs ds z Q s r ho k
 unfold z3p at ho
 split at ho<;>first | cases ho | skip
 split at ho<;>cases ho
 rename_i es hok
 obtain ⟨x,rfl,q1⟩:=r.uno
 obtain ⟨p,ys,rfl,hp,ry⟩:=q1.lst
 refine ⟨p,ys,es,rfl,s _ _ hp,ry.mono s,hok,fun l is hl hi he=>k _ _ (.new s hl fun H' hH=>?_)⟩
 simp only [OB]
 refine ⟨_,hH,?_⟩
 rw [he]
 exact ry.pick hi
section
variable {X:Cx} {pins:List (Addr×Obj)} {σ:St} {H:Hp} {s:Shared}
theorem zg7 {x y:V} {v:Value} (hx:(∃k,x=.int k)\/∃a,x=.ref a) (hy:(∃k,y=.int k)\/∃a,y=.ref a) (r1:RelV x v) (r2:RelV y v):x=y:=by
 rcases hx with ⟨k,rfl⟩ | ⟨a,rfl⟩<;>rcases hy with ⟨j,rfl⟩ | ⟨b,rfl⟩<;>simp only [RelV] at r1 r2
 . obtain ⟨t,rfl⟩:=r1;obtain ⟨u,h⟩:=r2;cases h;rfl
 . obtain ⟨t,rfl⟩:=r1;cases r2
 . obtain ⟨t,rfl⟩:=r2;cases r1
 . subst r1;cases r2;rfl
theorem ztc {K:Frag} {d:D} {x:V} (o:d.oi=true) (r:RD K H d x):(∃k,x=.int k)\/∃a,x=.ref a:=by
 cases d<;>simp only [D.oi] at o<;>first | cases o | skip
 . exact .inl ⟨_,r.int⟩
 . obtain ⟨a,_,h,_⟩:=r.tup;exact .inr ⟨a,h⟩
theorem z4j (vs:List Value):(pairsOf vs).toList=(List.range vs.length).map fun i=>((vs.getD i Value.none,vs.getD i Value.none):Keyed):=by
 unfold pairsOf
 rw [Array.toList_zip]
 apply List.ext_getElem
 . simp
 . intro i h1 h2
   simp at h1
   simp [h1]
theorem z51 {vs:List Value} {x:Keyed} (h:x∈pairsOf vs):∃i,i<vs.length/\x=(vs.getD i Value.none,vs.getD i Value.none):=by
 rw [Array.mem_def,z4j] at h
 obtain ⟨i,hi,e⟩:=List.mem_map.mp h
 exact ⟨i,List.mem_range.mp hi,e.symm⟩
theorem z5m:∀(vs:List Value),(∀i,i<vs.length->∃n t,vs.getD i Value.none=.int n t)->∃ns,IntsAre vs ns
 | [],_=>⟨[],.nil⟩
 | v::vs,h=>by
  obtain ⟨n,t,e⟩:=h 0 (by simp)
  obtain ⟨ns,r⟩:=z5m vs fun i hi=>by simpa using h (i+1) (by simpa using hi)
  have e':v=.int n t:=by simpa using e
  subst e'
  exact ⟨n::ns,.cons n t r⟩
theorem zg8 {vs:List Value} {ns:List Int} (ia:IntsAre vs ns) (h:2<=vs.length):keyKind' vs.toArray=pure oneType':=by
 match vs,ia,h with
 | v1::v2::vs,ia,_=>exact keyKind_ints ia
theorem z5n (hc:X.calm=true) (hu:X.A.units+64<cLine):CallR X (.builtin "sorted") (zkc X.K):=by
 intro pins s σ H xs us Q I r h
 obtain ⟨p,ys,ds,rfl,hp,rd,hok,k⟩:=h
 obtain ⟨u,rfl,ru⟩:=z5w r
 cases ru
 obtain ⟨its,rv,pl,hz⟩:=I.list (.of hp)
 obtain ⟨m,hn,_⟩:=id I.loc
 have F:=Att.fr_all hn
 have N:=z7w (g:=Att.noObjs s.heap) (h:=s.heap) (L:=X.env.locals)
 unfold z29 at hok
 simp only [Bool.and_eq_true,Bool.or_eq_true,decide_eq_true_eq] at hok
 obtain ⟨⟨⟨hoi,hdep⟩,hcmp⟩,hkind⟩:=hok
 have hl1:=rd.length
 have hl2:=rv.length
 have fin:∀{vs':Array Value} {is:List Nat},(∀i∈is,i<ys.length)->z31 ds=is.map (fun i=>ds.getD i (.int 0))->vs'=(is.map fun i=>its.getD i Value.none).toArray->EP X pins σ Q (.ref (s.heap.objs.size+1)) { s with heap:=sortedAll s.heap its vs' }:=fun {vs' is} hi he hv=>by
  have hlen:(is.map fun i=>ys.getD i .non).length<=sizeLine:=by
   have e1:is.length=ds.length:=by have:=congrArg List.length he;rw [List.length_map,(z0p ds).length_eq] at this;exact this.symm
   rw [List.length_map,e1,hl1];exact hz
  obtain ⟨e,he'⟩:=sortedAll_at s.heap its vs'
  have kp:∀b o,s.heap.get? b=some o->(sortedAll s.heap its vs').get? b=some o:=fun b o q=>sortedAll_old q
  have hN:=N.kept_cons F kp (Nat.le_succ _) he'
  obtain ⟨HD,I'⟩:=I.frnew (tk:=s.toks) (o:=.lst (is.map fun i=>ys.getD i .non)) hn (F.kept kp) hN (Heap.get?_none_of_le (Nat.le_succ _)) ⟨hlen,_,e,rv.pick hi,by subst hv;exact (hN _ (.head _)).1⟩
  exact ⟨.ref _,_,I',rfl,k _ is HD hi he⟩
 by_cases h2:2<=its.length
 . have kp:∀b o,s.heap.get? b=some o->(z0l (z2q s.heap its) (s.heap.objs.size+1) its).get? b=some o:=fun b o q=>zdf q
   have I':Inv X pins σ H { s with heap:=z0l (z2q s.heap its) (s.heap.objs.size+1) its }:=I.frn (tk:=s.toks) hn (F.kept kp) fun q hq=>(N.kept_cons F kp (Nat.le_succ _) (z5k (z6n s.heap its)).choose_spec.2) q (.tail _ hq)
   have huu:X.A.in1.in1.units+20<cLine:=by show X.A.units+1+1+20<cLine;omega
   have main:∀κ:SortKind,(∀(Q:SortKind->Shared->Prop),Q κ { s with heap:=z0l (z2q s.heap its) (s.heap.objs.size+1) its }->wpAny (model X.prog X.w) X.A.in1.in1 (keyKind' its.toArray) Q (fun _ _=>False) { s with heap:=z0l (z2q s.heap its) (s.heap.objs.size+1) its }) ->
     (∀(E:Value->Shared->Prop) (C:Bool->Shared->Prop) (i j:Nat),i<ys.length->j<ys.length->C (ltI ds i j) { s with heap:=z0l (z2q s.heap its) (s.heap.objs.size+1) its }->wpAny (model X.prog X.w) X.A.in1.in1 (keyLt' κ (its.getD i Value.none) (its.getD j Value.none)) C E { s with heap:=z0l (z2q s.heap its) (s.heap.objs.size+1) its }) ->
     wpAny (model X.prog X.w) X.A (call (.builtin "sorted") [.ref p]) (EP X pins σ Q) X.xe s:=by
    intro κ hκ hlt
    refine zdg (rk:=fun q=>rkD ds (ds.getD (atOf its q.1) (.int 0))) pl.isList h2 (by omega) hκ ?_ fun out hp' hA=>?_
    . intro x y hx hy st Q' hk q
      obtain ⟨i,hi,rfl⟩:=z51 hx
      obtain ⟨j,hj,rfl⟩:=z51 hy
      have ai:=z5l hi
      have aj:=z5l hj
      dsimp only at q
      rw [zca hoi (z11 (by omega)) (z11 (by omega))] at q
      rw [lt'_eq]
      refine wpS_bind (wpS_get (wpS_bind (wpS_lift (wpAny_attempt ?_))))
      rw [hk]
      dsimp only
      generalize atOf its (its.getD i Value.none)=i' at *
      generalize atOf its (its.getD j Value.none)=j' at *
      rw [<-ai.2,<-aj.2]
      exact hlt _ _ i' j' (by omega) (by omega) ⟨rfl,wpS_pure q⟩
    . have e0:(pairsOf its).toList=(List.range its.length).map fun i=>((its.getD i Value.none,its.getD i Value.none):Keyed):=z4j its
      obtain ⟨is,hip,hie⟩:=z6o (Array.perm_iff_toList_perm.mp hp') e0
      have him:∀i∈is,i<its.length:=fun i hi=>List.mem_range.mp (hip.mem_iff.mp hi)
      have pm:(is.map fun i=>ds.getD i (.int 0)).Perm ds:=by
       refine (hip.map _).trans ?_
       rw [show its.length=ds.length by omega,z43]
      refine fin (is:=is) (fun i hi=>by have:=him i hi;omega) (z60 (z4x (z0p _) hoi) ((z0p _).trans pm.symm) (z3o hoi) ?_) ?_
      . rw [hie] at hA
        refine List.pairwise_map.mpr ((List.pairwise_map.mp hA).imp_of_mem fun {a b} ha hb hab=>?_)
        have same:∀i,i<its.length->ds.getD (atOf its (its.getD i Value.none)) (.int 0)=ds.getD i (.int 0):=fun i hi=>by
         have q:=z5l hi
         have v1:=rv.getD (i:=atOf its (its.getD i Value.none)) (by omega)
         have v2:=rv.getD (i:=i) (by omega)
         have r1:=rd.getD (i:=atOf its (its.getD i Value.none)) (by omega)
         have r2:=rd.getD (i:=i) (by omega)
         have o1:=z6h (i:=atOf its (its.getD i Value.none)) hoi
         have o2:=z6h (i:=i) hoi
         rw [q.2] at v1
         rw [zg7 (ztc o1 r1) (ztc o2 r2) v1 v2] at r1
         exact zs2 o1 o2 r1 r2
        dsimp only at hab
        rw [same a (him a ha),same b (him b hb)] at hab
        have z:=zca hoi (d:=ds.getD b (.int 0)) (e:=ds.getD a (.int 0)) (z11 (by have:=him b hb;omega)) (z11 (by have:=him a ha;omega))
        rw [<-z,decide_eq_false_iff_not]
        omega
      . rw [<-Array.toList_inj,Array.toList_map,hie,List.map_map]
        rfl
   by_cases hI:ds.all isI=true
   . have getI:∀i,i<ys.length->∃n t,ds.getD i (.int 0)=.int n/\its.getD i Value.none=.int n t:=fun i hi=>by
      have r1:=rd.getD hi
      have v1:=rv.getD hi
      have m1:isI (ds.getD i (.int 0))=true:=List.all_eq_true.mp hI _ (z11 (by omega))
      generalize ds.getD i (.int 0)=d at *
      cases d<;>simp only [isI] at m1<;>first | cases m1 | skip
      rw [r1.int] at v1
      obtain ⟨t,e⟩:=v1
      exact ⟨_,t,rfl,e⟩
     refine main oneType' (fun Q' q=>?_) fun E C i j hi hj hC=>?_
     . have ia:∃ns,IntsAre its ns:=z5m its fun i hi=>by obtain ⟨n,t,_,e⟩:=getI i (by omega);exact ⟨n,t,e⟩
       obtain ⟨ns,ia⟩:=ia
       rw [zg8 ia h2]
       exact wpAny_pure q
     . obtain ⟨n,t,e1,e2⟩:=getI i hi
       obtain ⟨n',t',e3,e4⟩:=getI j hj
       rw [e2,e4]
       refine PySem.W.kat_lt_int ?_
       unfold ltI at hC
       rw [e1,e3] at hC
       simpa only [ltT] using hC
   . obtain ⟨T,hT⟩:∃T:Bool,∀d∈ds,(if T=true then zh8 d else zh7 d)=true:=by
      rcases hkind with (z | z) | z
      . exact absurd z hI
      . exact ⟨false,fun d hd=>by rw [if_neg Bool.false_ne_true];exact List.all_eq_true.mp z d hd⟩
      . exact ⟨true,fun d hd=>by rw [if_pos rfl];exact List.all_eq_true.mp z d hd⟩
     obtain ⟨fs,t1,t2,t3⟩:=zff (M:=model X.prog X.w) I' T hT rd rv
     refine main (tuples' ((.type (if T=true then "tuple" else "int"):Value) != Value.type "tuple")) (fun Q' q=>PySem.W.kat_kind t1 (by omega) t3 (by cases T<;>rfl) q) fun E C i j hi hj hC=>?_
     have r1:=rd.getD hi
     have r2:=rd.getD hj
     have v1:=rv.getD hi
     have v2:=rv.getD hj
     have m1:ds.getD i (.int 0)∈ds:=z11 (by omega)
     have m2:ds.getD j (.int 0)∈ds:=z11 (by omega)
     have o1:=(ois_mem.mp hoi) _ m1
     have o2:=(ois_mem.mp hoi) _ m2
     have d1:=z4p m1
     have f1:=hT _ m1
     have f2:=hT _ m2
     obtain ⟨b,hb⟩:=Option.isSome_iff_exists.mp (List.all_eq_true.mp (List.all_eq_true.mp hcmp _ m1) _ m2)
     have hbl:b=ltI ds i j:=zfa hb
     rw [<-hbl] at hC
     generalize ds.getD i (.int 0)=da at *
     generalize ds.getD j (.int 0)=db at *
     have tp:∀{d:L2.D},(if T=true then zh8 d else zh7 d)=true->∃es,d=.tup es/\(T=false->∃k r,es=.int k::r):=fun {d} h=>by
      cases T with
      | false=>
       rw [if_neg Bool.false_ne_true] at h
       cases d<;>simp only [zh7] at h<;>first | cases h | skip
       rename_i es
       cases es with
       | nil=>simp at h
       | cons e es=>cases e<;>simp at h;exact ⟨_,rfl,fun _=>⟨_,_,rfl⟩⟩
      | true=>
       rw [if_pos rfl] at h
       cases d<;>simp only [zh8] at h<;>first | cases h | skip
       exact ⟨_,rfl,fun z=>nomatch z⟩
     obtain ⟨ea,rfl,ka⟩:=tp f1
     obtain ⟨eb,rfl,kb⟩:=tp f2
     obtain ⟨a,xa,e1,ha,ra⟩:=r1.tup
     obtain ⟨c,xc,e2,hcc,rc⟩:=r2.tup
     rw [e1] at v1;rw [e2] at v2
     rw [show its.getD i Value.none=Value.ref a from v1,show its.getD j Value.none=Value.ref c from v2]
     obtain ⟨ia,va,oa,hoa,_,na,hda⟩:=I'.tupA ha
     obtain ⟨ic,vc,oc,hoc,_,nc,hdc⟩:=I'.tupA hcc
     simp only [L2.D.oi] at o1 o2
     simp only [L2.D.dep] at d1
     simp only [z2n] at hb
     refine PySem.W.kat_lt hoa hda hoc hdc (zau I' huu hC 0 (fun hb0 _=>?_) o1 o2 (by omega) ra rc va vc hb (by simp))
     cases T with
     | false=>exact ⟨ka rfl,kb rfl⟩
     | true=>exact absurd hb0 (by simp)
 . have hs1:z31 ds=ds:=by
    match ds,hl1,hl2 with
    | [],_,_=>rfl
    | [d],_,_=>rfl
    | _::_::_,a,b=>simp at a;omega
   have pz:∀l:List Value,l.length<2->(pairsOf l).map (·.2)=(List.map (fun i=>l.getD i Value.none) (List.range l.length)).toArray:=fun l hl=>by
    match l,hl with
    | [],_=>simp [pairsOf]
    | [v],_=>simp [pairsOf]
    | _::_::_,z=>simp at z;omega
   refine z9k pl.isList (by omega) (fin (is:=List.range its.length) (fun i hi=>by simp at hi;omega) ?_ (pz its (by omega)))
   rw [hs1,show its.length=ds.length by omega,z43]
end
noncomputable def nw (h:Heap) (vs:List Value):Heap:=h.push (seqObj "list" vs.toArray 0)
theorem zg9 (h:Heap) (vs:List Value):(nw h vs).get? h.objs.size=some (seqObj "list" vs.toArray 0):=Heap.get?_push_size _ rfl
theorem zga {h:Heap} {vs:List Value} {b:Addr} {o:Obj} (q:h.get? b=some o):(nw h vs).get? b=some o:=Heap.get?_push_of_some _ q
theorem zii {h:Heap} {vs:List Value} {b:Addr} {o:Obj} (q:h.get? b=some o):(z0l (nw h vs) h.objs.size vs).get? b=some o:=by
 refine Heap.get?_push_of_some _ (Heap.get?_push_of_some _ ?_)
 rw [Heap.get?_update_ne _ _ _ _ (Nat.ne_of_lt (Heap.lt_size q))]
 exact zga q
theorem zij {h:Heap} {vs:List Value} {out:Array Value} {b:Addr} {o:Obj} (q:h.get? b=some o):(sortedHeap (nw h vs) h.objs.size vs out).get? b=some o:=by
 have lt:=Heap.lt_size q
 rw [sortedHeap_old (Nat.ne_of_lt lt) (Heap.lt_size (zga (vs:=vs) q))]
 exact zga q
section
variable {X:Cx} {pins:List (Addr×Obj)} {σ:St} {H:Hp} {s:Shared}
theorem zik (hu:X.A.units+64<cLine) (I:Inv X pins σ H s) {ds:List D} {ys:List V} {its:List Value} {Q:VK} (rd:RDs X.K H ds ys) (rv:Vals ys its) (hz:ys.length<=sizeLine) (hok:z29 ds=true)
  (k:∀(l:Addr) (is:List Nat),H l=none->(∀i∈is,i<ys.length)->z31 ds=is.map (fun i=>ds.getD i (.int 0))->Q (.ref l) (upd H l (.lst (is.map fun i=>ys.getD i .non)))) :
  wpAny (model X.prog X.w) X.A.in1.in1 (Builtin.«list.sort» ⟨[.ref s.heap.objs.size],[]⟩) (fun f s'=>∃x,f=.done (.ret x)/\EP X pins σ Q (.ref s.heap.objs.size) s') (fun _ _=>False) { s with heap:=nw s.heap its }:=by
 obtain ⟨m,hn,_⟩:=id I.loc
 have F:=Att.fr_all hn
 have N:=z7w (g:=Att.noObjs s.heap) (h:=s.heap) (L:=X.env.locals)
 unfold z29 at hok
 simp only [Bool.and_eq_true,Bool.or_eq_true,decide_eq_true_eq] at hok
 obtain ⟨⟨⟨hoi,hdep⟩,hcmp⟩,hkind⟩:=hok
 have hl1:=rd.length
 have hl2:=rv.length
 have fin:∀{vs':Array Value} {is:List Nat},(∀i∈is,i<ys.length)->z31 ds=is.map (fun i=>ds.getD i (.int 0))->vs'=(is.map fun i=>its.getD i Value.none).toArray->EP X pins σ Q (.ref s.heap.objs.size) { s with heap:=sortedHeap (nw s.heap its) s.heap.objs.size its vs' }:=fun {vs' is} hi he hv=>by
  have hlen:(is.map fun i=>ys.getD i .non).length<=sizeLine:=by
   have e1:is.length=ds.length:=by have:=congrArg List.length he;rw [List.length_map,(z0p ds).length_eq] at this;exact this.symm
   rw [List.length_map,e1,hl1];exact hz
  obtain ⟨e,he'⟩:=sortedHeap_at (out:=vs') (zg9 s.heap its)
  have kp:∀b o,s.heap.get? b=some o->(sortedHeap (nw s.heap its) s.heap.objs.size its vs').get? b=some o:=fun b o q=>zij q
  have hN:=N.kept_cons F kp (Nat.le_refl _) he'
  obtain ⟨HD,I'⟩:=I.frnew (tk:=s.toks) (o:=.lst (is.map fun i=>ys.getD i .non)) hn (F.kept kp) hN (Heap.get?_none_of_le (Nat.le_refl _)) ⟨hlen,_,e,rv.pick hi,by subst hv;exact (hN _ (.head _)).1⟩
  exact ⟨.ref _,_,I',rfl,k _ is HD hi he⟩
 by_cases h2:2<=its.length
 . have kp:∀b o,s.heap.get? b=some o->(z0l (nw s.heap its) s.heap.objs.size its).get? b=some o:=fun b o q=>zii q
   have I':Inv X pins σ H { s with heap:=z0l (nw s.heap its) s.heap.objs.size its }:=I.frn (tk:=s.toks) hn (F.kept kp) fun q hq=>(N.kept_cons F kp (Nat.le_refl _) (z5k (zg9 s.heap its)).choose_spec.2) q (.tail _ hq)
   have huu:X.A.in1.in1.units+20<cLine:=by show X.A.units+1+1+20<cLine;omega
   have main:∀κ:SortKind,(∀(Q:SortKind->Shared->Prop),Q κ { s with heap:=z0l (nw s.heap its) s.heap.objs.size its }->wpAny (model X.prog X.w) X.A.in1.in1 (keyKind' its.toArray) Q (fun _ _=>False) { s with heap:=z0l (nw s.heap its) s.heap.objs.size its }) ->
     (∀(E:Value->Shared->Prop) (C:Bool->Shared->Prop) (i j:Nat),i<ys.length->j<ys.length->C (ltI ds i j) { s with heap:=z0l (nw s.heap its) s.heap.objs.size its }->wpAny (model X.prog X.w) X.A.in1.in1 (keyLt' κ (its.getD i Value.none) (its.getD j Value.none)) C E { s with heap:=z0l (nw s.heap its) s.heap.objs.size its }) ->
     wpAny (model X.prog X.w) X.A.in1.in1 (Builtin.«list.sort» ⟨[.ref s.heap.objs.size],[]⟩) (fun f s'=>∃x,f=.done (.ret x)/\EP X pins σ Q (.ref s.heap.objs.size) s') (fun _ _=>False) { s with heap:=nw s.heap its }:=by
    intro κ hκ hlt
    refine zc9 (s:={ s with heap:=nw s.heap its }) (rk:=fun q=>rkD ds (ds.getD (atOf its q.1) (.int 0))) (zg9 s.heap its) h2 (by omega) hκ ?_ fun out hp' hA=>⟨_,rfl,?_⟩
    . intro x y hx hy st Q' hk q
      obtain ⟨i,hi,rfl⟩:=z51 hx
      obtain ⟨j,hj,rfl⟩:=z51 hy
      have ai:=z5l hi
      have aj:=z5l hj
      dsimp only at q
      rw [zca hoi (z11 (by omega)) (z11 (by omega))] at q
      rw [lt'_eq]
      refine wpS_bind (wpS_get (wpS_bind (wpS_lift (wpAny_attempt ?_))))
      rw [hk]
      dsimp only
      generalize atOf its (its.getD i Value.none)=i' at *
      generalize atOf its (its.getD j Value.none)=j' at *
      rw [<-ai.2,<-aj.2]
      exact hlt _ _ i' j' (by omega) (by omega) ⟨rfl,wpS_pure q⟩
    . have e0:(pairsOf its).toList=(List.range its.length).map fun i=>((its.getD i Value.none,its.getD i Value.none):Keyed):=z4j its
      obtain ⟨is,hip,hie⟩:=z6o (Array.perm_iff_toList_perm.mp hp') e0
      have him:∀i∈is,i<its.length:=fun i hi=>List.mem_range.mp (hip.mem_iff.mp hi)
      have pm:(is.map fun i=>ds.getD i (.int 0)).Perm ds:=by
       refine (hip.map _).trans ?_
       rw [show its.length=ds.length by omega,z43]
      refine fin (is:=is) (fun i hi=>by have:=him i hi;omega) (z60 (z4x (z0p _) hoi) ((z0p _).trans pm.symm) (z3o hoi) ?_) ?_
      . rw [hie] at hA
        refine List.pairwise_map.mpr ((List.pairwise_map.mp hA).imp_of_mem fun {a b} ha hb hab=>?_)
        have same:∀i,i<its.length->ds.getD (atOf its (its.getD i Value.none)) (.int 0)=ds.getD i (.int 0):=fun i hi=>by
         have q:=z5l hi
         have v1:=rv.getD (i:=atOf its (its.getD i Value.none)) (by omega)
         have v2:=rv.getD (i:=i) (by omega)
         have r1:=rd.getD (i:=atOf its (its.getD i Value.none)) (by omega)
         have r2:=rd.getD (i:=i) (by omega)
         have o1:=z6h (i:=atOf its (its.getD i Value.none)) hoi
         have o2:=z6h (i:=i) hoi
         rw [q.2] at v1
         rw [zg7 (ztc o1 r1) (ztc o2 r2) v1 v2] at r1
         exact zs2 o1 o2 r1 r2
        dsimp only at hab
        rw [same a (him a ha),same b (him b hb)] at hab
        have z:=zca hoi (d:=ds.getD b (.int 0)) (e:=ds.getD a (.int 0)) (z11 (by have:=him b hb;omega)) (z11 (by have:=him a ha;omega))
        rw [<-z,decide_eq_false_iff_not]
        omega
      . rw [<-Array.toList_inj,Array.toList_map,hie,List.map_map]
        rfl
   by_cases hI:ds.all isI=true
   . have getI:∀i,i<ys.length->∃n t,ds.getD i (.int 0)=.int n/\its.getD i Value.none=.int n t:=fun i hi=>by
      have r1:=rd.getD hi
      have v1:=rv.getD hi
      have m1:isI (ds.getD i (.int 0))=true:=List.all_eq_true.mp hI _ (z11 (by omega))
      generalize ds.getD i (.int 0)=d at *
      cases d<;>simp only [isI] at m1<;>first | cases m1 | skip
      rw [r1.int] at v1
      obtain ⟨t,e⟩:=v1
      exact ⟨_,t,rfl,e⟩
     refine main oneType' (fun Q' q=>?_) fun E C i j hi hj hC=>?_
     . have ia:∃ns,IntsAre its ns:=z5m its fun i hi=>by obtain ⟨n,t,_,e⟩:=getI i (by omega);exact ⟨n,t,e⟩
       obtain ⟨ns,ia⟩:=ia
       rw [zg8 ia h2]
       exact wpAny_pure q
     . obtain ⟨n,t,e1,e2⟩:=getI i hi
       obtain ⟨n',t',e3,e4⟩:=getI j hj
       rw [e2,e4]
       refine PySem.W.kat_lt_int ?_
       unfold ltI at hC
       rw [e1,e3] at hC
       simpa only [ltT] using hC
   . obtain ⟨T,hT⟩:∃T:Bool,∀d∈ds,(if T=true then zh8 d else zh7 d)=true:=by
      rcases hkind with (z | z) | z
      . exact absurd z hI
      . exact ⟨false,fun d hd=>by rw [if_neg Bool.false_ne_true];exact List.all_eq_true.mp z d hd⟩
      . exact ⟨true,fun d hd=>by rw [if_pos rfl];exact List.all_eq_true.mp z d hd⟩
     obtain ⟨fs,t1,t2,t3⟩:=zff (M:=model X.prog X.w) I' T hT rd rv
     refine main (tuples' ((.type (if T=true then "tuple" else "int"):Value) != Value.type "tuple")) (fun Q' q=>PySem.W.kat_kind t1 (by omega) t3 (by cases T<;>rfl) q) fun E C i j hi hj hC=>?_
     have r1:=rd.getD hi
     have r2:=rd.getD hj
     have v1:=rv.getD hi
     have v2:=rv.getD hj
     have m1:ds.getD i (.int 0)∈ds:=z11 (by omega)
     have m2:ds.getD j (.int 0)∈ds:=z11 (by omega)
     have o1:=(ois_mem.mp hoi) _ m1
     have o2:=(ois_mem.mp hoi) _ m2
     have d1:=z4p m1
     have f1:=hT _ m1
     have f2:=hT _ m2
     obtain ⟨b,hb⟩:=Option.isSome_iff_exists.mp (List.all_eq_true.mp (List.all_eq_true.mp hcmp _ m1) _ m2)
     have hbl:b=ltI ds i j:=zfa hb
     rw [<-hbl] at hC
     generalize ds.getD i (.int 0)=da at *
     generalize ds.getD j (.int 0)=db at *
     have tp:∀{d:L2.D},(if T=true then zh8 d else zh7 d)=true->∃es,d=.tup es/\(T=false->∃k r,es=.int k::r):=fun {d} h=>by
      cases T with
      | false=>
       rw [if_neg Bool.false_ne_true] at h
       cases d<;>simp only [zh7] at h<;>first | cases h | skip
       rename_i es
       cases es with
       | nil=>simp at h
       | cons e es=>cases e<;>simp at h;exact ⟨_,rfl,fun _=>⟨_,_,rfl⟩⟩
      | true=>
       rw [if_pos rfl] at h
       cases d<;>simp only [zh8] at h<;>first | cases h | skip
       exact ⟨_,rfl,fun z=>nomatch z⟩
     obtain ⟨ea,rfl,ka⟩:=tp f1
     obtain ⟨eb,rfl,kb⟩:=tp f2
     obtain ⟨a,xa,e1,ha,ra⟩:=r1.tup
     obtain ⟨c,xc,e2,hcc,rc⟩:=r2.tup
     rw [e1] at v1;rw [e2] at v2
     rw [show its.getD i Value.none=Value.ref a from v1,show its.getD j Value.none=Value.ref c from v2]
     obtain ⟨ia,va,oa,hoa,_,na,hda⟩:=I'.tupA ha
     obtain ⟨ic,vc,oc,hoc,_,nc,hdc⟩:=I'.tupA hcc
     simp only [L2.D.oi] at o1 o2
     simp only [L2.D.dep] at d1
     simp only [z2n] at hb
     refine PySem.W.kat_lt hoa hda hoc hdc (zau I' huu hC 0 (fun hb0 _=>?_) o1 o2 (by omega) ra rc va vc hb (by simp))
     cases T with
     | false=>exact ⟨ka rfl,kb rfl⟩
     | true=>exact absurd hb0 (by simp)
 . have hs1:z31 ds=ds:=by
    match ds,hl1,hl2 with
    | [],_,_=>rfl
    | [d],_,_=>rfl
    | _::_::_,a,b=>simp at a;omega
   have pz:∀l:List Value,l.length<2->(pairsOf l).map (·.2)=(List.map (fun i=>l.getD i Value.none) (List.range l.length)).toArray:=fun l hl=>by
    match l,hl with
    | [],_=>simp [pairsOf]
    | [v],_=>simp [pairsOf]
    | _::_::_,z=>simp at z;omega
   refine z7m (s:={ s with heap:=nw s.heap its }) (zg9 s.heap its) (by omega) ⟨_,rfl,fin (is:=List.range its.length) (fun i hi=>by simp at hi;omega) ?_ (pz its (by omega))⟩
   rw [hs1,show its.length=ds.length by omega,z43]
end
noncomputable def z4a (d:Addr):Obj:={ cls:=.type "dict_values",data:=.fields #[.ref d] }
noncomputable def z3h (d:Addr) (i n ep:Nat):Obj:={ cls:=.type "dict_valueiterator",data:=.fields #[.ref d,.int i 0,.int n 0,.int ep 0] }
section
open PySem.SeqAt
open PySem.AutoSeq1 (wpAny_loadPart')
theorem zs3 (d:Addr) (es:Array DictEntry) (ep:Nat) (hd:(d==sysModules)=false) :
  Meets (Builtin.«dict.values» ⟨[.ref d],[]⟩) (fun _ R s=>s.heap.get? d=some (z1i es ep)/\R (.ok (.ret (.ref s.heap.objs.size))) { s with heap:=s.heap.push (z4a d) }):=
 .of_wp fun prog w A R s h=>by
  obtain ⟨hp,g,dr,tk,os⟩:=s;obtain ⟨hl,h⟩:=h
  unfold z1i at hl
  wp_walk using wpAny_loadPart' hl
  exact ⟨_,rfl,h⟩
theorem zmw (v d:Addr) (es:Array DictEntry) (ep:Nat) :
  Meets (Builtin.«dict_values.__iter__» ⟨[.ref v],[]⟩) (fun _ R s=>s.heap.get? v=some (z4a d)/\s.heap.get? d=some (z1i es ep)/\R (.ok (.ret (.ref s.heap.objs.size))) { s with heap:=s.heap.push (z3h d 0 es.size ep) }):=
 .of_wp fun prog w A R s h=>by
  obtain ⟨hp,g,dr,tk,os⟩:=s;obtain ⟨hl,hd,h⟩:=h
  unfold z1i at hd
  unfold z4a at hl
  wp_walk using wpAny_loadPart' hl,wpAny_loadPart' hd
  exact ⟨_,rfl,h⟩
theorem zmx (it d:Addr) (es:Array DictEntry) (ep i:Nat) (hi:i<es.size) :
  Meets (Builtin.«dict_valueiterator.__next__» ⟨[.ref it],[]⟩) (fun _ R s=>s.heap.get? it=some (z3h d i es.size ep)/\s.heap.get? d=some (z1i es ep) /\
   R (.ok (.ret es[i].val)) { s with heap:=s.heap.update it (Obj.mapFields (·.setIfInBounds 1 (rawInt ((i:Int)+1)))) }):=
 .of_wp fun prog w A R s h=>by
  obtain ⟨hp,g,dr,tk,os⟩:=s;obtain ⟨hl,hd,h⟩:=h
  unfold z1i at hd
  unfold z3h at hl
  have hsz:(((es.size:Int) != (es.size:Int))=true)=False:=by simp
  have hep:(((ep:Int) != (ep:Int))=true)=False:=by simp
  have hat:(if (i:Int)<0 then none else es[((i:Nat):Int).toNat]?)=some es[i]:=by rw [if_neg (by omega)];simp [hi]
  wp_walk using wpAny_loadPart' hl,wpAny_loadPart' hd
  rw [hat]
  wp_walk using wpAny_loadPart' hl,wpAny_loadPart' hd
  exact ⟨_,rfl,h⟩
theorem zs4 (it d:Addr) (es:Array DictEntry) (ep i:Nat) (hi:es.size<=i) :
  Meets (Builtin.«dict_valueiterator.__next__» ⟨[.ref it],[]⟩) (fun A R s=>s.heap.get? it=some (z3h d i es.size ep)/\s.heap.get? d=some (z1i es ep)/\A.in1.handled=none /\
   ∀h' e,(∀c o,c≠it->s.heap.get? c=some o->h'.get? c=some o)->(∃o,h'.get? e=some o/\o.cls=.type "StopIteration")->R (.error (.ref e)) { s with heap:=h' }):=
 .of_wp fun prog w A R s h=>by
  obtain ⟨hp,g,dr,tk,os⟩:=s;obtain ⟨hl,hd,hh,h⟩:=h
  unfold z1i at hd
  unfold z3h at hl
  have hsz:(((es.size:Int) != (es.size:Int))=true)=False:=by simp
  have hep:(((ep:Int) != (ep:Int))=true)=False:=by simp
  have hat:(if (i:Int)<0 then none else es[((i:Nat):Int).toNat]?)=none:=by rw [if_neg (by omega)];simp [hi]
  wp_walk using wpAny_loadPart' hl,wpAny_loadPart' hd
  rw [hat]
  wp_walk using wpAny_loadPart' hl,wpAny_loadPart' hd
  unfold raiseNew
  refine wpAny_bind (wpAny_handled ?_)
  rw [hh]
  refine wpAny_bind (wpAny_pure (wpAny_throw (h _ _ (fun c o hc e=>?_) ⟨_,Heap.get?_push_size _ rfl,rfl⟩)))
  refine Heap.get?_push_of_some _ (Heap.get?_push_of_some _ ?_)
  rw [Heap.get?_update_ne _ _ _ _ hc]
  exact e
end
section
variable {prog:Program} {w:World} {A:Around} {E:Value->Shared->Prop} {s:Shared} {d it v:Addr} {es:Array DictEntry} {ep i:Nat}
theorem zgb {Q:Value->Shared->Prop} (hv:s.heap.get? v=some (z4a d)) (hm:s.heap.get? d=some (z1i es ep)) (hQ:Q (.ref s.heap.objs.size) { s with heap:=s.heap.push (z3h d 0 es.size ep) }) :
  wpAny (model prog w) A (pyIter (.ref v)) Q E s:=
 wpAny_pyIter_slot ⟨_,hv,rfl⟩ F.slot_dict_values_iter (call_meets F.slot_dict_values_iter ⟨_,hv,rfl⟩ F.entry_dict_values_iter (F.args_dict_values_iter_1 _) (zmw v d es ep)
  ⟨hv,hm,⟨"dict_valueiterator",_,⟨_,Heap.get?_push_size _ rfl,rfl⟩,F.slot_dict_valueiterator_next.lookup,hQ⟩⟩)
theorem zil {h:Heap} (hi:h.get? it=some (z3h d i es.size ep)):(h.update it (Obj.mapFields (·.setIfInBounds 1 (rawInt ((i:Int)+1))))).get? it=some (z3h d (i+1) es.size ep):=by
 rw [Heap.get?_update_self _ hi rfl]
 simp [z3h,Obj.mapFields,rawInt]
theorem zgc {Q:Option Value->Shared->Prop} (hit:s.heap.get? it=some (z3h d i es.size ep)) (hm:s.heap.get? d=some (z1i es ep)) (hi:i<es.size)
  (hQ:Q (some es[i].val) { s with heap:=s.heap.update it (Obj.mapFields (·.setIfInBounds 1 (rawInt ((i:Int)+1)))) }):wpAny (model prog w) A (pyNext (.ref it)) Q E s:=by
 unfold pyNext
 exact wpAny_bind (wpAny_attempt (wpAny_callSpecial?_slot (name:=Str.ofString "__next__") ⟨_,hit,rfl⟩ F.slot_dict_valueiterator_next
  (call_meets F.slot_dict_valueiterator_next ⟨_,hit,rfl⟩ F.entry_dict_valueiterator_next (F.args_dict_valueiterator_next_1 _) (zmx it d es ep i hi) ⟨hit,hm,wpAny_pure hQ⟩)))
theorem zim {Q:Option Value->Shared->Prop} (hh:A.handled=none) (hit:s.heap.get? it=some (z3h d i es.size ep)) (hm:s.heap.get? d=some (z1i es ep)) (hi:es.size<=i)
  (hQ:∀h',(∀c o,c≠it->s.heap.get? c=some o->h'.get? c=some o)->Q none { s with heap:=h' }):wpAny (model prog w) A (pyNext (.ref it)) Q E s:=by
 unfold pyNext
 refine wpAny_bind (wpAny_attempt (wpAny_callSpecial?_slot (name:=Str.ofString "__next__") ⟨_,hit,rfl⟩ F.slot_dict_valueiterator_next
  (call_meets F.slot_dict_valueiterator_next ⟨_,hit,rfl⟩ F.entry_dict_valueiterator_next (F.args_dict_valueiterator_next_1 _) (zs4 it d es ep i hi) ⟨hit,hm,hh,fun h' e kp he=>?_⟩)))
 obtain ⟨o,ho,hc⟩:=he
 exact wpAny_bind (wpAny_isInstance (T:="StopIteration") (b:=true) ⟨o,ho,hc⟩ isSubtype_stop (wpAny_pure (hQ h' kp)))
theorem zdh (hh:A.handled=none) (I:Addr) (hne:d≠I) :
  Walks prog w A I [I,d] [I] es.size (fun i v=>∃e,es[i]?=some e/\v=e.val) (fun i h=>h.get? I=some (z3h d i es.size ep)/\h.get? d=some (z1i es ep)) where
 sub:=fun b hb=>by simp at hb;simp [hb]
 frame:=fun _ _ _ st kp=>⟨kp I (by simp) _ st.1,kp d (by simp) _ st.2⟩
 item:=fun i s Q E hi st k=>zgc st.1 st.2 hi (k _ _ s.toks ⟨es[i],by simp [hi],rfl⟩ ⟨zil st.1,by rw [Heap.get?_update_ne _ _ _ _ hne];exact st.2⟩ fun b o hb e=>by
  rw [Heap.get?_update_ne _ _ _ _ (fun z=>hb (by simp [z]))];exact e)
 done:=fun s Q E st k=>zim hh st.1 st.2 (Nat.le_refl _) fun h' kp=>k h' s.toks fun b o hb e=>kp b o (fun z=>hb (by simp [z])) e
 self:=fun _ _ _ _ st k=>wpAny_pyIter_valiter ⟨_,st.1,rfl,rfl⟩ k
theorem zin:PySem.W.KdlSrc prog w "dict_values" v d es.size (fun i x=>∃e,es[i]?=some e/\x=e.val) (fun h=>h.get? v=some (z4a d)/\h.get? d=some (z1i es ep)) where
 type:=fun _ hm=>⟨_,hm.1,rfl⟩
 there:=fun _ hm=>⟨Heap.lt_size hm.1,Heap.lt_size hm.2⟩
 keep:=fun _ _ hm kp=>⟨kp v (.inl rfl) _ hm.1,kp d (.inr rfl) _ hm.2⟩
 notList:=by decide
 notTuple:=by decide
 hint:=fun _ _ _ _ hm hq=>PySem.W.kdl_hint_values ⟨_,hm.1,rfl⟩ hq
 iter:=fun _ _ hh hm=>⟨_,_,(fun _ _ hq=>zgb hm.1 hm.2 hq),zdh hh _ (Nat.ne_of_lt (Heap.lt_size hm.2)),Heap.get?_push_size _ rfl,Heap.get?_push_of_some _ hm.2⟩
end
end L2
namespace L2
open PySem PySem.Spec PyProof.Rows
noncomputable def zgd (l a:Addr):HO:=.ext fun h=>h.get? l=some (z4a a)
noncomputable def zvt (td:TE):TE:=fun σ H Q=>td σ H fun x H1=>∃(a:Addr) (qs:List (NK×Addr)) (ys:List V) (ob:Obj),x=.ref a/\H1 a=some (.ext (dnP a qs ys ob))/\DN H1 a qs/\∀l,H1 l=none->Q (.ref l) (upd H1 l (zgd l a))
section
variable {X:Cx} {o:Expr} {td:TE} {apos cpos:Pos}
theorem zge (ho:PE X o td) (hbase:attributeBase o "values" X.env (eval o X.env)=eval o X.env:=by rfl) (hline:(apos.endLine==cpos.line)=true:=by rfl) :
  PE X (.Call (.Attribute o "values" apos) [] [] cpos) (zvt td):=by
 intro pins s σ H Q I h
 refine wpAny_Call_method0_late hbase hline (thn (ho pins s σ H _ I h) fun u s1 ⟨x,H1,I1,r1,a,qs,ys,ob,ex,e,n,q⟩=>?_)
 subst ex
 cases r1
 obtain ⟨vs,es,ep,rfl,ed,p1,p2,d4⟩:=z7q I1 e n
 refine ⟨"dict","dict.values",PySem.F.plainAttrs_dict,PySem.F.slot_dict_values,PySem.F.type_dict_values,⟨_,ed,rfl⟩,fun b eb=>?_,Calls.callWith_builtin rfl (PySem.evalArgs_none ?_)⟩
 . cases eb;exact ⟨_,ed,rfl⟩
 . refine call_meets F.slot_dict_values ⟨_,ed,rfl⟩ F.entry_dict_values (F.args_dict_values_1 _) (zs3 a es ep n.2.2.1) ⟨ed,?_⟩
   have kp:∀c o,s1.heap.get? c=some o->(s1.heap.push (z4a a)).get? c=some o:=fun c o e=>Heap.get?_push_of_some _ e
   have at':(s1.heap.push (z4a a)).get? s1.heap.objs.size=some (z4a a):=Heap.get?_push_size _ rfl
   exact ⟨.ref s1.heap.objs.size,_,I1.laid (t':=s1.toks) (o:=zgd s1.heap.objs.size a) kp (Nat.le_refl _) ⟨at',⟨_,at'⟩,fun h1 h2 hh k=>k _ hh⟩,rfl,q _ (I1.hok.fresh (Nat.le_refl _))⟩
end
def zs5 (K:Frag):List V->Hp->VK->Prop:=fun xs H Q=>∃(l a:Addr) (qs:List (NK×Addr)) (ys:List V) (ob:Obj) (ds:List D),xs=[.ref l]/\H l=some (zgd l a)/\H a=some (.ext (dnP a qs ys ob))/\DN H a qs/\qs.length=ys.length/\RDs K H ds ys/\z29 ds=true /\
 ∀(l:Addr) (is:List Nat),H l=none->(∀i∈is,i<ys.length)->z31 ds=is.map (fun i=>ds.getD i (.int 0))->Q (.ref l) (upd H l (.lst (is.map fun i=>ys.getD i .non)))
theorem zmy {X:Cx} (hc:X.calm=true) (hu:X.A.units+64<cLine):CallR X (.builtin "sorted") (zs5 X.K):=by
 intro pins s σ H xs us Q I r h
 obtain ⟨l,a,qs,ys,ob,ds,rfl,hl,ha,n,hq,rd,hok,k⟩:=h
 obtain ⟨u,rfl,ru⟩:=z5w r
 cases ru
 obtain ⟨vs,es,ep,rfl,ed,p1,p2,d4⟩:=z7q I ha n
 have hv:s.heap.get? l=some (z4a a):=(I.hok l _ hl).1
 have hsz:es.size=qs.length:=by rw [<-Array.length_toList,d4,List.length_map,zfr qs vs p2]
 have hz:qs.length<=sizeLine:=n.2.2.2
 apply Calls.call_function_entry kind_sorted plain_sorted entry_sorted (args_sorted1 (.ref l))
 unfold Builtin.«sorted»
 refine wpAny_bind (m:=checkCount "sorted" 1 1 _) (wpAny_pure (wpAny_bind (PySem.W.kdu_collect (A:=X.A.in1) (zin (es:=es) (ep:=ep)) (I.ok.hd hc) ⟨hv,ed⟩ (by rw [hsz];exact hz) fun h' tk acc kp hit=>?_)))
 have ea:acc.toList=vs:=by
  apply List.ext_getElem?
  intro i
  by_cases hi:i<acc.size
  . obtain ⟨e,he,hx⟩:=hit.2 i acc[i] (by simp [hi])
    have t1:es.toList[i]?=some e:=by simpa using he
    rw [d4,List.getElem?_map] at t1
    have hiq:i<qs.length:=by rw [<-hsz,<-hit.1];exact hi
    have hzz:(qs.zip vs)[i]?=some (qs[i],vs[i]'(by omega)):=List.getElem?_zip_eq_some.mpr ⟨List.getElem?_eq_getElem hiq,List.getElem?_eq_getElem (by omega)⟩
    have hz3:(z3 qs vs)[i]?=some (qs[i].1,qs[i].2,vs[i]'(by omega)):=by unfold z3;rw [List.getElem?_map,hzz];rfl
    rw [hz3] at t1
    cases t1
    rw [List.getElem?_eq_getElem (by simpa using hi),List.getElem?_eq_getElem (by omega)]
    exact congrArg some (by simpa [dnE,entryOfKey] using hx)
  . have h1:qs.length<=i:=by rw [<-hsz,<-hit.1];omega
    rw [List.getElem?_eq_none (by simpa using hi),List.getElem?_eq_none (by omega)]
 have hl3:acc.toList.length<=sizeLine:=by rw [ea,<-p2];exact hz
 have I':Inv X pins σ H { s with heap:=h',toks:=tk }:=I.kept (t':=tk) kp
 refine wpAny_bind (wpAny_newList ?_ hl3)
 rw [ea]
 refine wpAny_bind (wpAny_holding (wpAny_call_entry slot_list_sort ⟨_,zg9 h' vs,rfl⟩ entry_list_sort (wpAny_mono (zik (s:={ s with heap:=h',toks:=tk }) (its:=vs) hu I' rd p1 (by rw [<-hq];exact hz) hok k) (fun f s' q=>?_) fun _ _ x=>x.elim) (args_list_sort _)))
 obtain ⟨x,rfl,q⟩:=q
 exact ⟨_,rfl,wpAny_pure ⟨_,rfl,q⟩⟩
noncomputable def z9t:D->Option D
 | .dn ks ds=>if ks.length=ds.length/\z29 ds=true then some (.lst (z31 ds)) else none
 | _=>none
theorem zmz {X:Cx} {EX:XW} {o:Expr} {p apos cpos pos:Pos} {f:DE->R D} (hc:X.calm=true) (hu:X.A.units+64<cLine) (hg:Gl X "sorted") (hm:X.mg "sorted"=none) (hv:bootBuiltins "sorted"=some (.builtin "sorted")) (ho:QE X EX false o f)
  (hbase:attributeBase o "values" X.env (eval o X.env)=eval o X.env:=by rfl) (hline:(apos.endLine==cpos.line)=true:=by rfl)
  (he:starEach [.Call (.Attribute o "values" apos) [] [] cpos] X.env=(false,eval (.Call (.Attribute o "values" apos) [] [] cpos) X.env)::starEach [] X.env:=by rfl) :
  QE X EX true (.Call (.Name "sorted" p) [.Call (.Attribute o "values" apos) [] [] cpos] [] pos) (eUn z9t f):=
 ⟨(z7y (zmy hc hu) hg hm hv (z65 (zge ho.h hbase hline) pa_nil he) (by decide) (by decide) he (by rfl)).imp fun σ H Q q=>by
  obtain ⟨sx,ρ,H0,s,e,h⟩:=q
  unfold eUn at h
  rw [Rk.bind] at h
  refine TEd.go sx s e h fun d h v H1 H1' s1 e1 r1=>?_
  obtain ⟨z,hz,h⟩:=h.of
  unfold z9t at hz
  split at hz<;>first | cases hz | skip
  rename_i ks ds
  split at hz<;>cases hz
  rename_i hok
  simp only [RD] at r1
  obtain ⟨a,qs,ys,ob,rfl,h1,hk,n,ra⟩:=r1
  have mono:∀b zs,H1' b=some (.tup zs)->H1 b=some (.tup zs):=fun b zs q=>e1.2.1 _ _ q
  have hq:qs.length=ys.length:=by rw [<-ra.length,<-hok.1,<-hk,List.length_map]
  refine ⟨a,qs,ys,ob,rfl,e1.2.1 _ _ h1,n.tk mono,fun l hl=>?_⟩
  have s2:Same H1 (upd H1 l (zgd l a)):=Same.upd_new hl
  have e2:Ext H0 H H1' (upd H1 l (zgd l a)):=e1.grow s2
  refine ⟨l,a,qs,ys,ob,ds,rfl,z0r,s2 _ _ (e1.2.1 _ _ h1),(n.tk mono).tk fun b zs q=>s2 _ _ q,hq,(ra.mono e1.2.1).mono s2,hok.2,fun l2 is hl2 hi he2=>h _ _ ?_⟩
  refine Out.after (s1.trans s2) e2 (.new e2.2.1 hl2 fun H' hH=>?_)
  simp only [OB]
  refine ⟨_,hH,?_⟩
  rw [he2]
  exact ra.pick hi⟩
open PySem.W in
noncomputable def z8o (tb:String->Option Builtin) (p:Program) (w:World) (m:Nat) (ann:Option Value):Nat->SharedT->Thread->Option SharedT
 | 0,_,_=>none
 | n+1,s,t=>match through t with
  | true=>some s
  | false=>match stepOk m ann t with
   | false=>none
   | true=>match stepT (denote tb) p w s t with
    | some (s',t')=>z8o tb p w m ann n s' t'
    | none=>none
open PySem.W in
theorem z7t {tb:String->Option Builtin} {p:Program} {w:World} {m:Nat} {ann:Option Value}:∀(n:Nat) {s s':SharedT} {t:Thread},z8o tb p w m ann n s t=some s'->topRun tb p w m ann n s.abs t=some s'.abs
 | 0,_,_,_,h=>nomatch h
 | n+1,s,s',t,h=>by
  unfold z8o at h
  unfold topRun
  cases a:through t with
  | true=>rw [a] at h;cases h;rfl
  | false=>
   rw [a] at h
   cases b:stepOk m ann t with
   | false=>rw [b] at h;cases h
   | true=>
    rw [b] at h
    cases c:stepT (denote tb) p w s t with
    | none=>rw [c] at h;cases h
    | some z=>
     obtain ⟨s2,t2⟩:=z
     rw [c] at h
     rw [stepT_spec c]
     exact z7t n h
open PySem.W in
noncomputable def zkd:List Obj->Nat->BT->BT
 | [],_,t=>t
 | o::l,i,t=>zkd l (i+1) (t.ins i o)
open PySem.W in
noncomputable def bootS (w:World) (os:OsState):SharedT:=⟨zkd (boot_heap w.params).objs.toList 0 .nil,(boot_heap w.params).objs.size,(boot_heap w.params).life,Array.mk [],boot_drawn,boot_toks,os⟩
open PySem.W in
noncomputable def seenAt (p q:Program) (loose:List Str) (Xt:Shared->Bool) {α:Type} (Yf:Shared->α) (w:World) (t:Shared):=
 (staticsOk (importedModules p.main.body) (boot_heap w.params) t.heap&&namesBound p t.heap&&gensDone t&&laidKept (boot_heap w.params) t.heap,openSeen q loose (importedModules p.main.body) Xt true t,Yf t)
open PySem.W in
noncomputable def outAt (p q:Program) (loose:List Str) (Xt:Shared->Bool) {α:Type} (Yf:Shared->α) (N:Nat) (w:World) (os:OsState):=
 (z8o treeTable p w (boot_heap w.params).objs.size ((boot_heap w.params).nsMap mainGlobals "__annotations__") N (bootS w os) (topStub p)).map fun s=>seenAt p q loose Xt Yf w s.abs
open PySem.W in
theorem zio:∀(w:World) (os:OsState),(bootS w os).abs=⟨boot_heap w.params,Array.mk [],boot_drawn,boot_toks,os⟩:=fun _ _=>by kernel_rfl
open PySem.W in
theorem zn0:∀w:World,(boot_heap w.params).isNs mainGlobals=true:=fun _=>by kernel_rfl
open PySem.W in
theorem zn1 {p q:Program} {loose:List Str} {Xt:Shared->Bool} {α:Type} {Yf:Shared->α} {Ya:World->α} {N:Nat} (e:opening p=plainProg p.main.scope.names) (hN:Nat.ble 600 N=true)
  (f:∀s,fenceModules? p s=some s) (h:∀w os,outAt p q loose Xt Yf N w os=some (true,openGood q loose,Ya w)):LeftO p q loose Xt Yf Ya N:=fun w=>by
 obtain ⟨⟨hp,gs,d,k,os⟩,a,b⟩:=Option.map_eq_some_iff.mp (boot_open e hN f w)
 obtain ⟨rfl,rfl,rfl,rfl⟩:hp=boot_heap w.params/\gs=Array.mk []/\d=boot_drawn/\k=boot_toks:=by simpa using b
 obtain ⟨s,r,c⟩:=Option.map_eq_some_iff.mp (h w os)
 have r2:=z7t N r
 rw [zio] at r2
 obtain ⟨l1,l2,l3⟩:_/\_/\_:=by simpa only [seenAt,Prod.mk.injEq] using c
 have t:topFrom treeTable p w N ⟨boot_heap w.params,Array.mk [],boot_drawn,boot_toks,os⟩=some s.abs:=by
  unfold topFrom
  dsimp only
  rw [zn0,r2]
  show (match staticsOk (importedModules p.main.body) (boot_heap w.params) s.abs.heap&&namesBound p s.abs.heap&&gensDone s.abs&&laidKept (boot_heap w.params) s.abs.heap with | true=>_ | false=>_)=_
  rw [l1]
 unfold openEnds
 rw [a]
 show (topFrom treeTable p w N _).map _=_
 rw [t]
 exact congrArg some (Prod.ext l2 l3)
abbrev vs (x:String) (t:Nat):Value:=.str (Str.ofString x) t
abbrev en (P:Params) (x:String) (t:Nat) (v:Value):DictEntry:=⟨PyData.keyHash P (Str.ofString x),.str (Str.ofString x) t,v⟩
abbrev oT (l:List Value):Obj:={ cls:=.type "tuple",data:=.seq l.toArray }
abbrev oD (l:List DictEntry) (n:Nat):Obj:={ cls:=.type "dict",data:=.dict l.toArray n }
abbrev oF (st:Stmt) (x q:String) (dV kV doc pm:Value) (an:Option Addr) (cd ct:Value):Obj:={ cls:=.type "function",data:=.func (PySem.W.fnOf (Str.ofString x) (Str.ofString q) (z0k st) (z0e st) (z03 st) dV kV doc pm an cd ct) }
end L2
noncomputable section
namespace K56
open PySem PySem.Spec PyProof.Rows L2
def z3b:DS->SR:=
 (sIf (z25 asB (eOp zns (z02 1) (z02 2)))
  (zh6 dSetN 0 [true,true,true,true] (z2z (z01 (z02 1) (z01 (z02 2) z09))) (eOp z36 (eGetN (z02 0) (z2z (z01 (z02 1) (z01 (z02 2) z09))) (eC (.int 0))) (z02 3)))
  (zh6 dSetN 0 [true,true,true,true] (z2z (z01 (z02 2) (z01 (z02 1) z09))) (eOp zt8 (eGetN (z02 0) (z2z (z01 (z02 2) (z01 (z02 1) z09))) (eC (.int 0))) (z02 3))))
def z16:List D->R D:=zvn 4 0 z3b
def z2r:DE->R Bool:=
 (z25 asB (eOp zui (z02 1) (eC (.int 0))))
def z2s:DE->R D:=
 (z2z (z01 (eOp dIx (z02 0) (eC (.int 0))) (z01 (eOp dIx (z02 0) (eC (.int 1))) (z01 (z02 1) z09))))
def z2t:DE->R Bool:=
 (z25 asB (eOp zpc (z02 1) (eC (.int 0))))
def z2u:DE->R D:=
 (z2z (z01 (eOp dIx (z02 0) (eC (.int 1))) (z01 (eOp dIx (z02 0) (eC (.int 0))) (z01 (eUn znl (z02 1)) z09))))
def z5o:DS->SR:=
 (z12 (z2m true 1 [true] (z2b (zk5 (z02 0)) (bT 2) [] z2r z2s))
  (z12 (z2m true 2 [true] (z2b (zk5 (z02 0)) (bT 2) [] z2t z2u))
  (z4s [false,true,true] (eCB z3p (z01 (eOp znm (z02 1) (z02 2)) z09)))))
def z1k:List D->R D:=mOf true 1 2 z5o
def zcb:DS->SR:=
 (z4s [true,true,true] (eIf (z25 asB (eOp dEq (z02 0) (z02 1))) (z02 2) (z02 0)))
def z3c:List D->R D:=mOf false 3 0 zcb
def z6p:DS->SR:=
 (z12 (sIf (z25 asB (eOp zpc (z02 1) (eCB zd3 (z01 (z02 0) z09))))
   (z4s [true,true] (eOp dIx (z02 0) (z02 1)))
   sNx)
  (z4s [] (eC (.int 0))))
def z0j:List D->R D:=mOf false 2 0 z6p
def z3i:DS->SR:=
 (z4s [true] (zli (eUn (z7f "int") (z02 0)) (eUn (fun d=>(z9h d).map fun b=>.bl (!b)) (eUn (z7f "bool") (z02 0)))))
def z0m:List D->R D:=mOf false 1 0 z3i
def z26:DS->SR:=
 (z12 (z2m false 5 [false,false,false,true,true] (eOp z3m (eOp z36 (eOp z36 (eOp zez (z02 4) (eC (.int 48271))) (eOp zez (eOp zez (z02 3) (z02 3)) (eC (.int 16807)))) (eC (.int 5))) (eC (.int 2147483629))))
  (z12 (z2m false 6 [false,true,false,false,false,true] (eOp dIx (z02 1) (eOp z3m (z02 5) (eCB zd3 (z01 (z02 1) z09)))))
  (z12 (z2m false 7 [false,true,false,false,false,true] (eOp dIx (z02 1) (eOp z3m (eOp zbp (z02 5) (eC (.int 64))) (eCB zd3 (z01 (z02 1) z09)))))
  (sIf (z25 asB (eOp dNe (z02 6) (z02 7)))
   (zh6 dSetN 2 [false,false,false,false,true,false,true,true] (z2z (z01 (eCB zc7 (z01 (z02 6) (z01 (z02 7) z09))) (z01 (eCB zc8 (z01 (z02 6) (z01 (z02 7) z09))) z09))) (z2z (z01 (z02 6) (z01 (z02 7) (z01 (eOp z36 (eC (.int 1)) (eOp z3m (eOp zbp (z02 4) (eC (.int 3))) (eOp z7e (eC (.int 10)) (eC (.int 14))))) z09)))))
   sNx))))
def z5p:DS->SR:=
 (z12 (z2m true 2 [] z9q)
  (z12 (z7c false [true] (iEn (z01 (z02 0) z09)) (.t [3,4]) z26)
  (z4s [false,false,true] (eUn z9t (z02 2)))))
def z2e:List D->R D:=mOf true 2 6 z5p
def z20:DS->SR:=
 (z12 (zh6 dSetN 1 [false,false,true,true,true] (z2z (z01 (z02 2) (z01 (z02 3) z09))) (z02 4))
  (zh6 dSetN 1 [false,false,true,true,true] (z2z (z01 (z02 3) (z01 (z02 2) z09))) (eUn znl (z02 4))))
def z5u:DS->SR:=
 (z12 (z2m true 1 [] z9q)
  (z12 (z7c false [true] (iL (z02 0)) (.t [2,3,4]) z20)
  (zal 1)))
def z17:List D->R D:=mOf true 1 4 z5u
def z1f:DS->SR:=
 (zbl "list" z6w 3 [false,true,true,false,true,true,true] (z01 (z2z (z01 (eOp dIx (zh5 (z01 (z02 4) (z01 (z02 2) z09))) (eCB znp (z01 (eOp dEq (z02 4) (z02 1)) z09))) (z01 (eOp dIx (zh5 (z01 (z02 5) (z01 (z02 2) z09))) (eCB znp (z01 (eOp dEq (z02 5) (z02 1)) z09))) (z01 (z02 6) z09)))) z09))
def z4b:DS->SR:=
 (z12 (z2m true 3 [] (zh5 z09))
  (z12 (z7c false [true] (iL (z02 0)) (.t [4,5,6]) z1f)
  (z4s [false,false,false,true] (eCB z3p (z01 (z02 3) z09)))))
def z0v:List D->R D:=mOf true 3 4 z4b
def z21:DS->SR:=
 (sIf (bOr (z25 asB (eOp dEq (z02 1) (z02 3))) (z25 asB (eOp dEq (z02 1) (z02 4))))
  (zk9 2 [false,false,false,true,true,true] z16 4 (z01 (z02 4) (z01 (z02 3) (z01 (z02 5) z09))))
  (zk9 2 [false,false,false,true,true,true] z16 4 (z01 (z02 3) (z01 (z02 4) (z01 (z02 5) z09)))))
def z0w:DE->R Bool:=
 (z25 asB (eOp dEq (z02 1) (z02 3)))
def z0x:DE->R D:=
 (z2z (z01 (z02 0) (z01 (z02 2) z09)))
def z0y:DE->R Bool:=
 (z25 asB (eOp dEq (z02 0) (z02 3)))
def z0z:DE->R D:=
 (z2z (z01 (z02 1) (z01 (z02 2) z09)))
def z22:DS->SR:=
 (zk9 2 [false,false,false,false,false,false,true,true,true,true] z16 4 (z01 (z02 6) (z01 (z02 8) (z01 (eOp z5h (z02 7) (z02 9)) z09))))
def z1e:DS->SR:=
 (z7c false [true,true,false,true,true,true] (iL (z2b (iL (z02 0)) (bT 3) [1] z0y z0z)) (.t [8,9]) z22)
def z3q:DS->SR:=
 (z12 (z2m true 2 [] z9q)
  (z12 (z7c false [true] (iL (z02 0)) (.t [3,4,5]) z21)
  (z12 (z7c false [true,true,false,true,true,true] (iL (z2b (iL (z02 0)) (bT 3) [1] z0w z0x)) (.t [6,7]) z1e)
  (z4s [false,false,true] (z18 z1k (z01 (z02 2) z09))))))
def z0b:List D->R D:=mOf true 2 8 z3q
def z4k:DE->R D:=
 (z2z (z01 (z18 z3c (z01 (z02 0) (z01 (z02 3) (z01 (z02 4) z09)))) (z01 (z18 z3c (z01 (z02 1) (z01 (z02 3) (z01 (z02 4) z09)))) (z01 (z02 2) z09))))
def z9u:DS->SR:=
 (z4s [true,true,true] (eCB z3p (z01 (z2b (iL (z02 0)) (bT 3) [1,2] zhy z4k) z09)))
def z1q:List D->R D:=mOf true 3 0 z9u
def z0f:DS->SR:=
 (z12 (z2m false 4 [false,false,false,false,true,true] (eOp z3m (eOp z36 (eOp z36 (eOp z5h (z02 4) (eC (.int 48271))) (eOp z5h (z02 5) (z02 5))) (eC (.int 1))) (eC (.int 2147483647))))
  (z12 (z2m false 6 [false,false,true,false,true] (eOp z3m (eOp z36 (eOp z5h (eOp z5h (z02 4) (z02 4)) (eOp zbp (z02 2) (eC (.int 60)))) (z02 4)) (z02 2)))
  (z12 (z2m false 7 [false,false,true,false,true] (eOp z3m (eOp z5h (eOp z3m (eOp z5h (z02 4) (eC (.int 69621))) (eC (.int 2147483629))) (eOp zbp (z02 2) (eC (.int 60)))) (z02 2)))
  (sIf (znk (z25 asB (eOp dNe (z02 6) (z02 7))) (z25 asB (eOp (dIn true) (z2z (z01 (eCB zf6 (z01 (z02 6) (z01 (z02 7) z09))) (z01 (eCB z8e (z01 (z02 6) (z01 (z02 7) z09))) z09))) (z02 3))))
   (zbl "list" z6w 3 [false,false,false,false,false,false,true,true] (z01 (z2z (z01 (eCB zf6 (z01 (z02 6) (z01 (z02 7) z09))) (z01 (eCB z8e (z01 (z02 6) (z01 (z02 7) z09))) z09))) z09))
   sNx))))
def z3d:DS->SR:=
 (z12 (z2m false 1 [true] (z18 z0j (z01 (z02 0) (z01 (eC (.int 0)) z09))))
  (z12 (z2m false 2 [] (eC (.int 60)))
  (z12 (sIf (z25 asB (eOp dEq (eOp z3m (z02 1) (eC (.int 4))) (eC (.int 1))))
   (z2m false 2 [] (eOp z7e (eC (.int 10)) (eC (.int 40))))
   sNx)
  (z12 (z2m true 3 [] (zh5 z09))
  (z12 (z2m false 4 [false,true] (eOp z3m (z02 1) (eC (.int 2147483647))))
  (z12 (z7c true [false,true] (zjj (z01 (eOp z36 (eC (.int 2)) (eOp z3m (eOp zbp (z02 1) (eC (.int 4))) (eC (.int 7)))) z09)) (.n 5) z0f)
  (z12 (sIf (z25 asB (eOp (dIn true) (z2z (z01 (eC (.int 0)) (z01 (eC (.int 1)) z09))) (z02 3)))
   (zbl "list" z6w 3 [] (z01 (z2z (z01 (eC (.int 0)) (z01 (eC (.int 1)) z09))) z09))
   sNx)
  (z12 (sIf (z25 asB (eOp (dIn true) (z2z (z01 (eC (.int 1)) (z01 (eC (.int 2)) z09))) (z02 3)))
   (zbl "list" z6w 3 [] (z01 (z2z (z01 (eC (.int 1)) (z01 (eC (.int 2)) z09))) z09))
   sNx)
  (zal 3)))))))))
def z1a:List D->R D:=mOf true 1 7 z3d
def z1r:DS->SR:=
 (z12 (sIf (bOr (zcw (z25 z9h (eUn (z7f "tuple") (z02 2)))) (bOr (z25 asB (eOp dNe (eCB zd3 (z01 (z02 2) z09)) (eC (.int 3)))) (bOr (zcw (z25 z9h (z18 z0m (z01 (eOp dIx (z02 2) (eC (.int 2))) z09)))) (z25 asB (eOp zpc (eOp dIx (z02 2) (eC (.int 2))) (eC (.int 1)))))))
   (z4s [] (eC (.bl false)))
   sNx)
  (z12 (z2m true 3 [false,false,true] (zh5 (z01 (eOp dIx (z02 2) (eC (.int 0))) (z01 (eOp dIx (z02 2) (eC (.int 1))) z09))))
  (z12 (sIf (bOr (z25 asB (eOp dEq (eOp dIx (z02 2) (eC (.int 0))) (eOp dIx (z02 2) (eC (.int 1))))) (z25 asB (eOp (dIn false) (eCB z3p (z01 (z02 3) z09)) (z02 1))))
   (z4s [] (eC (.bl false)))
   sNx)
  (zbl "list" z6w 1 [false,false,false,true] (z01 (eCB z3p (z01 (z02 3) z09)) z09)))))
def z52:DS->SR:=
 (z12 (sIf (bOr (zcw (z25 z9h (eUn (z7f "list") (z02 0)))) (z25 asB (eOp dNe (z02 0) (eCB z3p (z01 (z02 0) z09)))))
   (z4s [] (eC (.bl false)))
   sNx)
  (z12 (z2m true 1 [] (zh5 z09))
  (z12 (z7c false [true] (iL (z02 0)) (.n 2) z1r)
  (z4s [] (eC (.bl true))))))
def z07:List D->R D:=mOf false 1 3 z52
def z3e:DE->R D:=
 (zli (eOp (dIn false) (eOp dIx (z02 0) (eC (.int 0))) (z02 1)) (eOp (dIn false) (eOp dIx (z02 0) (eC (.int 1))) (z02 1)))
def z2c:DS->SR:=
 (z12 (z2m false 8 [false,false,false,false,true,false,true,true] (eGetN (z02 4) (z2z (z01 (z02 6) (z01 (z02 7) z09))) (eC (.int 0))))
  (z12 (sIf (bOr (z25 asB (eOp dEq (z02 6) (z02 3))) (z25 asB (eOp dEq (z02 7) (z02 3))))
   (z2m false 8 [false,false,false,false,false,false,false,false,true] (eUn znl (z02 8)))
   (z12 (z2m false 8 [false,false,false,true,true,false,true,true,true] (eOp z36 (z02 8) (eOp z5h (eCB z8e (z01 (eC (.int 0)) (z01 (eGetN (z02 4) (z2z (z01 (z02 6) (z01 (z02 3) z09))) (eC (.int 0))) z09))) (eCB z8e (z01 (eC (.int 0)) (z01 (eGetN (z02 4) (z2z (z01 (z02 3) (z01 (z02 7) z09))) (eC (.int 0))) z09))))))
  (z2m false 8 [false,false,false,true,true,false,true,true,true] (eOp zt8 (z02 8) (eOp z5h (eCB z8e (z01 (eC (.int 0)) (z01 (eGetN (z02 4) (z2z (z01 (z02 7) (z01 (z02 3) z09))) (eC (.int 0))) z09))) (eCB z8e (z01 (eC (.int 0)) (z01 (eGetN (z02 4) (z2z (z01 (z02 3) (z01 (z02 6) z09))) (eC (.int 0))) z09))))))))
  (sIf (znk (z25 asB (eOp dNe (z02 6) (z02 7))) (z25 asB (eOp dNe (eGetN (z02 5) (z2z (z01 (z02 6) (z01 (z02 7) z09))) (eC (.int 0))) (z02 8))))
   (z4s [] (eC (.bl false)))
   sNx)))
def z2d:DS->SR:=
 (z7c false [false,false,true] (iL (z02 2)) (.n 7) z2c)
def z4l:DS->SR:=
 (z12 (sIf (zcw (z25 z9h (z18 z07 (z01 (z02 0) z09))))
   (z4s [] (eC (.bl false)))
   sNx)
  (z12 (sIf (zcw (z25 z9h (eCB zpk (z01 (z2b (iL (z02 0)) b1 [2] zhy z3e) z09))))
   (z4s [] (eC (.bl false)))
   sNx)
  (z12 (z2m true 4 [false,true] (z18 z17 (z01 (z02 1) z09)))
  (z12 (z2m true 5 [true] (z18 z17 (z01 (z02 0) z09)))
  (z12 (z7c false [false,false,true] (iL (z02 2)) (.n 6) z2d)
  (z4s [] (eC (.bl true))))))))
def z1u:List D->R D:=mOf false 4 5 z4l
def z7u:DS->SR:=
 (z12 (z2m true 3 [true] (eCB z9i (z01 (z02 0) z09)))
  (z12 (z2m true 4 [false,true,false,true] (z18 z0b (z01 (z02 3) (z01 (z02 1) z09))))
  (z12 (z2m true 5 [false,true,true,true] (z18 z1q (z01 (z02 3) (z01 (z02 1) (z01 (z02 2) z09)))))
  (z12 (sIf (bOr (zcw (z25 z9h (z18 z07 (z01 (z02 4) z09)))) (bOr (z25 asB (eOp dNe (z02 4) (z02 0))) (bOr (zcw (z25 z9h (z18 z07 (z01 (z02 5) z09)))) (z25 asB (eOp dNe (z02 5) (z02 0))))))
   (z4s [] (eC (.bl false)))
   sNx)
  (z12 (zbl "list" z6w 4 [false,true,true] (z01 (z2z (z01 (z02 1) (z01 (z02 2) (z01 (eC (.int 7)) z09)))) z09))
  (z12 (zbl "list" z6w 5 [false,true,true] (z01 (z2z (z01 (z02 2) (z01 (z02 1) (z01 (eC (.int 7)) z09)))) z09))
  (z4s [true,false,false,true] (eOp dEq (z02 3) (z02 0)))))))))
def z2f:List D->R D:=mOf false 3 3 z7u
def z6q:DS->SR:=
 (z12 (z2m true 3 [true] (eCB z9i (z01 (z02 0) z09)))
  (z12 (z2m true 4 [false,false,true,true] (z18 z0b (z01 (z02 3) (z01 (z02 2) z09))))
  (z12 (sIf (bOr (zcw (z25 z9h (z18 z1u (z01 (z02 4) (z01 (z02 0) (z01 (z02 1) (z01 (z02 2) z09))))))) (z25 asB (eOp dNe (z02 3) (z02 0))))
   (z4s [] (eC .non))
   sNx)
  (z4s [false,false,false,false,true] (z02 4)))))
def z1j:List D->R D:=mOf false 3 2 z6q
def zn2:DS->SR:=
 (z12 (z2m true 1 [true] (z18 z1a (z01 (z02 0) z09)))
  (z12 (z2m true 2 [true,true] (z18 z2e (z01 (eSl dSl (z02 0) (oSo (eC (.int 4))) (oSo (eC (.int 104)))) (z01 (z02 1) z09))))
  (z12 (z2m false 3 [true,true] (eOp dIx (z02 1) (eOp z3m (z18 z0j (z01 (z02 0) (z01 (eC (.int 1)) z09))) (eCB zd3 (z01 (z02 1) z09)))))
  (z12 (z2m false 4 [true,true] (eOp dIx (z02 1) (eOp z3m (z18 z0j (z01 (z02 0) (z01 (eC (.int 2)) z09))) (eCB zd3 (z01 (z02 1) z09)))))
  (z12 (z2m false 5 [true] (z2z (z01 (eOp z7e (eC (.int 10)) (eC (.int 41))) (z01 (eOp z36 (eOp z36 (eOp z7e (eC (.int 10)) (eC (.int 41))) (eC (.int 1))) (eOp z3m (z18 z0j (z01 (z02 0) (z01 (eC (.int 3)) z09))) (eOp z7e (eC (.int 10)) (eC (.int 40))))) z09))))
  (z12 (sIf (z25 asB (eOp dEq (eOp z3m (z18 z0j (z01 (z02 0) (z01 (eC (.int 3)) z09))) (eC (.int 3))) (eC (.int 1))))
   (z2m false 4 [] (z2z (z01 (eOp z7e (eC (.int 10)) (eC (.int 42))) (z01 (eOp z36 (eOp z7e (eC (.int 10)) (eC (.int 42))) (eC (.int 1))) z09))))
   sNx)
  (z12 (z2m false 6 [false,true,true,true] (z18 z1j (z01 (z02 2) (z01 (z02 1) (z01 (z02 3) z09)))))
  (z12 (sIf (z25 asB (eOp znq (z02 6) (eC .non)))
   (z4s [] (eC (.bl false)))
   sNx)
  (z12 (z2m false 7 [false,true,false,false,true,false,true] (z18 z1j (z01 (z02 6) (z01 (z02 1) (z01 (z02 4) z09)))))
  (z12 (sIf (bOr (z25 asB (eOp znq (z02 7) (eC .non))) (bOr (z25 asB (eOp dNe (z18 z0b (z01 (z02 7) (z01 (z02 4) z09))) (z02 6))) (z25 asB (eOp dNe (z18 z0b (z01 (z02 6) (z01 (z02 3) z09))) (z02 2)))))
   (z4s [] (eC (.bl false)))
   sNx)
  (z12 (z2m true 8 [false,false,false,false,false,false,true] (eCB z9i (z01 (z02 6) z09)))
  (z12 (z2m true 9 [false,false,false,true,false,true,false,false,true] (z18 z1q (z01 (z02 8) (z01 (z02 3) (z01 (z02 5) z09)))))
  (z12 (sIf (bOr (zcw (z25 z9h (z18 z07 (z01 (z02 9) z09)))) (bOr (z25 asB (eOp dNe (z02 9) (z18 z0v (z01 (z02 6) (z01 (z02 3) (z01 (z02 5) z09)))))) (z25 asB (eOp dNe (z02 8) (z02 6)))))
   (z4s [] (eC (.bl false)))
   sNx)
  (z4s [false,false,false,true,false,true,true,false,false,true] (zli (eOp dEq (z18 z1q (z01 (z02 9) (z01 (z02 5) (z01 (z02 3) z09)))) (z02 6)) (z18 z2f (z01 (z02 6) (z01 (z02 5) (z01 (z2z (z01 (eOp z7e (eC (.int 10)) (eC (.int 44))) (z01 (eOp z36 (eOp z7e (eC (.int 10)) (eC (.int 44))) (eC (.int 1))) z09))) z09)))))))))))))))))))
def zdi:List D->R D:=mOf false 1 9 zn2
def top (i:Nat):Stmt:=PySem.Challenge.pw_friezeyard_k56_nets_overturned_back.main.body.getD i (.Pass ⟨0,0,0,0⟩)
abbrev z1l:Stmt:=top 1
abbrev z1v:Stmt:=top 2
abbrev z2g:Stmt:=top 3
abbrev z33:Stmt:=top 4
abbrev z45:Stmt:=top 5
abbrev z1w:Stmt:=top 7
abbrev z0n:Stmt:=top 8
abbrev z1b:Stmt:=top 9
abbrev z2h:Stmt:=top 10
abbrev z1c:Stmt:=top 11
abbrev z1m:Stmt:=top 12
abbrev z1x:Stmt:=top 13
abbrev z1y:Stmt:=top 14
abbrev z2i:Stmt:=top 15
abbrev z10:Stmt:=top 16
abbrev z8p:Stmt:=top 17
structure Txt (mg:Str->Option Value):Prop where
 «all»:mg "all"=none
 bool:mg "bool"=none
 enumerate:mg "enumerate"=none
 int:mg "int"=none
 isinstance:mg "isinstance"=none
 len:mg "len"=none
 list:mg "list"=none
 «max»:mg "max"=none
 «min»:mg "min"=none
 range:mg "range"=none
 sorted:mg "sorted"=none
 tuple:mg "tuple"=none
theorem sc_overturned:FnScope ["net","point","flow","start","end","many","x","u","y","v"] ["net","point"] (z03 z1l):=⟨rfl,rfl,rfl,by decide +kernel,rfl,by decide +kernel,by decide +kernel⟩
theorem z9v:FnScope ["flow","start","end","many"] ["flow","start","end","many"] (z03 z1v):=⟨rfl,rfl,rfl,by decide +kernel,rfl,by decide +kernel,by decide +kernel⟩
theorem sc_net_from:FnScope ["flow","there","back"] ["flow"] (z03 z2g):=⟨rfl,rfl,rfl,by decide +kernel,rfl,by decide +kernel,by decide +kernel⟩
theorem zdj:FnScope ["net","old","new"] ["net","old","new"] (z03 z33):=⟨rfl,rfl,rfl,by decide +kernel,rfl,by decide +kernel,by decide +kernel⟩
theorem zgf:FnScope ["point","old","new"] ["point","old","new"] (z03 z45):=⟨rfl,rfl,rfl,by decide +kernel,rfl,by decide +kernel,by decide +kernel⟩
theorem z9w:FnScope ["_law_script","_law_k"] ["_law_script","_law_k"] (z03 z1w):=⟨rfl,rfl,rfl,by decide +kernel,rfl,by decide +kernel,by decide +kernel⟩
theorem z5q:FnScope ["_law_found"] ["_law_found"] (z03 z0n):=⟨rfl,rfl,rfl,by decide +kernel,rfl,by decide +kernel,by decide +kernel⟩
theorem sc__law_points:FnScope ["_law_script","_law_cell","_law_size","_law_found","_law_number","_law_k","_law_a","_law_b"] ["_law_script"] (z03 z1b):=⟨rfl,rfl,rfl,by decide +kernel,rfl,by decide +kernel,by decide +kernel⟩
theorem sc__law_net:FnScope ["_law_cells","_law_points_here","_law_arrows","_law_k","_law_cell","_law_number","_law_start","_law_end"] ["_law_cells","_law_points_here"] (z03 z2h):=⟨rfl,rfl,rfl,by decide +kernel,rfl,by decide +kernel,by decide +kernel⟩
theorem sc__law_is_net:FnScope ["_law_found","_law_seen","_law_one","_law_both"] ["_law_found"] (z03 z1c):=⟨rfl,rfl,rfl,by decide +kernel,rfl,by decide +kernel,by decide +kernel⟩
theorem sc__law_flows:FnScope ["_law_net_here","_law_flows_here","_law_start","_law_end","_law_many"] ["_law_net_here"] (z03 z1m):=⟨rfl,rfl,rfl,by decide +kernel,rfl,by decide +kernel,by decide +kernel⟩
theorem sc__law_fits:FnScope ["_law_found","_law_net_here","_law_points_here","_law_p","_law_ahead","_law_behind","_law_x","_law_y","_law_due"] ["_law_found","_law_net_here","_law_points_here","_law_p"] (z03 z1x):=⟨rfl,rfl,rfl,by decide +kernel,rfl,by decide +kernel,by decide +kernel⟩
theorem sc__law_step:FnScope ["_law_net_here","_law_points_here","_law_p","_law_handed","_law_found"] ["_law_net_here","_law_points_here","_law_p"] (z03 z1y):=⟨rfl,rfl,rfl,by decide +kernel,rfl,by decide +kernel,by decide +kernel⟩
theorem sc__law_own:FnScope ["_law_net_here","_law_apart","_law_other","_law_handed","_law_stays","_law_kept"] ["_law_net_here","_law_apart","_law_other"] (z03 z2i):=⟨rfl,rfl,rfl,by decide +kernel,rfl,by decide +kernel,by decide +kernel⟩
theorem sc__law_swapped:FnScope ["_law_net_here","_law_old","_law_new","_law_swapped_here","_law_start","_law_end","_law_many"] ["_law_net_here","_law_old","_law_new"] (z03 z10):=⟨rfl,rfl,rfl,by decide +kernel,rfl,by decide +kernel,by decide +kernel⟩
theorem sc_law:FnScope ["_law_script","_law_points_here","_law_net_here","_law_one","_law_other","_law_apart","_law_first","_law_second","_law_handed","_law_name"] ["_law_script"] (z03 z8p):=⟨rfl,rfl,rfl,by decide +kernel,rfl,by decide +kernel,by decide +kernel⟩
theorem z9x {P:Program} {w:World} {K:Frag} {mg:Str->Option Value} {base:Heap} {f:Addr} {fd:FuncData} (F:Fun K "add_arrow" "add_arrow" z1v f fd) (T:Txt mg)  : FnOk P w K mg base (CX1 P w) 1 f fd ["flow","start","end","many"] (spU K z16 4):=
 fnU (k:=0) F z9v rfl rfl fun cdv A outer s H E hr=>
  (zg0 (zy0 (z19 (zvj hr.units) zrg (qv 1) (qv 2) (z0g _))
   (zg0 (zk8 hr.units (pw 0) (z1g (z00 (qv 1) (z00 (qv 2) z04))) (z0c z56 z1t (z5t hr.units (qv 0) (z1g (z00 (qv 1) (z00 (qv 2) z04))) z06) (qv 3))))
   (zg0 (zk8 hr.units (pw 0) (z1g (z00 (qv 2) (z00 (qv 1) z04))) (z0c zol zjd (z5t hr.units (qv 0) (z1g (z00 (qv 2) (z00 (qv 1) z04))) z06) (qv 3))))))
theorem zaz {P:Program} {w:World} {K:Frag} {mg:Str->Option Value} {base:Heap} {f:Addr} {fd:FuncData} (F:Fun K "net_from" "net_from" z2g f fd) (T:Txt mg)  : FnOk P w K mg base (CX1 P w) 1 f fd ["flow"] (spD K mg true z1k 1):=
 fnD (k:=0) F sc_net_from rfl rfl fun cdv A outer s H E hr=>
  (z05 (zws sc_net_from.nd (k:=1) rfl rfl (z2y (caps:=[]) (ix:=[]) rfl rfl) (by decide +kernel) rfl rfl (zfy (qv 0)) (.one fun _ _ _=>(z19 zx7 zpd (qv 1) z06 (z0g _))) (fun _ _ _=>(z1g (z00 (z8a (z89 hr.units) z37 (qv 0) z06) (z00 (z8a (z89 hr.units) z37 (qv 0) z06) (z00 (qv 1) z04))))))
   (z05 (zws sc_net_from.nd (k:=2) rfl rfl (z2y (caps:=[]) (ix:=[]) rfl rfl) (by decide +kernel) rfl rfl (zfy (qv 0)) (.one fun _ _ _=>(z19 ztq zf1 (qv 1) z06 (z0g _))) (fun _ _ _=>(z1g (z00 (z8a (z89 hr.units) z37 (qv 0) z06) (z00 (z8a (z89 hr.units) z37 (qv 0) z06) (z00 (zup zl1 zf2 (qv 1)) z04))))))
   (z0h (z27 (z6e (z5n rfl hr.units) z44 rfl T.sorted boot_sorted (z00 (QE.wk (z0c zoi zpe (qv 1) (qv 2))) z04))))))
theorem zgg {P:Program} {w:World} {K:Frag} {mg:Str->Option Value} {base:Heap} {f:Addr} {fd:FuncData} (F:Fun K "called" "called" z45 f fd) (T:Txt mg)  : FnOk P w K mg base (CX1 P w) 1 f fd ["point","old","new"] (spD K mg false z3c 3):=
 fnD (k:=0) F zgf rfl rfl fun cdv A outer s H E hr=>
  (z0h (z27 (zuq (z19 (z4v hr.units) z4w (qv 0) (qv 1) (z0g _)) (qv 2) (qv 0))))
theorem z9y {P:Program} {w:World} {K:Frag} {mg:Str->Option Value} {base:Heap} {f:Addr} {fd:FuncData} (F:Fun K "_law_pick" "_law_pick" z1w f fd) (T:Txt mg)  : FnOk P w K mg base (CX1 P w) 1 f fd ["_law_script","_law_k"] (spD K mg false z0j 2):=
 fnD (k:=0) F z9w rfl rfl fun cdv A outer s H E hr=>
  (z05 (z7k (z19 ztq zf1 (qv 1) (z6e z7i z7j rfl T.len PySem.boot_len (z00 (qv 0) z04)) (z0g _))
    (z0h (z27 (z8a (z89 hr.units) z37 (qv 0) (qv 1))))
    z3k)
   (z0h (z27 z06)))
theorem z5r {P:Program} {w:World} {K:Frag} {mg:Str->Option Value} {base:Heap} {f:Addr} {fd:FuncData} (F:Fun K "_law_is_number" "_law_is_number" z0n f fd) (T:Txt mg)  : FnOk P w K mg base (CX1 P w) 1 f fd ["_law_found"] (spD K mg false z0m 1):=
 fnD (k:=0) F z5q rfl rfl fun cdv A outer s H E hr=>
  (z0h (z27 (zlp (zhx rfl T.isinstance boot_isinstance (qv 0) (z7x (v:=.ty "int") rfl T.int boot_int rfl)) (zlq (zpi (zhx rfl T.isinstance boot_isinstance (qv 0) (z7x (v:=.ty "bool") rfl T.bool boot_bool rfl)))))))
theorem zb0 {P:Program} {w:World} {K:Frag} {mg:Str->Option Value} {base:Heap} {f:Addr} {fd:FuncData} (F:Fun K "_law_net" "_law_net" z2h f fd) (T:Txt mg)  : FnOk P w K mg base (CX1 P w) 1 f fd ["_law_cells","_law_points_here"] (spD K mg true z2e 2):=
 fnD (k:=0) F sc__law_net rfl rfl fun cdv A outer s H E hr=>
  (z05 (z0t (i:=2) sc__law_net.nd rfl (Or.inl rfl) zfv)
   (z05 (z71 PassesOwn.leaving rfl (zxt rfl T.enumerate (z00 (qv 0) z04)) (g_t rfl (z1h (i:=3) sc__law_net.nd rfl (Or.inl rfl) (z1h (i:=4) sc__law_net.nd rfl (Or.inl rfl) z7l)))
    (z05 (z0t (i:=5) sc__law_net.nd rfl (Or.inl rfl) (z0c z4f z2k (z0c z56 z1t (z0c z56 z1t (z0c zl0 zf0 (qv 4) z06) (z0c zl0 zf0 (z0c zl0 zf0 (qv 3) (qv 3)) z06)) z06) z06))
   (z05 (z0t (i:=6) sc__law_net.nd rfl (Or.inl rfl) (z8a (z89 hr.units) z37 (qv 1) (z0c z4f z2k (qv 5) (z6e z7i z7j rfl T.len PySem.boot_len (z00 (qv 1) z04)))))
   (z05 (z0t (i:=7) sc__law_net.nd rfl (Or.inl rfl) (z8a (z89 hr.units) z37 (qv 1) (z0c z4f z2k (z0c z9b z9g (qv 5) z06) (z6e z7i z7j rfl T.len PySem.boot_len (z00 (qv 1) z04)))))
   (z0h (z7k (z19 (z5b hr.units) z5c (qv 6) (qv 7) (z0g _))
    (z0h (zfu hr.units (pw 2) (z1g (z00 (z6e (zmq rfl hr.units) zif rfl T.«min» boot_min (z00 (qv 6) (z00 (qv 7) z04))) (z00 (z6e (zmr rfl hr.units) zig rfl T.«max» boot_max (z00 (qv 6) (z00 (qv 7) z04))) z04))) (z1g (z00 (qv 6) (z00 (qv 7) (z00 (z0c z56 z1t z06 (z0c z4f z2k (z0c z9b z9g (qv 4) z06) (z0c z82 z4u z06 z06))) z04))))))
    z3k))))))
   (z0h (z27 (zmz rfl hr.units rfl T.sorted boot_sorted (qv 2))))))
theorem z8q {P:Program} {w:World} {K:Frag} {mg:Str->Option Value} {base:Heap} {f:Addr} {fd:FuncData} (F:Fun K "_law_flows" "_law_flows" z1m f fd) (T:Txt mg)  : FnOk P w K mg base (CX1 P w) 1 f fd ["_law_net_here"] (spD K mg true z17 1):=
 fnD (k:=0) F sc__law_flows rfl rfl fun cdv A outer s H E hr=>
  (z05 (z0t (i:=1) sc__law_flows.nd rfl (Or.inl rfl) zfv)
   (z05 (z71 PassesOwn.leaving rfl (z5z (qv 0)) (g_t rfl (z1h (i:=2) sc__law_flows.nd rfl (Or.inl rfl) (z1h (i:=3) sc__law_flows.nd rfl (Or.inl rfl) (z1h (i:=4) sc__law_flows.nd rfl (Or.inl rfl) z7l))))
    (z05 (zfu hr.units (pw 1) (z1g (z00 (qv 2) (z00 (qv 3) z04))) (qv 4))
   (z0h (zfu hr.units (pw 1) (z1g (z00 (qv 3) (z00 (qv 2) z04))) (zup zl1 zf2 (qv 4))))))
   (z0h (zjl (i:=1)))))
theorem z6r {P:Program} {w:World} {K:Frag} {mg:Str->Option Value} {base:Heap} {f:Addr} {fd:FuncData} (F:Fun K "_law_swapped" "_law_swapped" z10 f fd) (T:Txt mg)  : FnOk P w K mg base (CX1 P w) 1 f fd ["_law_net_here","_law_old","_law_new"] (spD K mg true z0v 3):=
 fnD (k:=0) F sc__law_swapped rfl rfl fun cdv A outer s H E hr=>
  (z05 (z0t (i:=3) sc__law_swapped.nd rfl (Or.inl rfl) (zd2 z04))
   (z05 (z71 PassesOwn.leaving rfl (z5z (qv 0)) (g_t rfl (z1h (i:=4) sc__law_swapped.nd rfl (Or.inl rfl) (z1h (i:=5) sc__law_swapped.nd rfl (Or.inl rfl) (z1h (i:=6) sc__law_swapped.nd rfl (Or.inl rfl) z7l))))
    (z0h (zat PySem.F.plainAttrs_list PySem.F.slot_list_append PySem.F.type_list_append z24 z6g z4h (pw 3) (z00 (z1g (z00 (z8a (z89 hr.units) z37 (QE.wk (zd2 (z00 (qv 4) (z00 (qv 2) z04)))) (zf5 zou zjh rfl T.int boot_int (z00 (zd1 (z4v hr.units) z4w (qv 4) (qv 1) (z0g _)) z04))) (z00 (z8a (z89 hr.units) z37 (QE.wk (zd2 (z00 (qv 5) (z00 (qv 2) z04)))) (zf5 zou zjh rfl T.int boot_int (z00 (zd1 (z4v hr.units) z4w (qv 5) (qv 1) (z0g _)) z04))) (z00 (qv 6) z04)))) z04))))
   (z0h (z27 (z6e (z5n rfl hr.units) z44 rfl T.sorted boot_sorted (z00 (qv 3) z04))))))
theorem z8r {P:Program} {w:World} {K:Frag} {mg:Str->Option Value} {base:Heap} {f:Addr} {fd:FuncData} (F:Fun K "overturned" "overturned" z1l f fd) (T:Txt mg) (G_add_arrow:z35 P w K mg base "add_arrow" ["flow","start","end","many"] 1 (spU K z16 4)) (G_net_from:z35 P w K mg base "net_from" ["flow"] 1 (spD K mg true z1k 1)):FnOk P w K mg base (CX1 P w) 2 f fd ["net","point"] (spD K mg true z0b 2):=
 fnD (k:=1) F sc_overturned rfl rfl fun cdv A outer s H E hr=>
  (z05 (z0t (i:=2) sc_overturned.nd rfl (Or.inl rfl) zfv)
   (z05 (z71 PassesOwn.leaving rfl (z5z (qv 0)) (g_t rfl (z1h (i:=3) sc_overturned.nd rfl (Or.inl rfl) (z1h (i:=4) sc_overturned.nd rfl (Or.inl rfl) (z1h (i:=5) sc_overturned.nd rfl (Or.inl rfl) z7l))))
    (z0h (z7k (QW.pt (zaq (z19 (z4v hr.units) z4w (qv 1) (qv 3) (z0g _)) (z8d (z19 (z4v hr.units) z4w (qv 1) (qv 4) (z0g _)))))
    (z0h (zms (i:=2) G_add_arrow hr rfl (pw 2) (z00 (qv 4) (z00 (qv 3) (z00 (qv 5) z04)))))
    (z0h (zms (i:=2) G_add_arrow hr rfl (pw 2) (z00 (qv 3) (z00 (qv 4) (z00 (qv 5) z04))))))))
   (z05 (z71 PassesOwn.leaving rfl (z5z (QE.wk (zus (z2y (caps:=["point"]) (ix:=[1]) rfl rfl) (by decide +kernel) rfl rfl rfl (z5z (qv 0)) (.one fun _ _ _=>(z19 (z4v hr.units) z4w (qv 1) (qv 3) (z0g _))) (fun _ _ _=>(z1g (z00 (qv 0) (z00 (qv 2) z04))))))) (g_t rfl (z1h (i:=6) sc_overturned.nd rfl (Or.inl rfl) (z1h (i:=7) sc_overturned.nd rfl (Or.inl rfl) z7l)))
    (z0h (z71 PassesOwn.leaving rfl (z5z (QE.wk (zus (z2y (caps:=["point"]) (ix:=[1]) rfl rfl) (by decide +kernel) rfl rfl rfl (z5z (qv 0)) (.one fun _ _ _=>(z19 (z4v hr.units) z4w (qv 0) (qv 3) (z0g _))) (fun _ _ _=>(z1g (z00 (qv 1) (z00 (qv 2) z04))))))) (g_t rfl (z1h (i:=8) sc_overturned.nd rfl (Or.inl rfl) (z1h (i:=9) sc_overturned.nd rfl (Or.inl rfl) z7l)))
    (z0h (zms (i:=2) G_add_arrow hr rfl (pw 2) (z00 (qv 6) (z00 (qv 8) (z00 (z0c z4z z3a (qv 7) (qv 9)) z04))))))))
   (z0h (z27 (z1p z5a G_net_from hr rfl (z00 (qv 2) z04)))))))
theorem zdk {P:Program} {w:World} {K:Frag} {mg:Str->Option Value} {base:Heap} {f:Addr} {fd:FuncData} (F:Fun K "renamed" "renamed" z33 f fd) (T:Txt mg) (G_called:z35 P w K mg base "called" ["point","old","new"] 1 (spD K mg false z3c 3)):FnOk P w K mg base (CX1 P w) 2 f fd ["net","old","new"] (spD K mg true z1q 3):=
 fnD (k:=1) F zdj rfl rfl fun cdv A outer s H E hr=>
  (z0h (z27 (z6e (z5n rfl hr.units) z44 rfl T.sorted boot_sorted (z00 (QE.wk (zus (z2y (caps:=["old","new"]) (ix:=[1,2]) rfl rfl) (by decide +kernel) rfl rfl rfl (z5z (qv 0)) .nil (fun _ _ _=>(z1g (z00 (z1p zuh G_called hr rfl (z00 (qv 0) (z00 (qv 3) (z00 (qv 4) z04)))) (z00 (z1p zuh G_called hr rfl (z00 (qv 1) (z00 (qv 3) (z00 (qv 4) z04)))) (z00 (qv 2) z04))))))) z04))))
theorem z74 {P:Program} {w:World} {K:Frag} {mg:Str->Option Value} {base:Heap} {f:Addr} {fd:FuncData} (F:Fun K "_law_points" "_law_points" z1b f fd) (T:Txt mg) (G__law_pick:z35 P w K mg base "_law_pick" ["_law_script","_law_k"] 1 (spD K mg false z0j 2)):FnOk P w K mg base (CX1 P w) 2 f fd ["_law_script"] (spD K mg true z1a 1):=
 fnD (k:=1) F sc__law_points rfl rfl fun cdv A outer s H E hr=>
  (z05 (z0t (i:=1) sc__law_points.nd rfl (Or.inl rfl) (z1p z5a G__law_pick hr rfl (z00 (qv 0) (z00 z06 z04))))
   (z05 (z0t (i:=2) sc__law_points.nd rfl (Or.inl rfl) z06)
   (z05 (z7k (z19 (z4v hr.units) z4w (z0c z4f z2k (qv 1) z06) z06 (z0g _))
    (z0h (z0t (i:=2) sc__law_points.nd rfl (Or.inl rfl) (z0c z82 z4u z06 z06)))
    z3k)
   (z05 (z0t (i:=3) sc__law_points.nd rfl (Or.inl rfl) (zd2 z04))
   (z05 (z0t (i:=4) sc__law_points.nd rfl (Or.inl rfl) (z0c z4f z2k (qv 1) z06))
   (z05 (z71 PassesOwn.leaving rfl (zxs rfl T.range (z00 (z0c z56 z1t z06 (z0c z4f z2k (z0c z9b z9g (qv 1) z06) z06)) z04)) (g_n (i:=5) sc__law_points.nd rfl (Or.inl rfl))
    (z05 (z0t (i:=4) sc__law_points.nd rfl (Or.inl rfl) (z0c z4f z2k (z0c z56 z1t (z0c z56 z1t (z0c z4z z3a (qv 4) z06) (z0c z4z z3a (qv 5) (qv 5))) z06) z06))
   (z05 (z0t (i:=6) sc__law_points.nd rfl (Or.inl rfl) (z0c z4f z2k (z0c z56 z1t (z0c z4z z3a (z0c z4z z3a (qv 4) (qv 4)) (z0c z9b z9g (qv 2) z06)) (qv 4)) (qv 2)))
   (z05 (z0t (i:=7) sc__law_points.nd rfl (Or.inl rfl) (z0c z4f z2k (z0c z4z z3a (z0c z4f z2k (z0c z4z z3a (qv 4) z06) z06) (z0c z9b z9g (qv 2) z06)) (qv 2)))
   (z0h (z7k (QW.pt (zpj (z19 (z5b hr.units) z5c (qv 6) (qv 7) (z0g _)) (zjf (z19 (z88 hr.units) zd0 (z1g (z00 (z6e (zja rfl) zf7 rfl T.«min» boot_min (z00 (qv 6) (z00 (qv 7) z04))) (z00 (z6e (z7a rfl) z5e rfl T.«max» boot_max (z00 (qv 6) (z00 (qv 7) z04))) z04))) (qv 3) (by with_unfolding_all rfl)))))
    (z0h (zat PySem.F.plainAttrs_list PySem.F.slot_list_append PySem.F.type_list_append z24 z6g z4h (pw 3) (z00 (z1g (z00 (z6e (zja rfl) zf7 rfl T.«min» boot_min (z00 (qv 6) (z00 (qv 7) z04))) (z00 (z6e (z7a rfl) z5e rfl T.«max» boot_max (z00 (qv 6) (z00 (qv 7) z04))) z04))) z04)))
    z3k))))))
   (z05 (z7k (z19 (z88 hr.units) zd0 (z1g (z00 z06 (z00 z06 z04))) (qv 3) (by with_unfolding_all rfl))
    (z0h (zat PySem.F.plainAttrs_list PySem.F.slot_list_append PySem.F.type_list_append z24 z6g z4h (pw 3) (z00 (z1g (z00 z06 (z00 z06 z04))) z04)))
    z3k)
   (z05 (z7k (z19 (z88 hr.units) zd0 (z1g (z00 z06 (z00 z06 z04))) (qv 3) (by with_unfolding_all rfl))
    (z0h (zat PySem.F.plainAttrs_list PySem.F.slot_list_append PySem.F.type_list_append z24 z6g z4h (pw 3) (z00 (z1g (z00 z06 (z00 z06 z04))) z04)))
    z3k)
   (z0h (zjl (i:=3)))))))))))
theorem z75 {P:Program} {w:World} {K:Frag} {mg:Str->Option Value} {base:Heap} {f:Addr} {fd:FuncData} (F:Fun K "_law_is_net" "_law_is_net" z1c f fd) (T:Txt mg) (G__law_is_number:z35 P w K mg base "_law_is_number" ["_law_found"] 1 (spD K mg false z0m 1)):FnOk P w K mg base (CX1 P w) 2 f fd ["_law_found"] (spD K mg false z07 1):=
 fnD (k:=1) F sc__law_is_net rfl rfl fun cdv A outer s H E hr=>
  (z05 (z7k (QW.pt (zaq (z8c (z8b (zhx rfl T.isinstance boot_isinstance (qv 0) (z7x (v:=.ty "list") rfl T.list boot_list rfl)))) (z8d (z19 (z5b hr.units) z5c (qv 0) (QE.wk (z6e (z5n rfl hr.units) z44 rfl T.sorted boot_sorted (z00 (qv 0) z04))) (z0g _)))))
    (z0h (z27 zdn))
    z3k)
   (z05 (z0t (i:=1) sc__law_is_net.nd rfl (Or.inl rfl) (zd2 z04))
   (z05 (z71 PassesOwn.leaving rfl (z5z (qv 0)) (g_n (i:=2) sc__law_is_net.nd rfl (Or.inl rfl))
    (z05 (z7k (QW.pt (zaq (z8c (z8b (zhx rfl T.isinstance boot_isinstance (qv 2) (z7x (v:=.ty "tuple") rfl T.tuple boot_tuple rfl)))) (zaq (z19 (z5b hr.units) z5c (z6e z7i z7j rfl T.len PySem.boot_len (z00 (qv 2) z04)) z06 (z0g _)) (zaq (z8c (z8b (z1p z5a G__law_is_number hr rfl (z00 (z8a (z89 hr.units) z37 (qv 2) z06) z04)))) (z8d (z19 ztq zf1 (z8a (z89 hr.units) z37 (qv 2) z06) z06 (z0g _)))))))
    (z0h (z27 zdn))
    z3k)
   (z05 (z0t (i:=3) sc__law_is_net.nd rfl (Or.inl rfl) (zd2 (z00 (z8a (z89 hr.units) z37 (qv 2) z06) (z00 (z8a (z89 hr.units) z37 (qv 2) z06) z04))))
   (z05 (z7k (QW.pt (zaq (z19 (z4v hr.units) z4w (z8a (z89 hr.units) z37 (qv 2) z06) (z8a (z89 hr.units) z37 (qv 2) z06) (z0g _)) (z8d (z19 (zlm hr.units) zd0 (QE.wk (z6e (z5n rfl hr.units) z44 rfl T.sorted boot_sorted (z00 (qv 3) z04))) (qv 1) (by with_unfolding_all rfl)))))
    (z0h (z27 zdn))
    z3k)
   (z0h (zat PySem.F.plainAttrs_list PySem.F.slot_list_append PySem.F.type_list_append z24 z6g z4h (pw 1) (z00 (QE.wk (z6e (z5n rfl hr.units) z44 rfl T.sorted boot_sorted (z00 (qv 3) z04))) z04)))))))
   (z0h (z27 zdn)))))
theorem z9z {P:Program} {w:World} {K:Frag} {mg:Str->Option Value} {base:Heap} {f:Addr} {fd:FuncData} (F:Fun K "_law_fits" "_law_fits" z1x f fd) (T:Txt mg) (G__law_flows:z35 P w K mg base "_law_flows" ["_law_net_here"] 1 (spD K mg true z17 1)) (G__law_is_net:z35 P w K mg base "_law_is_net" ["_law_found"] 2 (spD K mg false z07 1)):FnOk P w K mg base (CX1 P w) 3 f fd ["_law_found","_law_net_here","_law_points_here","_law_p"] (spD K mg false z1u 4):=
 fnD (k:=2) F sc__law_fits rfl rfl fun cdv A outer s H E hr=>
  (z05 (z7k (z8c (z8b (z1p z5a G__law_is_net hr rfl (z00 (qv 0) z04))))
    (z0h (z27 zdn))
    z3k)
   (z05 (z7k (z8c (z8b (z6e (ztx rfl) zpm rfl T.«all» boot_all (z00 (QE.wk (zxu (z2y (caps:=["_law_points_here"]) (ix:=[2]) rfl rfl) (by decide +kernel) rfl (z5z (qv 0)) .nil (fun _ _ _=>(zlp (zd1 (zlm hr.units) zd0 (z8a (z89 hr.units) z37 (qv 0) z06) (qv 1) (by with_unfolding_all rfl)) (zlq (zd1 (zlm hr.units) zd0 (z8a (z89 hr.units) z37 (qv 0) z06) (qv 1) (by with_unfolding_all rfl))))))) z04))))
    (z0h (z27 zdn))
    z3k)
   (z05 (z0t (i:=4) sc__law_fits.nd rfl (Or.inl rfl) (z1p z5a G__law_flows hr rfl (z00 (qv 1) z04)))
   (z05 (z0t (i:=5) sc__law_fits.nd rfl (Or.inl rfl) (z1p z5a G__law_flows hr rfl (z00 (qv 0) z04)))
   (z05 (z71 PassesOwn.leaving rfl (z5z (qv 2)) (g_n (i:=6) sc__law_fits.nd rfl (Or.inl rfl))
    (z0h (z71 PassesOwn.leaving rfl (z5z (qv 2)) (g_n (i:=7) sc__law_fits.nd rfl (Or.inl rfl))
    (z05 (z0t (i:=8) sc__law_fits.nd rfl (Or.inl rfl) (z5t hr.units (qv 4) (z1g (z00 (qv 6) (z00 (qv 7) z04))) z06))
   (z05 (z7k (QW.pt (zaq (z19 (z4v hr.units) z4w (qv 6) (qv 3) (z0g _)) (z8d (z19 (z4v hr.units) z4w (qv 7) (qv 3) (z0g _)))))
    (z0h (z0t (i:=8) sc__law_fits.nd rfl (Or.inl rfl) (zup zl1 zf2 (qv 8))))
    (z05 (z0t (i:=8) sc__law_fits.nd rfl (Or.inl rfl) (z0c z56 z1t (qv 8) (z0c z4z z3a (z6e (z7a rfl) z5e rfl T.«max» boot_max (z00 z06 (z00 (z5t hr.units (qv 4) (z1g (z00 (qv 6) (z00 (qv 3) z04))) z06) z04))) (z6e (z7a rfl) z5e rfl T.«max» boot_max (z00 z06 (z00 (z5t hr.units (qv 4) (z1g (z00 (qv 3) (z00 (qv 7) z04))) z06) z04))))))
   (z0h (z0t (i:=8) sc__law_fits.nd rfl (Or.inl rfl) (z0c zol zjd (qv 8) (z0c z4z z3a (z6e (z7a rfl) z5e rfl T.«max» boot_max (z00 z06 (z00 (z5t hr.units (qv 4) (z1g (z00 (qv 7) (z00 (qv 3) z04))) z06) z04))) (z6e (z7a rfl) z5e rfl T.«max» boot_max (z00 z06 (z00 (z5t hr.units (qv 4) (z1g (z00 (qv 3) (z00 (qv 6) z04))) z06) z04)))))))))
   (z0h (z7k (QW.pt (zpj (z19 (z5b hr.units) z5c (qv 6) (qv 7) (z0g _)) (zjf (z19 (z5b hr.units) z5c (z5t hr.units (qv 5) (z1g (z00 (qv 6) (z00 (qv 7) z04))) z06) (qv 8) (z0g _)))))
    (z0h (z27 zdn))
    z3k)))))))
   (z0h (z27 zdn)))))))
theorem zb1 {P:Program} {w:World} {K:Frag} {mg:Str->Option Value} {base:Heap} {f:Addr} {fd:FuncData} (F:Fun K "_law_own" "_law_own" z2i f fd) (T:Txt mg) (G__law_is_net:z35 P w K mg base "_law_is_net" ["_law_found"] 2 (spD K mg false z07 1)) (G_overturned:z35 P w K mg base "overturned" ["net","point"] 2 (spD K mg true z0b 2)) (G_renamed:z35 P w K mg base "renamed" ["net","old","new"] 2 (spD K mg true z1q 3)):FnOk P w K mg base (CX1 P w) 3 f fd ["_law_net_here","_law_apart","_law_other"] (spD K mg false z2f 3):=
 fnD (k:=2) F sc__law_own rfl rfl fun cdv A outer s H E hr=>
  (z05 (z0t (i:=3) sc__law_own.nd rfl (Or.inl rfl) (zf5 zar zas rfl T.list boot_list (z00 (qv 0) z04)))
   (z05 (z0t (i:=4) sc__law_own.nd rfl (Or.inl rfl) (z1p z5a G_overturned hr rfl (z00 (qv 3) (z00 (qv 1) z04))))
   (z05 (z0t (i:=5) sc__law_own.nd rfl (Or.inl rfl) (z1p z5a G_renamed hr rfl (z00 (qv 3) (z00 (qv 1) (z00 (qv 2) z04)))))
   (z05 (z7k (QW.pt (zaq (z8c (z8b (z1p z5a G__law_is_net hr rfl (z00 (qv 4) z04)))) (zaq (z19 (z5b hr.units) z5c (qv 4) (qv 0) (z0g _)) (zaq (z8c (z8b (z1p z5a G__law_is_net hr rfl (z00 (qv 5) z04)))) (z8d (z19 (z5b hr.units) z5c (qv 5) (qv 0) (z0g _)))))))
    (z0h (z27 zdn))
    z3k)
   (z05 (zat PySem.F.plainAttrs_list PySem.F.slot_list_append PySem.F.type_list_append z24 z6g z4h (pw 4) (z00 (z1g (z00 (qv 1) (z00 (qv 2) (z00 z06 z04)))) z04))
   (z05 (zat PySem.F.plainAttrs_list PySem.F.slot_list_append PySem.F.type_list_append z24 z6g z4h (pw 5) (z00 (z1g (z00 (qv 2) (z00 (qv 1) (z00 z06 z04)))) z04))
   (z0h (z27 (zd1 (z4v hr.units) z4w (qv 3) (qv 0) (z0g _))))))))))
theorem za0 {P:Program} {w:World} {K:Frag} {mg:Str->Option Value} {base:Heap} {f:Addr} {fd:FuncData} (F:Fun K "_law_step" "_law_step" z1y f fd) (T:Txt mg) (G__law_fits:z35 P w K mg base "_law_fits" ["_law_found","_law_net_here","_law_points_here","_law_p"] 3 (spD K mg false z1u 4)) (G_overturned:z35 P w K mg base "overturned" ["net","point"] 2 (spD K mg true z0b 2)):FnOk P w K mg base (CX1 P w) 4 f fd ["_law_net_here","_law_points_here","_law_p"] (spD K mg false z1j 3):=
 fnD (k:=3) F sc__law_step rfl rfl fun cdv A outer s H E hr=>
  (z05 (z0t (i:=3) sc__law_step.nd rfl (Or.inl rfl) (zf5 zar zas rfl T.list boot_list (z00 (qv 0) z04)))
   (z05 (z0t (i:=4) sc__law_step.nd rfl (Or.inl rfl) (z1p z5a G_overturned hr rfl (z00 (qv 3) (z00 (qv 2) z04))))
   (z05 (z7k (QW.pt (zaq (z8c (z8b (z1p z5a G__law_fits hr rfl (z00 (qv 4) (z00 (qv 0) (z00 (qv 1) (z00 (qv 2) z04))))))) (z8d (z19 (z5b hr.units) z5c (qv 3) (qv 0) (z0g _)))))
    (z0h (z27 zlo))
    z3k)
   (z0h (z27 (qv 4))))))
theorem zs6 {P:Program} {w:World} {K:Frag} {mg:Str->Option Value} {base:Heap} {f:Addr} {fd:FuncData} (F:Fun K "law" "law" z8p f fd) (T:Txt mg) (G__law_is_net:z35 P w K mg base "_law_is_net" ["_law_found"] 2 (spD K mg false z07 1)) (G__law_net:z35 P w K mg base "_law_net" ["_law_cells","_law_points_here"] 1 (spD K mg true z2e 2)) (G__law_own:z35 P w K mg base "_law_own" ["_law_net_here","_law_apart","_law_other"] 3 (spD K mg false z2f 3)) (G__law_pick:z35 P w K mg base "_law_pick" ["_law_script","_law_k"] 1 (spD K mg false z0j 2)) (G__law_points:z35 P w K mg base "_law_points" ["_law_script"] 2 (spD K mg true z1a 1)) (G__law_step:z35 P w K mg base "_law_step" ["_law_net_here","_law_points_here","_law_p"] 4 (spD K mg false z1j 3)) (G__law_swapped:z35 P w K mg base "_law_swapped" ["_law_net_here","_law_old","_law_new"] 1 (spD K mg true z0v 3)) (G_overturned:z35 P w K mg base "overturned" ["net","point"] 2 (spD K mg true z0b 2)) (G_renamed:z35 P w K mg base "renamed" ["net","old","new"] 2 (spD K mg true z1q 3)):FnOk P w K mg base (CX1 P w) 5 f fd ["_law_script"] (spD K mg false zdi 1):=
 fnD (k:=4) F sc_law rfl rfl fun cdv A outer s H E hr=>
  (z05 (z0t (i:=1) sc_law.nd rfl (Or.inl rfl) (z1p z5a G__law_points hr rfl (z00 (qv 0) z04)))
   (z05 (z0t (i:=2) sc_law.nd rfl (Or.inl rfl) (z1p z5a G__law_net hr rfl (z00 (QE.wk (zxr zkv zls (qv 0) (zwr z06) (zwr z06))) (z00 (qv 1) z04))))
   (z05 (z0t (i:=3) sc_law.nd rfl (Or.inl rfl) (z8a (z89 hr.units) z37 (qv 1) (z0c z4f z2k (z1p z5a G__law_pick hr rfl (z00 (qv 0) (z00 z06 z04))) (z6e z7i z7j rfl T.len PySem.boot_len (z00 (qv 1) z04)))))
   (z05 (z0t (i:=4) sc_law.nd rfl (Or.inl rfl) (z8a (z89 hr.units) z37 (qv 1) (z0c z4f z2k (z1p z5a G__law_pick hr rfl (z00 (qv 0) (z00 z06 z04))) (z6e z7i z7j rfl T.len PySem.boot_len (z00 (qv 1) z04)))))
   (z05 (z0t (i:=5) sc_law.nd rfl (Or.inl rfl) (z1g (z00 (z0c z82 z4u z06 z06) (z00 (z0c z56 z1t (z0c z56 z1t (z0c z82 z4u z06 z06) z06) (z0c z4f z2k (z1p z5a G__law_pick hr rfl (z00 (qv 0) (z00 z06 z04))) (z0c z82 z4u z06 z06))) z04))))
   (z05 (z7k (z19 (z4v hr.units) z4w (z0c z4f z2k (z1p z5a G__law_pick hr rfl (z00 (qv 0) (z00 z06 z04))) z06) z06 (z0g _))
    (z0h (z0t (i:=4) sc_law.nd rfl (Or.inl rfl) (z1g (z00 (z0c z82 z4u z06 z06) (z00 (z0c z56 z1t (z0c z82 z4u z06 z06) z06) z04)))))
    z3k)
   (z05 (z0t (i:=6) sc_law.nd rfl (Or.inl rfl) (z1p z5a G__law_step hr rfl (z00 (qv 2) (z00 (qv 1) (z00 (qv 3) z04)))))
   (z05 (z7k (z19 zj6 zjq (qv 6) zlo (z0g _))
    (z0h (z27 zdn))
    z3k)
   (z05 (z0t (i:=7) sc_law.nd rfl (Or.inl rfl) (z1p z5a G__law_step hr rfl (z00 (qv 6) (z00 (qv 1) (z00 (qv 4) z04)))))
   (z05 (z7k (QW.pt (zaq (z19 zj6 zjq (qv 7) zlo (z0g _)) (zaq (z19 (z5b hr.units) z5c (QE.wk (z1p z5a G_overturned hr rfl (z00 (qv 7) (z00 (qv 4) z04)))) (qv 6) (z0g _)) (z8d (z19 (z5b hr.units) z5c (QE.wk (z1p z5a G_overturned hr rfl (z00 (qv 6) (z00 (qv 3) z04)))) (qv 2) (z0g _))))))
    (z0h (z27 zdn))
    z3k)
   (z05 (z0t (i:=8) sc_law.nd rfl (Or.inl rfl) (zf5 zar zas rfl T.list boot_list (z00 (qv 6) z04)))
   (z05 (z0t (i:=9) sc_law.nd rfl (Or.inl rfl) (z1p z5a G_renamed hr rfl (z00 (qv 8) (z00 (qv 3) (z00 (qv 5) z04)))))
   (z05 (z7k (QW.pt (zaq (z8c (z8b (z1p z5a G__law_is_net hr rfl (z00 (qv 9) z04)))) (zaq (z19 (z5b hr.units) z5c (qv 9) (QE.wk (z1p z5a G__law_swapped hr rfl (z00 (qv 6) (z00 (qv 3) (z00 (qv 5) z04))))) (z0g _)) (z8d (z19 (z5b hr.units) z5c (qv 8) (qv 6) (z0g _))))))
    (z0h (z27 zdn))
    z3k)
   (z0h (z27 (zlp (zd1 (z4v hr.units) z4w (QE.wk (z1p z5a G_renamed hr rfl (z00 (qv 9) (z00 (qv 5) (z00 (qv 3) z04))))) (qv 6) (z0g _)) (zlq (z1p z5a G__law_own hr rfl (z00 (qv 6) (z00 (qv 5) (z00 (z1g (z00 (z0c z82 z4u z06 z06) (z00 (z0c z56 z1t (z0c z82 z4u z06 z06) z06) z04))) z04)))))))))))))))))))))
theorem zgh {us:List Value} (h:us.length=1):∃a0,us=[a0]:=by
 rcases us with _ | ⟨a0,us⟩
 . cases h
 cases us with
 | nil=>exact ⟨a0,rfl⟩
 | cons _ _=>simp at h
theorem zn3 {us:List Value} (h:us.length=2):∃a0 a1,us=[a0,a1]:=by
 rcases us with _ | ⟨a0,us⟩
 . cases h
 rcases us with _ | ⟨a1,us⟩
 . cases h
 cases us with
 | nil=>exact ⟨a0,a1,rfl⟩
 | cons _ _=>simp at h
theorem zgi {us:List Value} (h:us.length=3):∃a0 a1 a2,us=[a0,a1,a2]:=by
 rcases us with _ | ⟨a0,us⟩
 . cases h
 rcases us with _ | ⟨a1,us⟩
 . cases h
 rcases us with _ | ⟨a2,us⟩
 . cases h
 cases us with
 | nil=>exact ⟨a0,a1,a2,rfl⟩
 | cons _ _=>simp at h
theorem zs7 {us:List Value} (h:us.length=4):∃a0 a1 a2 a3,us=[a0,a1,a2,a3]:=by
 rcases us with _ | ⟨a0,us⟩
 . cases h
 rcases us with _ | ⟨a1,us⟩
 . cases h
 rcases us with _ | ⟨a2,us⟩
 . cases h
 rcases us with _ | ⟨a3,us⟩
 . cases h
 cases us with
 | nil=>exact ⟨a0,a1,a2,a3,rfl⟩
 | cons _ _=>simp at h
theorem all_mk {l:PySem.W.OpenLaw} {w:World} {K:Frag} {h:Heap} {mg:Str->Option Value} {fa:Addr} (X:K.In h) (G:h.Ns mainGlobals mg) (hfa:mg "law"=some (.ref fa))
  {f0:Addr} {od0 an0:Option Addr} {sl0:Array (Option Value)} {oc0 kV0 dc0 pm0 cd0 ct0:Value}
  {f1:Addr} {od1 an1:Option Addr} {sl1:Array (Option Value)} {oc1 kV1 dc1 pm1 cd1 ct1:Value}
  {f2:Addr} {od2 an2:Option Addr} {sl2:Array (Option Value)} {oc2 kV2 dc2 pm2 cd2 ct2:Value}
  {f3:Addr} {od3 an3:Option Addr} {sl3:Array (Option Value)} {oc3 kV3 dc3 pm3 cd3 ct3:Value}
  {f4:Addr} {od4 an4:Option Addr} {sl4:Array (Option Value)} {oc4 kV4 dc4 pm4 cd4 ct4:Value}
  {f5:Addr} {od5 an5:Option Addr} {sl5:Array (Option Value)} {oc5 kV5 dc5 pm5 cd5 ct5:Value}
  {f6:Addr} {od6 an6:Option Addr} {sl6:Array (Option Value)} {oc6 kV6 dc6 pm6 cd6 ct6:Value}
  {f7:Addr} {od7 an7:Option Addr} {sl7:Array (Option Value)} {oc7 kV7 dc7 pm7 cd7 ct7:Value}
  {f8:Addr} {od8 an8:Option Addr} {sl8:Array (Option Value)} {oc8 kV8 dc8 pm8 cd8 ct8:Value}
  {f9:Addr} {od9 an9:Option Addr} {sl9:Array (Option Value)} {oc9 kV9 dc9 pm9 cd9 ct9:Value}
  {f10:Addr} {od10 an10:Option Addr} {sl10:Array (Option Value)} {oc10 kV10 dc10 pm10 cd10 ct10:Value}
  {f11:Addr} {od11 an11:Option Addr} {sl11:Array (Option Value)} {oc11 kV11 dc11 pm11 cd11 ct11:Value}
  {f12:Addr} {od12 an12:Option Addr} {sl12:Array (Option Value)} {oc12 kV12 dc12 pm12 cd12 ct12:Value}
  {f13:Addr} {od13 an13:Option Addr} {sl13:Array (Option Value)} {oc13 kV13 dc13 pm13 cd13 ct13:Value}
  {f14:Addr} {od14 an14:Option Addr} {sl14:Array (Option Value)} {oc14 kV14 dc14 pm14 cd14 ct14:Value}
  {f15:Addr} {od15 an15:Option Addr} {sl15:Array (Option Value)} {oc15 kV15 dc15 pm15 cd15 ct15:Value}
  (a0:nsIn K mainGlobals "add_arrow"=some (some (.ref f0))) (l0:K.lookup f0=some ⟨oc0,od0,.func (PySem.W.fnOf "add_arrow" "add_arrow" (z0k z1v) (z0e z1v) (z03 z1v) .none kV0 dc0 pm0 an0 cd0 ct0),sl0⟩) (c0:codeIn K cd0 "add_arrow"=true) (k0:keepIn K (.ref f0)=true)
  (a1:nsIn K mainGlobals "net_from"=some (some (.ref f1))) (l1:K.lookup f1=some ⟨oc1,od1,.func (PySem.W.fnOf "net_from" "net_from" (z0k z2g) (z0e z2g) (z03 z2g) .none kV1 dc1 pm1 an1 cd1 ct1),sl1⟩) (c1:codeIn K cd1 "net_from"=true) (k1:keepIn K (.ref f1)=true)
  (a2:nsIn K mainGlobals "called"=some (some (.ref f2))) (l2:K.lookup f2=some ⟨oc2,od2,.func (PySem.W.fnOf "called" "called" (z0k z45) (z0e z45) (z03 z45) .none kV2 dc2 pm2 an2 cd2 ct2),sl2⟩) (c2:codeIn K cd2 "called"=true) (k2:keepIn K (.ref f2)=true)
  (a3:nsIn K mainGlobals "_law_pick"=some (some (.ref f3))) (l3:K.lookup f3=some ⟨oc3,od3,.func (PySem.W.fnOf "_law_pick" "_law_pick" (z0k z1w) (z0e z1w) (z03 z1w) .none kV3 dc3 pm3 an3 cd3 ct3),sl3⟩) (c3:codeIn K cd3 "_law_pick"=true) (k3:keepIn K (.ref f3)=true)
  (a4:nsIn K mainGlobals "_law_is_number"=some (some (.ref f4))) (l4:K.lookup f4=some ⟨oc4,od4,.func (PySem.W.fnOf "_law_is_number" "_law_is_number" (z0k z0n) (z0e z0n) (z03 z0n) .none kV4 dc4 pm4 an4 cd4 ct4),sl4⟩) (c4:codeIn K cd4 "_law_is_number"=true) (k4:keepIn K (.ref f4)=true)
  (a5:nsIn K mainGlobals "_law_net"=some (some (.ref f5))) (l5:K.lookup f5=some ⟨oc5,od5,.func (PySem.W.fnOf "_law_net" "_law_net" (z0k z2h) (z0e z2h) (z03 z2h) .none kV5 dc5 pm5 an5 cd5 ct5),sl5⟩) (c5:codeIn K cd5 "_law_net"=true) (k5:keepIn K (.ref f5)=true)
  (a6:nsIn K mainGlobals "_law_flows"=some (some (.ref f6))) (l6:K.lookup f6=some ⟨oc6,od6,.func (PySem.W.fnOf "_law_flows" "_law_flows" (z0k z1m) (z0e z1m) (z03 z1m) .none kV6 dc6 pm6 an6 cd6 ct6),sl6⟩) (c6:codeIn K cd6 "_law_flows"=true) (k6:keepIn K (.ref f6)=true)
  (a7:nsIn K mainGlobals "_law_swapped"=some (some (.ref f7))) (l7:K.lookup f7=some ⟨oc7,od7,.func (PySem.W.fnOf "_law_swapped" "_law_swapped" (z0k z10) (z0e z10) (z03 z10) .none kV7 dc7 pm7 an7 cd7 ct7),sl7⟩) (c7:codeIn K cd7 "_law_swapped"=true) (k7:keepIn K (.ref f7)=true)
  (a8:nsIn K mainGlobals "overturned"=some (some (.ref f8))) (l8:K.lookup f8=some ⟨oc8,od8,.func (PySem.W.fnOf "overturned" "overturned" (z0k z1l) (z0e z1l) (z03 z1l) .none kV8 dc8 pm8 an8 cd8 ct8),sl8⟩) (c8:codeIn K cd8 "overturned"=true) (k8:keepIn K (.ref f8)=true)
  (a9:nsIn K mainGlobals "renamed"=some (some (.ref f9))) (l9:K.lookup f9=some ⟨oc9,od9,.func (PySem.W.fnOf "renamed" "renamed" (z0k z33) (z0e z33) (z03 z33) .none kV9 dc9 pm9 an9 cd9 ct9),sl9⟩) (c9:codeIn K cd9 "renamed"=true) (k9:keepIn K (.ref f9)=true)
  (a10:nsIn K mainGlobals "_law_points"=some (some (.ref f10))) (l10:K.lookup f10=some ⟨oc10,od10,.func (PySem.W.fnOf "_law_points" "_law_points" (z0k z1b) (z0e z1b) (z03 z1b) .none kV10 dc10 pm10 an10 cd10 ct10),sl10⟩) (c10:codeIn K cd10 "_law_points"=true) (k10:keepIn K (.ref f10)=true)
  (a11:nsIn K mainGlobals "_law_is_net"=some (some (.ref f11))) (l11:K.lookup f11=some ⟨oc11,od11,.func (PySem.W.fnOf "_law_is_net" "_law_is_net" (z0k z1c) (z0e z1c) (z03 z1c) .none kV11 dc11 pm11 an11 cd11 ct11),sl11⟩) (c11:codeIn K cd11 "_law_is_net"=true) (k11:keepIn K (.ref f11)=true)
  (a12:nsIn K mainGlobals "_law_fits"=some (some (.ref f12))) (l12:K.lookup f12=some ⟨oc12,od12,.func (PySem.W.fnOf "_law_fits" "_law_fits" (z0k z1x) (z0e z1x) (z03 z1x) .none kV12 dc12 pm12 an12 cd12 ct12),sl12⟩) (c12:codeIn K cd12 "_law_fits"=true) (k12:keepIn K (.ref f12)=true)
  (a13:nsIn K mainGlobals "_law_own"=some (some (.ref f13))) (l13:K.lookup f13=some ⟨oc13,od13,.func (PySem.W.fnOf "_law_own" "_law_own" (z0k z2i) (z0e z2i) (z03 z2i) .none kV13 dc13 pm13 an13 cd13 ct13),sl13⟩) (c13:codeIn K cd13 "_law_own"=true) (k13:keepIn K (.ref f13)=true)
  (a14:nsIn K mainGlobals "_law_step"=some (some (.ref f14))) (l14:K.lookup f14=some ⟨oc14,od14,.func (PySem.W.fnOf "_law_step" "_law_step" (z0k z1y) (z0e z1y) (z03 z1y) .none kV14 dc14 pm14 an14 cd14 ct14),sl14⟩) (c14:codeIn K cd14 "_law_step"=true) (k14:keepIn K (.ref f14)=true)
  (a15:nsIn K mainGlobals "law"=some (some (.ref f15))) (l15:K.lookup f15=some ⟨oc15,od15,.func (PySem.W.fnOf "law" "law" (z0k z8p) (z0e z8p) (z03 z8p) .none kV15 dc15 pm15 an15 cd15 ct15),sl15⟩) (c15:codeIn K cd15 "law"=true) (k15:keepIn K (.ref f15)=true)
  (z_all:nsIn K mainGlobals "all"=some none) (z_bool:nsIn K mainGlobals "bool"=some none) (z_enumerate:nsIn K mainGlobals "enumerate"=some none) (z_int:nsIn K mainGlobals "int"=some none) (z_isinstance:nsIn K mainGlobals "isinstance"=some none) (z_len:nsIn K mainGlobals "len"=some none) (z_list:nsIn K mainGlobals "list"=some none) (z_max:nsIn K mainGlobals "max"=some none) (z_min:nsIn K mainGlobals "min"=some none) (z_range:nsIn K mainGlobals "range"=some none) (z_sorted:nsIn K mainGlobals "sorted"=some none) (z_tuple:nsIn K mainGlobals "tuple"=some none) :
  ∃fd:FuncData,(∀(s:Shared) (v:Value),BindsTo s fd ⟨[v],[]⟩ [("_law_script",v)])/\∀base:Heap,K.In base->base.Ns mainGlobals mg->FnOk l.prog w K mg base (CX1 l.prog w) 5 fa fd ["_law_script"] (spL K false zdi 1):=by
 have e:=hfa.symm.trans (mg_of X G a15)
 cases e
 have T:Txt mg:=⟨mg_none_of X G z_all,mg_none_of X G z_bool,mg_none_of X G z_enumerate,mg_none_of X G z_int,mg_none_of X G z_isinstance,mg_none_of X G z_len,mg_none_of X G z_list,mg_none_of X G z_max,mg_none_of X G z_min,mg_none_of X G z_range,mg_none_of X G z_sorted,mg_none_of X G z_tuple⟩
 have F0:=z2a (st:=z1v) l0 c0 k0
 have b0:=F0.binds (ps:=["flow","start","end","many"]) fun _ _ _ _ _ _ us hl=>by obtain ⟨_,_,_,_,rfl⟩:=zs7 hl;rfl
 have F1:=z2a (st:=z2g) l1 c1 k1
 have b1:=F1.binds (ps:=["flow"]) fun _ _ _ _ _ _ us hl=>by obtain ⟨_,rfl⟩:=zgh hl;rfl
 have F2:=z2a (st:=z45) l2 c2 k2
 have b2:=F2.binds (ps:=["point","old","new"]) fun _ _ _ _ _ _ us hl=>by obtain ⟨_,_,_,rfl⟩:=zgi hl;rfl
 have F3:=z2a (st:=z1w) l3 c3 k3
 have b3:=F3.binds (ps:=["_law_script","_law_k"]) fun _ _ _ _ _ _ us hl=>by obtain ⟨_,_,rfl⟩:=zn3 hl;rfl
 have F4:=z2a (st:=z0n) l4 c4 k4
 have b4:=F4.binds (ps:=["_law_found"]) fun _ _ _ _ _ _ us hl=>by obtain ⟨_,rfl⟩:=zgh hl;rfl
 have F5:=z2a (st:=z2h) l5 c5 k5
 have b5:=F5.binds (ps:=["_law_cells","_law_points_here"]) fun _ _ _ _ _ _ us hl=>by obtain ⟨_,_,rfl⟩:=zn3 hl;rfl
 have F6:=z2a (st:=z1m) l6 c6 k6
 have b6:=F6.binds (ps:=["_law_net_here"]) fun _ _ _ _ _ _ us hl=>by obtain ⟨_,rfl⟩:=zgh hl;rfl
 have F7:=z2a (st:=z10) l7 c7 k7
 have b7:=F7.binds (ps:=["_law_net_here","_law_old","_law_new"]) fun _ _ _ _ _ _ us hl=>by obtain ⟨_,_,_,rfl⟩:=zgi hl;rfl
 have F8:=z2a (st:=z1l) l8 c8 k8
 have b8:=F8.binds (ps:=["net","point"]) fun _ _ _ _ _ _ us hl=>by obtain ⟨_,_,rfl⟩:=zn3 hl;rfl
 have F9:=z2a (st:=z33) l9 c9 k9
 have b9:=F9.binds (ps:=["net","old","new"]) fun _ _ _ _ _ _ us hl=>by obtain ⟨_,_,_,rfl⟩:=zgi hl;rfl
 have F10:=z2a (st:=z1b) l10 c10 k10
 have b10:=F10.binds (ps:=["_law_script"]) fun _ _ _ _ _ _ us hl=>by obtain ⟨_,rfl⟩:=zgh hl;rfl
 have F11:=z2a (st:=z1c) l11 c11 k11
 have b11:=F11.binds (ps:=["_law_found"]) fun _ _ _ _ _ _ us hl=>by obtain ⟨_,rfl⟩:=zgh hl;rfl
 have F12:=z2a (st:=z1x) l12 c12 k12
 have b12:=F12.binds (ps:=["_law_found","_law_net_here","_law_points_here","_law_p"]) fun _ _ _ _ _ _ us hl=>by obtain ⟨_,_,_,_,rfl⟩:=zs7 hl;rfl
 have F13:=z2a (st:=z2i) l13 c13 k13
 have b13:=F13.binds (ps:=["_law_net_here","_law_apart","_law_other"]) fun _ _ _ _ _ _ us hl=>by obtain ⟨_,_,_,rfl⟩:=zgi hl;rfl
 have F14:=z2a (st:=z1y) l14 c14 k14
 have b14:=F14.binds (ps:=["_law_net_here","_law_points_here","_law_p"]) fun _ _ _ _ _ _ us hl=>by obtain ⟨_,_,_,rfl⟩:=zgi hl;rfl
 have F15:=z2a (st:=z8p) l15 c15 k15
 refine ⟨PySem.W.fnOf "law" "law" (z0k z8p) (z0e z8p) (z03 z8p) .none kV15 dc15 pm15 an15 cd15 ct15,fun s v=>.of_eq rfl,fun base kb nb=>?_⟩
 have G_add_arrow:z35 l.prog w K mg base "add_arrow" ["flow","start","end","many"] 1 (spU K z16 4):=⟨f0,_,z9x F0 T ,b0,mg_of X G a0,k0⟩
 have G_net_from:z35 l.prog w K mg base "net_from" ["flow"] 1 (spD K mg true z1k 1):=⟨f1,_,zaz F1 T ,b1,mg_of X G a1,k1⟩
 have G_called:z35 l.prog w K mg base "called" ["point","old","new"] 1 (spD K mg false z3c 3):=⟨f2,_,zgg F2 T ,b2,mg_of X G a2,k2⟩
 have G__law_pick:z35 l.prog w K mg base "_law_pick" ["_law_script","_law_k"] 1 (spD K mg false z0j 2):=⟨f3,_,z9y F3 T ,b3,mg_of X G a3,k3⟩
 have G__law_is_number:z35 l.prog w K mg base "_law_is_number" ["_law_found"] 1 (spD K mg false z0m 1):=⟨f4,_,z5r F4 T ,b4,mg_of X G a4,k4⟩
 have G__law_net:z35 l.prog w K mg base "_law_net" ["_law_cells","_law_points_here"] 1 (spD K mg true z2e 2):=⟨f5,_,zb0 F5 T ,b5,mg_of X G a5,k5⟩
 have G__law_flows:z35 l.prog w K mg base "_law_flows" ["_law_net_here"] 1 (spD K mg true z17 1):=⟨f6,_,z8q F6 T ,b6,mg_of X G a6,k6⟩
 have G__law_swapped:z35 l.prog w K mg base "_law_swapped" ["_law_net_here","_law_old","_law_new"] 1 (spD K mg true z0v 3):=⟨f7,_,z6r F7 T ,b7,mg_of X G a7,k7⟩
 have G_overturned:z35 l.prog w K mg base "overturned" ["net","point"] 2 (spD K mg true z0b 2):=⟨f8,_,z8r F8 T G_add_arrow G_net_from,b8,mg_of X G a8,k8⟩
 have G_renamed:z35 l.prog w K mg base "renamed" ["net","old","new"] 2 (spD K mg true z1q 3):=⟨f9,_,zdk F9 T G_called,b9,mg_of X G a9,k9⟩
 have G__law_points:z35 l.prog w K mg base "_law_points" ["_law_script"] 2 (spD K mg true z1a 1):=⟨f10,_,z74 F10 T G__law_pick,b10,mg_of X G a10,k10⟩
 have G__law_is_net:z35 l.prog w K mg base "_law_is_net" ["_law_found"] 2 (spD K mg false z07 1):=⟨f11,_,z75 F11 T G__law_is_number,b11,mg_of X G a11,k11⟩
 have G__law_fits:z35 l.prog w K mg base "_law_fits" ["_law_found","_law_net_here","_law_points_here","_law_p"] 3 (spD K mg false z1u 4):=⟨f12,_,z9z F12 T G__law_flows G__law_is_net,b12,mg_of X G a12,k12⟩
 have G__law_own:z35 l.prog w K mg base "_law_own" ["_law_net_here","_law_apart","_law_other"] 3 (spD K mg false z2f 3):=⟨f13,_,zb1 F13 T G__law_is_net G_overturned G_renamed,b13,mg_of X G a13,k13⟩
 have G__law_step:z35 l.prog w K mg base "_law_step" ["_law_net_here","_law_points_here","_law_p"] 4 (spD K mg false z1j 3):=⟨f14,_,za0 F14 T G__law_fits G_overturned,b14,mg_of X G a14,k14⟩
 exact (zs6 F15 T G__law_is_net G__law_net G__law_own G__law_pick G__law_points G__law_step G__law_swapped G_overturned G_renamed).imp fun _ _ _ _ z=>z.spD
noncomputable def K:Params->Frag:=fun P=>
 (nat_lit 2,(⟨.none,none,(.dict [].toArray 0),#[]⟩)) ::
 (nat_lit 3,(oD [en P "__name__" 165 (vs "law_friezeyard_k56_nets_overturned_back" 226),en P "__doc__" 166 .none,en P "__package__" 167 .none,en P "__loader__" 168 (.builtin "__main__.__loader__#opaque"),en P "__spec__" 169 .none,en P "__annotations__" 170 (.ref 6),en P "__builtins__" 171 (.ref 4),en P "__file__" 173 (vs "/claim/cut.py" 172),en P "__cached__" 174 .none,en P "overturned" 194 (.ref 19),en P "add_arrow" 204 (.ref 26),en P "net_from" 210 (.ref 31),en P "renamed" 216 (.ref 36),en P "called" 225 (.ref 43),en P "_law_pick" 235 (.ref 50),en P "_law_is_number" 242 (.ref 57),en P "_law_points" 256 (.ref 64),en P "_law_net" 270 (.ref 71),en P "_law_is_net" 280 (.ref 78),en P "_law_flows" 291 (.ref 85),en P "_law_fits" 297 (.ref 90),en P "_law_step" 308 (.ref 97),en P "_law_own" 320 (.ref 104),en P "_law_swapped" 333 (.ref 111),en P "law" 349 (.ref 118)] 25)) ::
 (nat_lit 6,(oD [] 0)) ::
 (nat_lit 15,(oT [])) ::
 (nat_lit 18,(⟨(.type "code"),none,(.fields [(vs "overturned" 189),(vs "overturned" 190),(vs "/claim/cut.py" 191),(.int 2 0),(.int 2 0),(.int 0 0),(.int 0 0),(.int 3 0),(.ref 15),(.bool true),(.int 181 0),(.ref 16),.none,.none,.none,(.ref 17),(.int 192 0),(.int 2 0),(vs "/claim/cut.py" 193)].toArray),#[]⟩)) ::
 (nat_lit 19,(oF (top 1) "overturned" "overturned" .none .none .none (vs "friezeyard.nets" 187) none (.ref 18) .none)) ::
 (nat_lit 20,(oT [])) ::
 (nat_lit 22,(oT [(vs "flow" 198),(vs "start" 199),(vs "end" 200),(vs "many" 201)])) ::
 (nat_lit 23,(oT [])) ::
 (nat_lit 25,(⟨(.type "code"),none,(.fields [(vs "add_arrow" 195),(vs "add_arrow" 196),(vs "/claim/cut.py" 197),(.int 13 0),(.int 4 0),(.int 0 0),(.int 0 0),(.int 3 0),(.ref 20),(.bool true),(.int 181 0),(.ref 21),.none,(.ref 22),(.ref 23),(.ref 24),(.int 202 0),(.int 13 0),(vs "/claim/cut.py" 203)].toArray),#[]⟩)) ::
 (nat_lit 26,(oF (top 2) "add_arrow" "add_arrow" .none .none .none (vs "friezeyard.nets" 187) none (.ref 25) .none)) ::
 (nat_lit 27,(oT [])) ::
 (nat_lit 30,(⟨(.type "code"),none,(.fields [(vs "net_from" 205),(vs "net_from" 206),(vs "/claim/cut.py" 207),(.int 18 0),(.int 1 0),(.int 0 0),(.int 0 0),(.int 3 0),(.ref 27),(.bool true),(.int 181 0),(.ref 28),.none,.none,.none,(.ref 29),(.int 208 0),(.int 18 0),(vs "/claim/cut.py" 209)].toArray),#[]⟩)) ::
 (nat_lit 31,(oF (top 3) "net_from" "net_from" .none .none .none (vs "friezeyard.nets" 187) none (.ref 30) .none)) ::
 (nat_lit 32,(oT [])) ::
 (nat_lit 35,(⟨(.type "code"),none,(.fields [(vs "renamed" 211),(vs "renamed" 212),(vs "/claim/cut.py" 213),(.int 22 0),(.int 3 0),(.int 0 0),(.int 0 0),(.int 3 0),(.ref 32),(.bool true),(.int 181 0),(.ref 33),.none,.none,.none,(.ref 34),(.int 214 0),(.int 22 0),(vs "/claim/cut.py" 215)].toArray),#[]⟩)) ::
 (nat_lit 36,(oF (top 4) "renamed" "renamed" .none .none .none (vs "friezeyard.nets" 187) none (.ref 35) .none)) ::
 (nat_lit 37,(oT [])) ::
 (nat_lit 39,(oT [(vs "point" 220),(vs "old" 221),(vs "new" 222)])) ::
 (nat_lit 40,(oT [])) ::
 (nat_lit 42,(⟨(.type "code"),none,(.fields [(vs "called" 217),(vs "called" 218),(vs "/claim/cut.py" 219),(.int 24 0),(.int 3 0),(.int 0 0),(.int 0 0),(.int 3 0),(.ref 37),(.bool true),(.int 181 0),(.ref 38),.none,(.ref 39),(.ref 40),(.ref 41),(.int 223 0),(.int 24 0),(vs "/claim/cut.py" 224)].toArray),#[]⟩)) ::
 (nat_lit 43,(oF (top 5) "called" "called" .none .none .none (vs "friezeyard.nets" 187) none (.ref 42) .none)) ::
 (nat_lit 44,(oT [])) ::
 (nat_lit 46,(oT [(vs "_law_script" 231),(vs "_law_k" 232)])) ::
 (nat_lit 47,(oT [])) ::
 (nat_lit 49,(⟨(.type "code"),none,(.fields [(vs "_law_pick" 228),(vs "_law_pick" 229),(vs "/claim/cut.py" 230),(.int 27 0),(.int 2 0),(.int 0 0),(.int 0 0),(.int 3 0),(.ref 44),(.bool true),(.int 181 0),(.ref 45),.none,(.ref 46),(.ref 47),(.ref 48),(.int 233 0),(.int 27 0),(vs "/claim/cut.py" 234)].toArray),#[]⟩)) ::
 (nat_lit 50,(oF (top 7) "_law_pick" "_law_pick" .none .none .none (vs "law_friezeyard_k56_nets_overturned_back" 226) none (.ref 49) .none)) ::
 (nat_lit 51,(oT [])) ::
 (nat_lit 53,(oT [(vs "_law_found" 239)])) ::
 (nat_lit 54,(oT [])) ::
 (nat_lit 56,(⟨(.type "code"),none,(.fields [(vs "_law_is_number" 236),(vs "_law_is_number" 237),(vs "/claim/cut.py" 238),(.int 31 0),(.int 1 0),(.int 0 0),(.int 0 0),(.int 3 0),(.ref 51),(.bool true),(.int 181 0),(.ref 52),.none,(.ref 53),(.ref 54),(.ref 55),(.int 240 0),(.int 31 0),(vs "/claim/cut.py" 241)].toArray),#[]⟩)) ::
 (nat_lit 57,(oF (top 8) "_law_is_number" "_law_is_number" .none .none .none (vs "law_friezeyard_k56_nets_overturned_back" 226) none (.ref 56) .none)) ::
 (nat_lit 58,(oT [])) ::
 (nat_lit 60,(oT [(vs "_law_script" 246),(vs "_law_cell" 247),(vs "_law_size" 248),(vs "_law_found" 249),(vs "_law_number" 250),(vs "_law_k" 251),(vs "_law_a" 252),(vs "_law_b" 253)])) ::
 (nat_lit 61,(oT [])) ::
 (nat_lit 63,(⟨(.type "code"),none,(.fields [(vs "_law_points" 243),(vs "_law_points" 244),(vs "/claim/cut.py" 245),(.int 33 0),(.int 1 0),(.int 0 0),(.int 0 0),(.int 3 0),(.ref 58),(.bool true),(.int 181 0),(.ref 59),.none,(.ref 60),(.ref 61),(.ref 62),(.int 254 0),(.int 33 0),(vs "/claim/cut.py" 255)].toArray),#[]⟩)) ::
 (nat_lit 64,(oF (top 9) "_law_points" "_law_points" .none .none .none (vs "law_friezeyard_k56_nets_overturned_back" 226) none (.ref 63) .none)) ::
 (nat_lit 65,(oT [])) ::
 (nat_lit 67,(oT [(vs "_law_cells" 260),(vs "_law_points_here" 261),(vs "_law_arrows" 262),(vs "_law_k" 263),(vs "_law_cell" 264),(vs "_law_number" 265),(vs "_law_start" 266),(vs "_law_end" 267)])) ::
 (nat_lit 68,(oT [])) ::
 (nat_lit 70,(⟨(.type "code"),none,(.fields [(vs "_law_net" 257),(vs "_law_net" 258),(vs "/claim/cut.py" 259),(.int 51 0),(.int 2 0),(.int 0 0),(.int 0 0),(.int 3 0),(.ref 65),(.bool true),(.int 181 0),(.ref 66),.none,(.ref 67),(.ref 68),(.ref 69),(.int 268 0),(.int 51 0),(vs "/claim/cut.py" 269)].toArray),#[]⟩)) ::
 (nat_lit 71,(oF (top 10) "_law_net" "_law_net" .none .none .none (vs "law_friezeyard_k56_nets_overturned_back" 226) none (.ref 70) .none)) ::
 (nat_lit 72,(oT [])) ::
 (nat_lit 74,(oT [(vs "_law_found" 274),(vs "_law_seen" 275),(vs "_law_one" 276),(vs "_law_both" 277)])) ::
 (nat_lit 75,(oT [])) ::
 (nat_lit 77,(⟨(.type "code"),none,(.fields [(vs "_law_is_net" 271),(vs "_law_is_net" 272),(vs "/claim/cut.py" 273),(.int 60 0),(.int 1 0),(.int 0 0),(.int 0 0),(.int 3 0),(.ref 72),(.bool true),(.int 181 0),(.ref 73),.none,(.ref 74),(.ref 75),(.ref 76),(.int 278 0),(.int 60 0),(vs "/claim/cut.py" 279)].toArray),#[]⟩)) ::
 (nat_lit 78,(oF (top 11) "_law_is_net" "_law_is_net" .none .none .none (vs "law_friezeyard_k56_nets_overturned_back" 226) none (.ref 77) .none)) ::
 (nat_lit 79,(oT [])) ::
 (nat_lit 81,(oT [(vs "_law_net_here" 284),(vs "_law_flows_here" 285),(vs "_law_start" 286),(vs "_law_end" 287),(vs "_law_many" 288)])) ::
 (nat_lit 82,(oT [])) ::
 (nat_lit 84,(⟨(.type "code"),none,(.fields [(vs "_law_flows" 281),(vs "_law_flows" 282),(vs "/claim/cut.py" 283),(.int 72 0),(.int 1 0),(.int 0 0),(.int 0 0),(.int 3 0),(.ref 79),(.bool true),(.int 181 0),(.ref 80),.none,(.ref 81),(.ref 82),(.ref 83),(.int 289 0),(.int 72 0),(vs "/claim/cut.py" 290)].toArray),#[]⟩)) ::
 (nat_lit 85,(oF (top 12) "_law_flows" "_law_flows" .none .none .none (vs "law_friezeyard_k56_nets_overturned_back" 226) none (.ref 84) .none)) ::
 (nat_lit 86,(oT [])) ::
 (nat_lit 89,(⟨(.type "code"),none,(.fields [(vs "_law_fits" 292),(vs "_law_fits" 293),(vs "/claim/cut.py" 294),(.int 78 0),(.int 4 0),(.int 0 0),(.int 0 0),(.int 3 0),(.ref 86),(.bool true),(.int 181 0),(.ref 87),.none,.none,.none,(.ref 88),(.int 295 0),(.int 78 0),(vs "/claim/cut.py" 296)].toArray),#[]⟩)) ::
 (nat_lit 90,(oF (top 13) "_law_fits" "_law_fits" .none .none .none (vs "law_friezeyard_k56_nets_overturned_back" 226) none (.ref 89) .none)) ::
 (nat_lit 91,(oT [])) ::
 (nat_lit 93,(oT [(vs "_law_net_here" 301),(vs "_law_points_here" 302),(vs "_law_p" 303),(vs "_law_handed" 304),(vs "_law_found" 305)])) ::
 (nat_lit 94,(oT [])) ::
 (nat_lit 96,(⟨(.type "code"),none,(.fields [(vs "_law_step" 298),(vs "_law_step" 299),(vs "/claim/cut.py" 300),(.int 96 0),(.int 3 0),(.int 0 0),(.int 0 0),(.int 3 0),(.ref 91),(.bool true),(.int 181 0),(.ref 92),.none,(.ref 93),(.ref 94),(.ref 95),(.int 306 0),(.int 96 0),(vs "/claim/cut.py" 307)].toArray),#[]⟩)) ::
 (nat_lit 97,(oF (top 14) "_law_step" "_law_step" .none .none .none (vs "law_friezeyard_k56_nets_overturned_back" 226) none (.ref 96) .none)) ::
 (nat_lit 98,(oT [])) ::
 (nat_lit 100,(oT [(vs "_law_net_here" 312),(vs "_law_apart" 313),(vs "_law_other" 314),(vs "_law_handed" 315),(vs "_law_stays" 316),(vs "_law_kept" 317)])) ::
 (nat_lit 101,(oT [])) ::
 (nat_lit 103,(⟨(.type "code"),none,(.fields [(vs "_law_own" 309),(vs "_law_own" 310),(vs "/claim/cut.py" 311),(.int 102 0),(.int 3 0),(.int 0 0),(.int 0 0),(.int 3 0),(.ref 98),(.bool true),(.int 181 0),(.ref 99),.none,(.ref 100),(.ref 101),(.ref 102),(.int 318 0),(.int 102 0),(vs "/claim/cut.py" 319)].toArray),#[]⟩)) ::
 (nat_lit 104,(oF (top 15) "_law_own" "_law_own" .none .none .none (vs "law_friezeyard_k56_nets_overturned_back" 226) none (.ref 103) .none)) ::
 (nat_lit 105,(oT [])) ::
 (nat_lit 107,(oT [(vs "_law_net_here" 324),(vs "_law_old" 325),(vs "_law_new" 326),(vs "_law_swapped_here" 327),(vs "_law_start" 328),(vs "_law_end" 329),(vs "_law_many" 330)])) ::
 (nat_lit 108,(oT [])) ::
 (nat_lit 110,(⟨(.type "code"),none,(.fields [(vs "_law_swapped" 321),(vs "_law_swapped" 322),(vs "/claim/cut.py" 323),(.int 111 0),(.int 3 0),(.int 0 0),(.int 0 0),(.int 3 0),(.ref 105),(.bool true),(.int 181 0),(.ref 106),.none,(.ref 107),(.ref 108),(.ref 109),(.int 331 0),(.int 111 0),(vs "/claim/cut.py" 332)].toArray),#[]⟩)) ::
 (nat_lit 111,(oF (top 16) "_law_swapped" "_law_swapped" .none .none .none (vs "law_friezeyard_k56_nets_overturned_back" 226) none (.ref 110) .none)) ::
 (nat_lit 112,(oT [])) ::
 (nat_lit 114,(oT [(vs "_law_script" 337),(vs "_law_points_here" 338),(vs "_law_net_here" 339),(vs "_law_one" 340),(vs "_law_other" 341),(vs "_law_apart" 342),(vs "_law_first" 343),(vs "_law_second" 344),(vs "_law_handed" 345),(vs "_law_name" 346)])) ::
 (nat_lit 115,(oT [])) ::
 (nat_lit 117,(⟨(.type "code"),none,(.fields [(vs "law" 334),(vs "law" 335),(vs "/claim/cut.py" 336),(.int 116 0),(.int 1 0),(.int 0 0),(.int 0 0),(.int 3 0),(.ref 112),(.bool true),(.int 181 0),(.ref 113),.none,(.ref 114),(.ref 115),(.ref 116),(.int 347 0),(.int 116 0),(vs "/claim/cut.py" 348)].toArray),#[]⟩)) ::
 (nat_lit 118,(oF (top 17) "law" "law" .none .none .none (vs "law_friezeyard_k56_nets_overturned_back" 226) none (.ref 117) .none))::[]
noncomputable def places:List Addr:=[2,3,6,15,18,19,20,22,23,25,26,27,30,31,32,35,36,37,39,40,42,43,44,46,47,49,50,51,53,54,56,57,58,60,61,63,64,65,67,68,70,71,72,74,75,77,78,79,81,82,84,85,86,89,90,91,93,94,96,97,98,100,101,103,104,105,107,108,110,111,112,114,115,117,118]
theorem ziq:∀P,places=(K P).map (·.1):=fun _=>by kernel_rfl
noncomputable def hook:PySem.W.Hook:=PySem.W.kHook K places ziq
noncomputable def q:Program:=PySem.W.view PySem.Challenge.pw_friezeyard_k56_nets_overturned_back [1,2,3,4,5,7,8,9,10,11,12,13,14,15,16,17]
noncomputable def xt (s:Shared):Bool:=PySem.W.xlAt q [] s&&PySem.W.recOk (PySem.W.RowW.records PySem.Challenge.rw_friezeyard_k56_nets_overturned_back.row.toRowW) s
noncomputable def out (w:World) (os:OsState):=outAt PySem.Challenge.pw_friezeyard_k56_nets_overturned_back q [] xt (fun s=>places.map s.heap.get?) 1168 w os
noncomputable def good:=PySem.W.openGood q []
example:((fun (_:Params->Obj) (_:Str)=>true) PySem.W.boot_o_0 (Str.ofString "dull"))=true:=by k_qdec
lay_quick out good
theorem zs8:∀w os,out w os=some (true,good,(K w.params).map fun p=>some p.2):=fun w os=>(congrFun (congrFun PySem.W.Fast.te14426252889091581520 w) os).trans (by rw [PySem.W.Fast.te17317658831375023680];kernel_rfl)
theorem left:PySem.W.LeftO PySem.Challenge.pw_friezeyard_k56_nets_overturned_back q [] xt (PySem.W.Hook.obs hook) (PySem.W.Hook.val hook) 1168:=zn1 (by kernel_rfl) (by kernel_rfl) (fun _=>by kernel_rfl) zs8
end K56
set_option maxHeartbeats 400000
namespace K56
open L2
local macro_rules | `(tactic| walk_at "dz")=>`(tactic| try simp (implicitDefEqProofs:=false) only [z9l,zjr,zut,zfh,zjt,zu9,zal,sNx,zxo,zbl,zuf,zh6,z7c,zua,zju,zpz,zq0,zlv,zjs,zpq,zpr,zpu,zps,zpt,zlt,zpv,zpw,zpx,zpy,zlu,zlw,zbv,zuu,zuv,zuw,zux,zuy,zq1,zq2,zlx,zly,zq3,zqz,zv9,zva,zvb,zr0,zr1,zma,zmb,zi1,zlz,zi2,zi3,zi4,zbw,zqv,z9n,zmf,zq4,zq5,zfi,zq6,zm0,zm1,zm2,zm3,zjc,zbm,Option.bind_some,Bool.and_true,Bool.true_and,zuz,zv0,zv1,zv2,zxv,zxw,eC,eOp,eUn,z09,z01,z18,eCB,z2z,zh5,eIf,eSl,oSo,oNo,zr3,znk,bOr,zcw,z25,zli,eOr,zxj,zxk,zu4,zu5,zp2,zp3,z2b,iL,zmd,zme,zm9,zm7,zm8,R.bind_ok,R.of_some,z36,zt8,zpc,dLe,zui,dGe,zq7,znl,zv3,zjv,zq8,zq9,zqa,zqb,zqc,zqd,zqe,zjw,zjx,zqf,zqg,zqh,zqj,zjy,zqk,zv5,zqw,zv6,zv8,zve,zr5,zr6,zmh,zmi,zc2,zi7,zxx,zqx,zv7,zxy,zxz,zf6,z8e,zvf,zvg,zr8,zr9,zra,zrb,zrc,zvh,zvi,zi8,z0u,zk0,zv4,zql,zqm,zm5,zqn,zqo,zjv,zqp,zfj,zjz,zqq,zqr,zqs,zqt,zqu,zm6,List.map_cons,List.map_nil,List.length_cons,List.length_nil,List.cons_append,List.nil_append,List.replicate_succ,List.replicate_zero,List.getElem?_cons_zero,List.getElem?_cons_succ,List.set_cons_zero,List.set_cons_succ,Option.map_some,Option.getD_some,if_true,if_false,Bool.false_eq_true,Bool.not_true,Bool.not_false,Bool.and_false,Bool.false_and,Bool.or_true,Bool.true_or,Bool.or_false,Bool.false_or,Nat.reduceAdd,Nat.reduceLeDiff,Nat.reduceEqDiff,reduceCtorEq,decide_true,decide_false,Int.reduceEq])
abbrev P2:=Int×Int
abbrev Ky:=P2×P2
abbrev Tm:=Ky×Int
def kD (k:Ky):D:=.tup [T2 k.1,T2 k.2]
def TM (t:Tm):D:=.tup [kD t.1,.int t.2]
def z13 (l:List Tm):List Ky:=l.map (·.1)
def z2w (l:List Tm) (k:Ky):Int:=((l.find? fun t=>decide (t.1=k)).map (·.2)).getD 0
def z4c (l:List Tm) (k:Ky) (v:Int):List Tm:=if k∈z13 l then l.map (fun t=>if t.1=k then (k,v) else t) else l++[(k,v)]
def z1d (a b:List Tm):List Tm:=b.foldl (fun d t=>z4c d t.1 (z2w d t.1+t.2)) a
def tot:List Tm->Ky->Int
 | [],_=>0
 | t::r,k=>(if t.1=k then t.2 else 0)+tot r k
theorem zb2 (k:Ky):z2w [] k=0:=rfl
theorem z23 (t:Tm) (l:List Tm) (k:Ky):z2w (t::l) k=if t.1=k then t.2 else z2w l k:=by
 unfold z2w
 by_cases h:t.1=k
 . rw [List.find?_cons_of_pos (by simpa using h),if_pos h];rfl
 . rw [List.find?_cons_of_neg (by simpa using h),if_neg h]
theorem ztd {l:List Tm} {k:Ky} (h:k∉z13 l):z2w l k=0:=by
 induction l with
 | nil=>rfl
 | cons t l ih=>
  simp only [z13,List.map_cons,List.mem_cons,not_or] at h
  rw [z23,if_neg (fun z=>h.1 z.symm)]
  exact ih h.2
theorem zn4 {l:List Tm} {t:Tm} (hn:(z13 l).Nodup) (h:t∈l):z2w l t.1=t.2:=by
 induction l with
 | nil=>cases h
 | cons x l ih=>
  simp only [z13,List.map_cons,List.nodup_cons] at hn
  rw [z23]
  rcases List.mem_cons.mp h with rfl | h
  . rw [if_pos rfl]
  . rw [if_neg (fun z=>hn.1 (by rw [z];exact List.mem_map.mpr ⟨t,h,rfl⟩))]
    exact ih hn.2 h
theorem zgj {l:List Tm} {k:Ky} (h:z2w l k≠0):(k,z2w l k)∈l:=by
 induction l with
 | nil=>exact absurd rfl h
 | cons x l ih=>
  rw [z23] at h ⊢
  by_cases z:x.1=k
  . rw [if_pos z]
    exact List.mem_cons.mpr (.inl (by rw [<-z]))
  . rw [if_neg z] at h ⊢
    exact List.mem_cons.mpr (.inr (ih h))
theorem za1 {k:Ky} (v:Int) {j:Ky} (hj:j≠k):∀l:List Tm,z2w (l.map (fun t=>if t.1=k then (k,v) else t)) j=z2w l j
 | []=>rfl
 | t::l=>by
  rw [List.map_cons,z23,z23,za1 v hj l]
  by_cases h:t.1=k
  . rw [if_pos h,if_neg (fun z=>hj z.symm),if_neg (fun z=>hj (by rw [<-z,h]))]
  . rw [if_neg h]
theorem za2 {k:Ky} (v:Int):∀l:List Tm,k∈z13 l->z2w (l.map (fun t=>if t.1=k then (k,v) else t)) k=v
 | [],h=>by cases h
 | t::l,h=>by
  rw [List.map_cons,z23]
  by_cases z:t.1=k
  . rw [if_pos z,if_pos rfl]
  . rw [if_neg z,if_neg z]
    refine za2 v l ?_
    rcases List.mem_cons.mp h with q | q
    . exact absurd q.symm z
    . exact q
theorem zdl (l:List Tm) (k:Ky) (v:Int) (j:Ky) (h:k∉z13 l):z2w (l++[(k,v)]) j=if j=k then v else z2w l j:=by
 induction l with
 | nil=>
  rw [List.nil_append,z23,zb2]
  by_cases hj:j=k
  . rw [if_pos hj.symm,if_pos hj]
  . rw [if_neg (fun z=>hj z.symm),if_neg hj]
 | cons t l ih=>
  simp only [z13,List.map_cons,List.mem_cons,not_or] at h
  rw [List.cons_append,z23,z23,ih h.2]
  by_cases hj:j=k
  . subst hj
    rw [if_neg (fun z=>h.1 z.symm),if_pos rfl,if_pos rfl]
  . rw [if_neg hj,if_neg hj]
theorem zb3 (l:List Tm) (k:Ky) (v:Int) (j:Ky):z2w (z4c l k v) j=if j=k then v else z2w l j:=by
 unfold z4c
 by_cases h:k∈z13 l
 . rw [if_pos h]
   by_cases hj:j=k
   . rw [if_pos hj,hj];exact za2 v l h
   . rw [if_neg hj];exact za1 v hj l
 . rw [if_neg h];exact zdl l k v j h
theorem z8s (l:List Tm) (k:Ky) (v:Int):z13 (z4c l k v)=if k∈z13 l then z13 l else z13 l++[k]:=by
 unfold z4c
 by_cases h:k∈z13 l
 . rw [if_pos h,if_pos h]
   unfold z13
   rw [List.map_map]
   apply List.map_congr_left
   intro t _
   show (if t.1=k then (k,v) else t).1=t.1
   split
   . rename_i z;exact z.symm
   . rfl
 . rw [if_neg h,if_neg h]
   simp [z13]
theorem zgk {l:List Tm} (k:Ky) (v:Int) (h:(z13 l).Nodup):(z13 (z4c l k v)).Nodup:=by
 rw [z8s]
 split
 . exact h
 . rename_i hk
   exact List.nodup_append.mpr ⟨h,by simp,fun x hx y hy e=>hk (by rw [List.mem_singleton.mp hy] at e;rw [<-e];exact hx)⟩
theorem z3f (a:List Tm) (t:Tm) (b:List Tm):z1d a (t::b)=z1d (z4c a t.1 (z2w a t.1+t.2)) b:=rfl
theorem zgl:∀(b a:List Tm) (j:Ky),z2w (z1d a b) j=z2w a j+tot b j
 | [],a,j=>by simp [z1d,tot]
 | t::b,a,j=>by
  rw [z3f,zgl b,zb3,tot]
  by_cases h:j=t.1
  . subst h
    rw [if_pos rfl,if_pos rfl];omega
  . rw [if_neg h,if_neg (fun z=>h z.symm)];omega
theorem za3:∀(b a:List Tm),(z13 a).Nodup->(z13 (z1d a b)).Nodup
 | [],a,h=>h
 | t::b,a,h=>by rw [z3f];exact za3 b _ (zgk _ _ h)
theorem zcc:∀(b a:List Tm) (k:Ky),k∈z13 (z1d a b)->k∈z13 a\/k∈z13 b
 | [],a,k,h=>.inl h
 | t::b,a,k,h=>by
  rw [z3f] at h
  simp only [z13,List.map_cons,List.mem_cons]
  rcases zcc b _ k h with h | h
  . rw [z8s] at h
    split at h
    . exact .inl h
    . rcases List.mem_append.mp h with h | h
      . exact .inl h
      . exact .inr (.inl (List.mem_singleton.mp h))
  . exact .inr (.inr h)
def kN (k:Ky):NK:=.t [.t [.i k.1.1,.i k.1.2],.t [.i k.2.1,.i k.2.2]]
theorem za4 {a b:Ky} (h:kN a=kN b):a=b:=by
 obtain ⟨⟨a1,a2⟩,⟨a3,a4⟩⟩:=a
 obtain ⟨⟨b1,b2⟩,⟨b3,b4⟩⟩:=b
 simp only [kN,NK.t.injEq,NK.i.injEq,List.cons.injEq,and_true] at h
 obtain ⟨⟨rfl,rfl⟩,rfl,rfl⟩:=h
 rfl
theorem zgm (k:Ky):nkD (kD k)=some (kN k):=by simp [kD,T2,nkD,znt,kN]
theorem zgn (k:Ky):(kN k).dep<=8:=by simp [kN,NK.dep,z48]
theorem zy4 (k:Ky):z5i (kN k)=kD k:=by simp [kN,z5i,z7p,kD,T2]
theorem z0d {a r:DS->SR} {ρ ρ':DS} (h:a ρ=.nx ρ'):z12 a r ρ=r ρ':=by rw [zjr,h,zjs]
def dnA (l:List Tm):D:=.dn (l.map fun t=>kN t.1) (l.map fun t=>.int t.2)
theorem kmem {k:Ky} {l:List Tm}:kN k∈(l.map fun t=>kN t.1)↔k∈z13 l:=by
 unfold z13
 rw [List.mem_map,List.mem_map]
 constructor
 . rintro ⟨t,h,e⟩;exact ⟨t,h,za4 e⟩
 . rintro ⟨t,h,e⟩;exact ⟨t,h,by rw [e]⟩
theorem zs9 (k:Ky):∀l:List Tm,(valN (l.map fun t=>kN t.1) (l.map fun t=>D.int t.2) (kN k)).getD (.int 0)=.int (z2w l k)
 | []=>rfl
 | t::l=>by
  rw [z23,List.map_cons,List.map_cons]
  unfold valN
  rw [List.zip_cons_cons]
  by_cases h:t.1=k
  . rw [List.find?_cons_of_pos (by simp [h]),if_pos h];rfl
  . rw [List.find?_cons_of_neg (by simpa using fun e=>h (za4 e)),if_neg h]
    exact zs9 k l
theorem zir (l:List Tm) (k:Ky):dGetN (dnA l) (kD k) (.int 0)=some (.int (z2w l k)):=by
 have nk:=zgm k
 unfold kD at nk ⊢
 simp only [dnA,dGetN,nk]
 rw [if_pos (zgn k),zs9]
theorem zsa (k:Ky) (v:Int):∀l:List Tm,List.zipWith (fun k' d'=>if k'=kN k then D.int v else d') (l.map fun t=>kN t.1) (l.map fun t=>D.int t.2)=(l.map fun t=>if t.1=k then (k,v) else t).map fun t=>D.int t.2
 | []=>rfl
 | t::l=>by
  rw [List.map_cons,List.map_cons,List.map_cons,List.map_cons,List.zipWith_cons_cons,zsa k v l]
  congr 1
  by_cases h:t.1=k
  . rw [if_pos (by rw [h]),if_pos h]
  . rw [if_neg (fun e=>h (za4 e)),if_neg h]
theorem zis {l:List Tm} (hl:l.length<=1000) (k:Ky) (v:Int):dSetN (dnA l) (kD k) (.int v)=some (dnA (z4c l k v)):=by
 have nk:=zgm k
 unfold kD at nk ⊢
 simp only [dnA,dSetN,nk]
 rw [if_pos ⟨by rw [List.length_map];omega,zgn k⟩]
 have ek:zcz (l.map fun t=>kN t.1) (kN k)=(z4c l k v).map fun t=>kN t.1:=by
  have:=congrArg (List.map kN) (z8s l k v)
  have e2:∀x:List Tm,(z13 x).map kN=x.map fun t=>kN t.1:=fun x=>by unfold z13;rw [List.map_map];rfl
  rw [e2] at this
  rw [this]
  unfold zcz
  by_cases h:k∈z13 l
  . rw [if_pos (kmem.mpr h),if_pos h,e2]
  . rw [if_neg (fun z=>h (kmem.mp z)),if_neg h,List.map_append,e2];rfl
 have ev:zao (l.map fun t=>kN t.1) (l.map fun t=>D.int t.2) (kN k) (.int v)=(z4c l k v).map fun t=>D.int t.2:=by
  unfold zao z4c
  by_cases h:k∈z13 l
  . rw [if_pos (kmem.mpr h),if_pos h,zsa]
  . rw [if_neg (fun z=>h (kmem.mp z)),if_neg h,List.map_append];rfl
 rw [ek,ev]
theorem zsb:∀l:List Tm,(((l.map fun t=>kN t.1).zip (l.map fun t=>D.int t.2)).map fun p=>D.tup [z5i p.1,p.2])=l.map TM
 | []=>rfl
 | t::l=>by
  rw [List.map_cons,List.map_cons,List.zip_cons_cons,List.map_cons,List.map_cons,zsb l]
  show D.tup [z5i (kN t.1),.int t.2]::_=TM t::_
  rw [zy4];rfl
theorem zgo {l:List Tm} {f:DE->R D} {ρ:DE} (h:f ρ=.ok (dnA l)):zk5 f ρ=.ok (l.map TM):=by
 unfold zk5
 rw [h,R.bind_ok]
 show (if (l.map fun t=>kN t.1).length=(l.map fun t=>D.int t.2).length then R.ok (((l.map fun t=>kN t.1).zip (l.map fun t=>D.int t.2)).map fun p=>D.tup [z5i p.1,p.2]) else .st)=_
 rw [if_pos (by rw [List.length_map,List.length_map]),zsb]
theorem z5v {fd fk fz:DE->R D} {ρ:DE} {ks:List NK} {ds:List D} {es:List D} {v:Int} (h1:fd ρ=.ok (.dn ks ds)) (h2:fk ρ=.ok (.tup es)) (h3:fz ρ=.ok (.int 0)) (h:dGetN (.dn ks ds) (.tup es) (.int 0)=some (.int v)):eGetN fd fk fz ρ=.ok (.int v):=by
 unfold eGetN
 rw [h1,R.bind_ok]
 show ((fk ρ).bind fun k=>(fz ρ).bind fun z=>R.of (dGetN (.dn ks ds) k z))=_
 rw [h2,R.bind_ok,h3,R.bind_ok,h];rfl
theorem z6s (l:List Tm) (k:Ky) (v:Int):(z4c l k v).length<=l.length+1:=by
 unfold z4c
 split
 . rw [List.length_map];omega
 . rw [List.length_append];exact Nat.le_refl _
theorem zgp:∀(b a:List Tm),(z1d a b).length<=a.length+b.length
 | [],a=>Nat.le_refl _
 | t::b,a=>by
  rw [z3f]
  have:=zgp b (z4c a t.1 (z2w a t.1+t.2))
  have:=z6s a t.1 (z2w a t.1+t.2)
  rw [List.length_cons];omega
abbrev PA:=P2×P2×Int
def TA (q:PA):D:=.tup [T2 q.1,T2 q.2.1,.int q.2.2]
def lt2 (a b:P2):Bool:=decide (a.1<b.1\/(a.1=b.1/\a.2<b.2))
theorem zgq (a:P2):lt2 a a=false:=by unfold lt2;rw [decide_eq_false_iff_not];omega
theorem z8t {a b:P2} (h:a≠b) (h2:lt2 a b=false):lt2 b a=true:=by
 unfold lt2 at *
 rw [decide_eq_false_iff_not] at h2
 rw [decide_eq_true_iff]
 have:¬(a.1=b.1/\a.2=b.2):=fun z=>h (Prod.ext z.1 z.2)
 omega
theorem zb4 {a b:P2} (h:lt2 a b=true):lt2 b a=false:=by
 unfold lt2 at *
 rw [decide_eq_true_iff] at h
 rw [decide_eq_false_iff_not]
 omega
def ent (a:PA):Tm:=if lt2 a.1 a.2.1=true then ((a.1,a.2.1),a.2.2) else ((a.2.1,a.1),-a.2.2)
def one (a:PA) (x y:P2):Int:=(if a.1=x/\a.2.1=y then a.2.2 else 0) - (if a.1=y/\a.2.1=x then a.2.2 else 0)
def fl:List PA->P2->P2->Int
 | [],_,_=>0
 | a::r,x,y=>one a x y+fl r x y
theorem zgr (a b:List PA) (x y:P2):fl (a++b) x y=fl a x y+fl b x y:=by
 induction a with
 | nil=>show fl b x y=0+_;omega
 | cons t a ih=>show one t x y+fl (a++b) x y=one t x y+fl a x y+_;rw [ih];omega
theorem z4d (a:List PA) (x y:P2):fl a y x=- fl a x y:=by
 induction a with
 | nil=>rfl
 | cons t a ih=>show one t y x+fl a y x=-(one t x y+fl a x y);rw [ih];unfold one;omega
def Lp (a:PA):Prop:=a.1≠a.2.1
theorem zn5 {a:PA} (ha:Lp a) {x y:P2} (h:lt2 x y=true):(if (ent a).1=(x,y) then (ent a).2 else 0)=one a x y:=by
 unfold ent one
 by_cases q:lt2 a.1 a.2.1=true
 . rw [if_pos q]
   have n:¬(a.1=y/\a.2.1=x):=fun z=>by rw [z.1,z.2,zb4 h] at q;cases q
   rw [if_neg n]
   simp only [Prod.mk.injEq]
   omega
 . rw [if_neg q]
   have q':lt2 a.2.1 a.1=true:=z8t ha (by simpa using q)
   have n:¬(a.1=x/\a.2.1=y):=fun z=>by rw [z.1,z.2] at q;exact q h
   rw [if_neg n]
   simp only [Prod.mk.injEq]
   by_cases c:a.2.1=x/\a.1=y
   . rw [if_pos c,if_pos ⟨c.2,c.1⟩];omega
   . rw [if_neg c,if_neg (fun z=>c ⟨z.2,z.1⟩)];omega
theorem zke {x y:P2} (h:lt2 x y=true):∀N:List PA,(∀a∈N,Lp a)->tot (N.map ent) (x,y)=fl N x y
 | [],_=>rfl
 | a::N,hN=>by
  rw [List.map_cons]
  show (if (ent a).1=(x,y) then (ent a).2 else 0)+tot (N.map ent) (x,y)=one a x y+fl N x y
  rw [zn5 (hN a List.mem_cons_self) h,zke h N fun b hb=>hN b (List.mem_cons_of_mem _ hb)]
def flow (N:List PA):List Tm:=z1d [] (N.map ent)
def there (l:List Tm):List PA:=(l.filter fun t=>decide (t.2 > 0)).map fun t=>(t.1.1,t.1.2,t.2)
def bck (l:List Tm):List PA:=(l.filter fun t=>decide (t.2<0)).map fun t=>(t.1.2,t.1.1,-t.2)
theorem zgs (N:List PA):(z13 (flow N)).Nodup:=za3 _ _ (by simp [z13])
theorem z6t {N:List PA} (hN:∀a∈N,Lp a):∀t∈flow N,lt2 t.1.1 t.1.2=true:=fun t ht=>by
 have:=zcc _ _ _ (List.mem_map.mpr ⟨t,ht,rfl⟩:t.1∈z13 (z1d [] (N.map ent)))
 rcases this with h | h
 . simp [z13] at h
 . obtain ⟨u,hu,e⟩:=List.mem_map.mp h
   obtain ⟨a,ha,rfl⟩:=List.mem_map.mp hu
   rw [<-e]
   unfold ent
   by_cases q:lt2 a.1 a.2.1=true
   . rw [if_pos q];exact q
   . rw [if_neg q];exact z8t (hN a ha) (by simpa using q)
theorem z8u {N:List PA} (hN:∀a∈N,Lp a) {x y:P2} (h:lt2 x y=true):z2w (flow N) (x,y)=fl N x y:=by
 unfold flow
 rw [zgl,zb2,Int.zero_add,zke h N hN]
theorem zcd {N:List PA} (hN:∀a∈N,Lp a) (x y:P2) (k:Int):(x,y,k)∈there (flow N)++bck (flow N)↔0<k/\x≠y/\fl N x y=k:=by
 have nd:=zgs N
 have key:∀t∈flow N,fl N t.1.1 t.1.2=t.2:=fun t ht=>by
  rw [<-z8u hN (z6t hN t ht)]
  exact zn4 nd ht
 constructor
 . intro h
   rcases List.mem_append.mp h with h | h
   . obtain ⟨t,ht,e⟩:=List.mem_map.mp h
     obtain ⟨ht,hp⟩:=List.mem_filter.mp ht
     simp only [Prod.mk.injEq] at e
     have l:=z6t hN t ht
     refine ⟨by rw [<-e.2.2];exact of_decide_eq_true hp,fun z=>?_,by rw [<-e.1,<-e.2.1,<-e.2.2];exact key t ht⟩
     rw [e.1,e.2.1,z,zgq] at l;cases l
   . obtain ⟨t,ht,e⟩:=List.mem_map.mp h
     obtain ⟨ht,hp⟩:=List.mem_filter.mp ht
     simp only [Prod.mk.injEq] at e
     have l:=z6t hN t ht
     have hp':=of_decide_eq_true hp
     refine ⟨by omega,fun z=>?_,?_⟩
     . rw [e.1,e.2.1,z,zgq] at l;cases l
     . rw [<-e.1,<-e.2.1,z4d,key t ht];exact e.2.2
 . rintro ⟨hk,hne,hf⟩
   cases q:lt2 x y with
   | true=>
    have g:=z8u hN q
    rw [hf] at g
    have m:=zgj (l:=flow N) (k:=(x,y)) (by rw [g];omega)
    rw [g] at m
    exact List.mem_append_left _ (List.mem_map.mpr ⟨_,List.mem_filter.mpr ⟨m,decide_eq_true hk⟩,rfl⟩)
   | false=>
    have q':=z8t hne q
    have g:=z8u hN q'
    rw [z4d,hf] at g
    have m:=zgj (l:=flow N) (k:=(y,x)) (by rw [g];omega)
    rw [g] at m
    refine List.mem_append_right _ (List.mem_map.mpr ⟨_,List.mem_filter.mpr ⟨m,decide_eq_true (by show -k<0;omega)⟩,?_⟩)
    show (x,y,- -k)=(x,y,k)
    rw [Int.neg_neg]
theorem zgt {N:List PA} (hN:∀a∈N,Lp a):(there (flow N)++bck (flow N)).Nodup:=by
 have nd:=zgs N
 have d1:(there (flow N)).Nodup:=by
  unfold there List.Nodup
  rw [List.pairwise_map]
  unfold z13 List.Nodup at nd
  rw [List.pairwise_map] at nd
  exact (nd.sublist List.filter_sublist).imp fun {a b} h e=>h (Prod.ext (congrArg (·.1) e) (congrArg (·.2.1) e))
 have d2:(bck (flow N)).Nodup:=by
  unfold bck List.Nodup
  rw [List.pairwise_map]
  unfold z13 List.Nodup at nd
  rw [List.pairwise_map] at nd
  exact (nd.sublist List.filter_sublist).imp fun {a b} h e=>h (Prod.ext (congrArg (·.2.1) e) (congrArg (·.1) e))
 refine List.nodup_append.mpr ⟨d1,d2,fun a ha b hb e=>?_⟩
 subst e
 obtain ⟨t,ht,e1⟩:=List.mem_map.mp ha
 obtain ⟨u,hu,e2⟩:=List.mem_map.mp hb
 have l1:=z6t hN t (List.mem_filter.mp ht).1
 have l2:=z6t hN u (List.mem_filter.mp hu).1
 rw [<-e2] at e1
 simp only [Prod.mk.injEq] at e1
 rw [e1.1,e1.2.1,zb4 l2] at l1
 cases l1
def Ap (a b:PA):Prop:=¬((a.1=b.1/\a.2.1=b.2.1)\/(a.1=b.2.1/\a.2.1=b.1))
structure Simp (W:List PA):Prop where
 ap:W.Pairwise Ap
 lp:∀a∈W,Lp a
 ps:∀a∈W,0<a.2.2
theorem z53 {x y:P2}:∀W:List PA,(∀b∈W,¬((b.1=x/\b.2.1=y)\/(b.1=y/\b.2.1=x)))->fl W x y=0
 | [],_=>rfl
 | b::W,h=>by
  show one b x y+fl W x y=0
  rw [z53 W fun c hc=>h c (List.mem_cons_of_mem _ hc)]
  unfold one
  have:=h b List.mem_cons_self
  rw [if_neg (fun z=>this (.inl z)),if_neg (fun z=>this (.inr z))]
  rfl
theorem Simp.get {W:List PA} (S:Simp W) {a:PA} (h:a∈W):fl W a.1 a.2.1=a.2.2:=by
 obtain ⟨W1,W2,rfl⟩:=List.append_of_mem h
 have ap:=S.ap
 rw [List.pairwise_append,List.pairwise_cons] at ap
 have z:∀b,b∈W1\/b∈W2->¬((b.1=a.1/\b.2.1=a.2.1)\/(b.1=a.2.1/\b.2.1=a.1)):=fun b hb q=>by
  rcases hb with hb | hb
  . exact ap.2.2 b hb a (by simp) (q.imp (fun w=>w) fun w=>⟨w.1,w.2⟩)
  . exact ap.2.1.1 b hb (q.imp (fun w=>⟨w.1.symm,w.2.symm⟩) fun w=>⟨w.2.symm,w.1.symm⟩)
 rw [zgr,z53 W1 fun b hb=>z b (.inl hb)]
 show 0+(one a a.1 a.2.1+fl W2 a.1 a.2.1)=_
 rw [z53 W2 fun b hb=>z b (.inr hb)]
 unfold one
 rw [if_pos ⟨rfl,rfl⟩,if_neg (fun q=>S.lp a (by simp) q.1)]
 omega
theorem Simp.mem {W:List PA} (S:Simp W) (x y:P2) (k:Int):(x,y,k)∈W↔0<k/\x≠y/\fl W x y=k:=by
 constructor
 . intro h
   exact ⟨S.ps _ h,S.lp _ h,S.get h⟩
 . rintro ⟨hk,hne,hf⟩
   apply Classical.byContradiction
   intro hn
   by_cases e:∃b∈W,(b.1=x/\b.2.1=y)\/(b.1=y/\b.2.1=x)
   . obtain ⟨b,hb,q⟩:=e
     have g:=S.get hb
     have p:=S.ps b hb
     rcases q with q | q
     . rw [q.1,q.2,hf] at g
       exact hn (by rw [show (x,y,k)=b from Prod.ext q.1.symm (Prod.ext q.2.symm g)];exact hb)
     . rw [q.1,q.2,z4d,hf] at g
       omega
   . rw [z53 W fun b hb z=>e ⟨b,hb,z⟩] at hf
     omega
theorem Simp.nd {W:List PA} (S:Simp W):W.Nodup:=S.ap.imp fun {a b} h e=>h (.inl ⟨by rw [e],by rw [e]⟩)
theorem zsc {N W:List PA} (hN:∀a∈N,Lp a) (S:Simp W) (h:∀x y,fl N x y=fl W x y):(there (flow N)++bck (flow N)).Perm W:=
 (List.perm_ext_iff_of_nodup (zgt hN) S.nd).mpr fun ⟨x,y,k⟩=>by rw [zcd hN,S.mem,h]
def tch (l:P2) (a:PA):Bool:=decide (l=a.1)||decide (l=a.2.1)
def tb (l:P2) (a:PA):PA:=if tch l a=true then (a.2.1,a.1,a.2.2) else a
def ins (N:List PA) (l:P2):List PA:=N.filter fun a=>decide (a.2.1=l)
def outs (N:List PA) (l:P2):List PA:=N.filter fun a=>decide (a.1=l)
def za5 (N:List PA) (l:P2):List PA:=(ins N l).flatMap fun x=>(outs N l).map fun y=>(x.1,y.2.1,x.2.2 * y.2.2)
def z54 (N:List PA) (l:P2):List PA:=N.map (tb l)++za5 N l
def rnm (a b:P2) (x:P2):P2:=if x=a then b else x
def rnA (a b:P2) (q:PA):PA:=(rnm a b q.1,rnm a b q.2.1,q.2.2)
def Off (l:P2) (a:PA):Prop:=a.1≠l/\a.2.1≠l
theorem zsd {l:P2} {a:PA} (h:Off l a):tb l a=a:=by
 unfold tb tch
 rw [decide_eq_false (fun z=>h.1 z.symm),decide_eq_false (fun z=>h.2 z.symm)]
 rfl
theorem zn6 {l w:P2} {a:PA} (h:Off l a):rnA l w a=a:=by
 unfold rnA rnm
 rw [if_neg h.1,if_neg h.2]
theorem zn7 (a b:P2) (k:Int) (x y:P2):one (b,a,k) x y=- one (a,b,k) x y:=by
 unfold one
 simp only
 have e1:(if b=x/\a=y then k else 0)=if a=y/\b=x then k else 0:=by
  by_cases h:b=x/\a=y
  . rw [if_pos h,if_pos ⟨h.2,h.1⟩]
  . rw [if_neg h,if_neg (fun z=>h ⟨z.2,z.1⟩)]
 have e2:(if b=y/\a=x then k else 0)=if a=x/\b=y then k else 0:=by
  by_cases h:b=y/\a=x
  . rw [if_pos h,if_pos ⟨h.2,h.1⟩]
  . rw [if_neg h,if_neg (fun z=>h ⟨z.2,z.1⟩)]
 rw [e1,e2]
 omega
theorem zgu (q:PA):(TA q).oi=true:=by simp [TA,T2,D.oi,ois]
theorem zce (q:PA):(TA q).dep<=2:=by simp [TA,T2,D.dep,z3v]
theorem zse (p q:PA):(z2n (TA p) (TA q)).isSome=true:=by
 simp only [TA,T2,z2n,z30]
 repeat' split
 all_goals rfl
theorem za6 (l:List PA):z29 (l.map TA)=true:=by
 unfold z29
 rw [zfm _ _ zgu,decide_eq_true (Nat.le_trans (z39 l TA 2 zce) (by decide)),z7n l TA (fun d=>(l.map TA).all fun e=>(z2n d e).isSome) (fun x=>z7n _ _ _ fun y=>zse x y),z7n l TA zh8 (fun x=>rfl)]
 simp
def soA (l:List PA):List PA:=z9o (fun a b=>ltT (TA a) (TA b)) l
theorem z3g (l:List PA):(soA l).Perm l:=z5g _ _
theorem z8v (l:List PA):z31 (l.map TA)=(soA l).map TA:=z6k _ _
theorem z62 (l:List PA):z3p [.lst (l.map TA)]=some (.lst ((soA l).map TA)):=by
 simp only [z3p,za6 l,if_true,z8v]
theorem z3r (l:List PA):z3l (l.map TA)=true:=by
 induction l with
 | nil=>rfl
 | cons a r ih=>simp only [List.map_cons,z3l,ih,Bool.and_true];rfl
theorem eqT (x y:P2):dEq (T2 x) (T2 y)=some (.bl (decide (x=y))):=by
 obtain ⟨a,b⟩:=x
 obtain ⟨c,d⟩:=y
 unfold dEq
 rw [if_pos (by simp [T2,D.pl,pls,D.dep,z3v])]
 simp only [T2,eqD,z46]
 by_cases h:a=c<;>by_cases h2:b=d<;>simp [h,h2]
theorem zvu (a b:P2):zns (T2 a) (T2 b)=some (.bl (lt2 a b)):=by
 obtain ⟨a1,a2⟩:=a
 obtain ⟨b1,b2⟩:=b
 unfold zns
 rw [if_pos (by simp [T2,D.ob,obs,D.dep,z3v])]
 simp only [T2,zk1,z8h,eqD,lt2]
 by_cases h:a1=b1
 . subst h
   by_cases h2:a2=b2
   . subst h2
     simp
   . simp [h2]
 . simp [h]
theorem zgv (neg:Bool) (l l':List Tm) (s e:P2) (k w v:Int) (hv:v=if neg=true then w - k else w+k) (q:zns (T2 (if neg=true then e else s)) (T2 (if neg=true then s else e))=some (.bl (!neg)))
  (e1:dGetN (dnA l) (kD (s,e)) (.int 0)=some (.int w)) (e2:dSetN (dnA l) (kD (s,e)) (.int v)=some (dnA l')) :
  z3b [.ow (dnA l),.im (T2 (if neg=true then e else s)),.im (T2 (if neg=true then s else e)),.im (.int k)]=.nx [.ow (dnA l'),.im (T2 (if neg=true then e else s)),.im (T2 (if neg=true then s else e)),.im (.int k)]:=by
 have n1:(T2 s).noL=true:=z0u s
 have n2:(T2 e).noL=true:=z0u e
 subst hv
 unfold dnA kD at *
 generalize (l.map fun t=>kN t.1)=ks at *
 generalize (l.map fun t=>D.int t.2)=ds at *
 generalize (l'.map fun t=>kN t.1)=ks' at *
 generalize (l'.map fun t=>D.int t.2)=ds' at *
 unfold z3b
 cases neg with
 | false=>
  simp only [Bool.false_eq_true,if_false] at *
  generalize T2 s=S at *
  generalize T2 e=E at *
  walk_at "dz"
  rw [q]
  walk_at "dz"
  rw [z5v rfl rfl rfl e1]
  walk_at "dz"
  rw [n1,n2]
  walk_at "dz"
  rw [e2]
  walk_at "dz"
 | true=>
  simp only [if_true] at *
  generalize T2 s=S at *
  generalize T2 e=E at *
  walk_at "dz"
  rw [q]
  walk_at "dz"
  rw [z5v rfl rfl rfl e1]
  walk_at "dz"
  rw [n1,n2]
  walk_at "dz"
  rw [e2]
  walk_at "dz"
theorem zit (l:List Tm) (hl:l.length<=1000) (s e:P2) (k:Int):z16 [dnA l,T2 s,T2 e,.int k]=.ok (dnA (z4c l (ent (s,e,k)).1 (z2w l (ent (s,e,k)).1+(ent (s,e,k)).2))):=by
 unfold z16
 show (match z3b [.ow (dnA l),.im (T2 s),.im (T2 e),.im (.int k)] with
  | .nx (.ow d'::_)=>R.ok d'
  | _=>R.st)=_
 have q:=zvu s e
 unfold ent
 simp only
 by_cases h:lt2 s e=true
 . rw [if_pos h]
   rw [h] at q
   have st:=zgv false l _ s e k _ _ rfl q (zir l (s,e)) (zis hl (s,e) _)
   simp only [Bool.false_eq_true,if_false] at st
   rw [st]
 . rw [if_neg h]
   rw [show lt2 s e=false by simpa using h] at q
   have st:=zgv true l _ e s k _ _ rfl q (zir l (e,s)) (zis hl (e,s) _)
   simp only [if_true] at st
   rw [st]
   rfl
def ziu (l:List Tm) (a:PA):List Tm:=z4c l (ent a).1 (z2w l (ent a).1+(ent a).2)
theorem zgw (l:List Tm) (a:PA):(ziu l a).length<=l.length+1:=z6s _ _ _
theorem zsf (X:D) (l:P2) (d:List Tm) (hd:d.length<=1000) (a:PA) (s6 s7 s8 s9:Sl) :
  z21 [.im X,.im (T2 l),.ow (dnA d),.im (T2 a.1),.im (T2 a.2.1),.im (.int a.2.2),s6,s7,s8,s9]=.nx [.im X,.im (T2 l),.ow (dnA (ziu d (tb l a))),.im (T2 a.1),.im (T2 a.2.1),.im (.int a.2.2),s6,s7,s8,s9]:=by
 have eq:∀x y:P2,dEq (T2 x) (T2 y)=some (.bl (decide (x=y))):=eqT
 have n1:=z0u a.1
 have n2:=z0u a.2.1
 have q1:=eq l a.1
 have q2:=eq l a.2.1
 unfold z21 zk9
 by_cases h1:l=a.1
 . have e:=zit d hd a.2.1 a.1 a.2.2
   have et:tb l a=(a.2.1,a.1,a.2.2):=by unfold tb tch;rw [decide_eq_true h1];rfl
   rw [et]
   unfold ziu
   rw [decide_eq_true h1] at q1
   generalize dnA (z4c d (ent (a.2.1,a.1,a.2.2)).1 (z2w d (ent (a.2.1,a.1,a.2.2)).1+(ent (a.2.1,a.1,a.2.2)).2))=d' at *
   generalize dnA d=dd at *
   generalize T2 l=L' at *
   generalize T2 a.1=A1 at *
   generalize T2 a.2.1=A2 at *
   walk_at "dz"
   rw [q1]
   walk_at "dz"
   rw [n1,n2]
   walk_at "dz"
   rw [e]
 . by_cases h2:l=a.2.1
   . have e:=zit d hd a.2.1 a.1 a.2.2
     have et:tb l a=(a.2.1,a.1,a.2.2):=by unfold tb tch;rw [decide_eq_true h2,Bool.or_true];rfl
     rw [et]
     unfold ziu
     rw [decide_eq_false h1] at q1
     rw [decide_eq_true h2] at q2
     generalize dnA (z4c d (ent (a.2.1,a.1,a.2.2)).1 (z2w d (ent (a.2.1,a.1,a.2.2)).1+(ent (a.2.1,a.1,a.2.2)).2))=d' at *
     generalize dnA d=dd at *
     generalize T2 l=L' at *
     generalize T2 a.1=A1 at *
     generalize T2 a.2.1=A2 at *
     walk_at "dz"
     rw [q1]
     walk_at "dz"
     rw [q2]
     walk_at "dz"
     rw [n1,n2]
     walk_at "dz"
     rw [e]
   . have e:=zit d hd a.1 a.2.1 a.2.2
     have et:tb l a=a:=zsd ⟨fun z=>h1 z.symm,fun z=>h2 z.symm⟩
     rw [et]
     unfold ziu
     rw [decide_eq_false h1] at q1
     rw [decide_eq_false h2] at q2
     rw [show ent a=ent (a.1,a.2.1,a.2.2) from rfl]
     generalize dnA (z4c d (ent (a.1,a.2.1,a.2.2)).1 (z2w d (ent (a.1,a.2.1,a.2.2)).1+(ent (a.1,a.2.1,a.2.2)).2))=d' at *
     generalize dnA d=dd at *
     generalize T2 l=L' at *
     generalize T2 a.1=A1 at *
     generalize T2 a.2.1=A2 at *
     walk_at "dz"
     rw [q1]
     walk_at "dz"
     rw [q2]
     walk_at "dz"
     rw [n1,n2]
     walk_at "dz"
     rw [e]
theorem zsg {p q:PA} (h:TA p=TA q):p=q:=by
 obtain ⟨⟨a,b⟩,⟨c,d⟩,e⟩:=p
 obtain ⟨⟨f,g⟩,⟨i,j⟩,k⟩:=q
 simp only [TA,T2,D.tup.injEq,List.cons.injEq,D.int.injEq,and_true] at h
 obtain ⟨⟨rfl,rfl⟩,⟨rfl,rfl⟩,rfl⟩:=h
 rfl
theorem z8w {a b:List PA} (p:a.Perm b):soA a=soA b:=by
 refine zc1 (fun _ _=>zsg) (?_:(soA a).map TA=(soA b).map TA)
 rw [<-z8v,<-z8v]
 exact zfl (zfm _ _ zgu) (p.map _)
theorem zsh (d:List Tm) (hd:d.length<=1000):z1k [dnA d]=.ok (.lst ((soA (there d++bck d)).map TA)):=by
 have c1:∀ρ:DE,ρ[0]?=some (some (dnA d))->z2b (zk5 (z02 0)) (bT 2) [] z2r z2s ρ=.ok (.lst ((there d).map TA)):=fun ρ hρ=>by
  unfold z2b
  rw [zgo (l:=d) (by unfold z02;rw [hρ]),R.bind_ok,if_pos (by rw [List.length_map];omega)]
  show ((z3j (bT 2) z2r z2s [] (d.map TM)).bind fun ys=>R.ok (D.lst ys))=_
  rw [z4y (bn:=bT 2) (en:=TM) (bs:=fun t=>[kD t.1,.int t.2]) (p:=fun t=>decide (t.2 > 0)) (g:=fun t=>TA (t.1.1,t.1.2,t.2)) d (fun x _=>rfl) (fun t _=>by unfold z2r;walk_at "dz") (fun t _ _=>by
   unfold z2s kD
   walk_at "dz"
   rfl)]
  rw [R.bind_ok]
  unfold there
  rw [List.map_map]
  rfl
 have c2:∀ρ:DE,ρ[0]?=some (some (dnA d))->z2b (zk5 (z02 0)) (bT 2) [] z2t z2u ρ=.ok (.lst ((bck d).map TA)):=fun ρ hρ=>by
  unfold z2b
  rw [zgo (l:=d) (by unfold z02;rw [hρ]),R.bind_ok,if_pos (by rw [List.length_map];omega)]
  show ((z3j (bT 2) z2t z2u [] (d.map TM)).bind fun ys=>R.ok (D.lst ys))=_
  rw [z4y (bn:=bT 2) (en:=TM) (bs:=fun t=>[kD t.1,.int t.2]) (p:=fun t=>decide (t.2<0)) (g:=fun t=>TA (t.1.2,t.1.1,-t.2)) d (fun x _=>rfl) (fun t _=>by unfold z2t;walk_at "dz") (fun t _ _=>by
   unfold z2u kD
   walk_at "dz"
   rfl)]
  rw [R.bind_ok]
  unfold bck
  rw [List.map_map]
  rfl
 have l1:(there d).length<=1000:=by unfold there;rw [List.length_map];exact Nat.le_trans (List.length_filter_le _ _) hd
 have l2:(bck d).length<=1000:=by unfold bck;rw [List.length_map];exact Nat.le_trans (List.length_filter_le _ _) hd
 have cat:znm (.lst ((there d).map TA)) (.lst ((bck d).map TA))=some (.lst ((there d++bck d).map TA)):=by
  simp only [znm,List.length_map]
  rw [if_pos (by omega),List.map_append]
 have so:=z62 (there d++bck d)
 have k1:=z3r (there d)
 have k2:=z3r (bck d)
 unfold z1k
 rw [z9l,if_pos (show [dnA d].length=1 from rfl)]
 show SR.out true (z5o [.im (dnA d),.em,.em])=_
 unfold z5o
 generalize (there d++bck d).map TA=tb' at *
 generalize (there d).map TA=th at *
 generalize (bck d).map TA=bk at *
 rw [z0d (ρ':=[.im (dnA d),.ow (.lst th),.em]) (by
  rw [zfh,c1 _ rfl]
  unfold dnA
  walk_at "dz"
  rw [k1]
  walk_at "dz")]
 rw [z0d (ρ':=[.im (dnA d),.ow (.lst th),.ow (.lst bk)]) (by
  rw [zfh,c2 _ rfl]
  unfold dnA
  walk_at "dz"
  rw [k2]
  walk_at "dz")]
 unfold dnA
 walk_at "dz"
 rw [cat]
 walk_at "dz"
 rw [so]
 walk_at "dz"
theorem zcf (x l w:P2):z3c [T2 x,T2 l,T2 w]=.ok (T2 (rnm l w x)):=by
 have q:=eqT x l
 unfold z3c zcb rnm
 by_cases h:x=l
 . rw [decide_eq_true h] at q
   rw [if_pos h]
   generalize T2 x=X at *
   generalize T2 l=Y at *
   walk_at "dz"
   rw [q]
   walk_at "dz"
 . rw [decide_eq_false h] at q
   rw [if_neg h]
   generalize T2 x=X at *
   generalize T2 l=Y at *
   walk_at "dz"
   rw [q]
   walk_at "dz"
theorem z6u (N:List PA) (hN:N.length<=1000) (l w:P2):z1q [.lst (N.map TA),T2 l,T2 w]=.ok (.lst ((soA (N.map (rnA l w))).map TA)):=by
 have so:=z62 (N.map (rnA l w))
 have hc:z3j (bT 3) zhy z4k [some (T2 l),some (T2 w)] (N.map TA)=.ok (N.map fun a=>TA (rnA l w a)):=
  z9m (bn:=bT 3) (en:=TA) (bs:=fun a=>[T2 a.1,T2 a.2.1,.int a.2.2]) (g:=fun a=>TA (rnA l w a)) N (fun x _=>rfl) (fun a _=>by
   have c1:=zcf a.1 l w
   have c2:=zcf a.2.1 l w
   unfold z4k
   generalize T2 a.1=A1 at *
   generalize T2 a.2.1=A2 at *
   generalize T2 l=L' at *
   generalize T2 w=W' at *
   walk_at "dz"
   rw [c1,c2]
   walk_at "dz"
   rfl)
 have lN:(N.map TA).length<=1000:=by rw [List.length_map];exact hN
 rw [List.map_map] at so
 unfold z1q z9u
 generalize T2 l=L' at *
 generalize T2 w=W' at *
 generalize N.map TA=n at *
 walk_at "dz"
 rw [if_pos (by omega),hc]
 walk_at "dz"
 rw [show (N.map fun a=>TA (rnA l w a))=N.map (TA∘rnA l w) from rfl,so]
 walk_at "dz"
def Bt (v:Int):Prop:=PySem.Builtin.Int.intBits v<=2 ^ 20
theorem zsi (X:D) (L':D) (S3 S4 S5:Sl) (d:List Tm) (hd:d.length<=1000) (x y:PA) (hx:Bt x.2.2) (hy:Bt y.2.2) :
  z22 [.im X,.im L',.ow (dnA d),S3,S4,S5,.im (T2 x.1),.im (.int x.2.2),.im (T2 y.2.1),.im (.int y.2.2)]=.nx [.im X,.im L',.ow (dnA (ziu d (x.1,y.2.1,x.2.2 * y.2.2))),S3,S4,S5,.im (T2 x.1),.im (.int x.2.2),.im (T2 y.2.1),.im (.int y.2.2)]:=by
 have e:=zit d hd x.1 y.2.1 (x.2.2 * y.2.2)
 have n1:=z0u x.1
 have n2:=z0u y.2.1
 unfold ziu
 have em:z5h (.int x.2.2) (.int y.2.2)=some (.int (x.2.2 * y.2.2)):=z8i hx hy
 generalize dnA (z4c d (ent (x.1,y.2.1,x.2.2 * y.2.2)).1 (z2w d (ent (x.1,y.2.1,x.2.2 * y.2.2)).1+(ent (x.1,y.2.1,x.2.2 * y.2.2)).2))=d' at *
 generalize dnA d=dd at *
 generalize T2 x.1=A1 at *
 generalize T2 y.2.1=A2 at *
 unfold z22 zk9
 walk_at "dz"
 rw [em]
 walk_at "dz"
 rw [n1,n2]
 walk_at "dz"
 rw [e]
theorem zn8 (N:List PA) (hN:∀a∈N,Bt a.2.2) (lN:N.length<=1000) (l:P2) (S3 S4 S5:Sl) (f3:Sl.frz true S3=S3) (f4:Sl.frz true S4=S4) (f5:Sl.frz true S5=S5) (d:List Tm) (x:PA) (hx:Bt x.2.2) (hd:d.length+(outs N l).length<=1000) (s8 s9:Sl):∃s8' s9':Sl,
  z1e [.im (.lst (N.map TA)),.im (T2 l),.ow (dnA d),S3,S4,S5,.im (T2 x.1),.im (.int x.2.2),s8,s9]=.nx [.im (.lst (N.map TA)),.im (T2 l),.ow (dnA (z1d d (((outs N l).map fun y=>(x.1,y.2.1,x.2.2 * y.2.2)).map ent))),S3,S4,S5,.im (T2 x.1),.im (.int x.2.2),s8',s9']:=by
 have hc:∀ρ:DE,ρ[0]?=some (some (.lst (N.map TA)))->ρ[1]?=some (some (T2 l))->iL (z2b (iL (z02 0)) (bT 3) [1] z0y z0z) ρ=.ok ((outs N l).map fun y=>D.tup [T2 y.2.1,.int y.2.2]):=fun ρ h0 h1=>by
  have e:z2b (iL (z02 0)) (bT 3) [1] z0y z0z ρ=.ok (.lst ((outs N l).map fun y=>D.tup [T2 y.2.1,.int y.2.2])):=by
   unfold z2b
   rw [show iL (z02 0) ρ=.ok (N.map TA) by unfold iL z02;rw [h0];rfl,R.bind_ok,if_pos (by rw [List.length_map];omega)]
   rw [show sel [1] ρ=[some (T2 l)] by simp [sel,h1]]
   show ((z3j (bT 3) z0y z0z [some (T2 l)] (N.map TA)).bind fun ys=>R.ok (D.lst ys))=_
   rw [z4y (bn:=bT 3) (en:=TA) (bs:=fun a=>[T2 a.1,T2 a.2.1,.int a.2.2]) (p:=fun a=>decide (a.1=l)) (g:=fun y=>D.tup [T2 y.2.1,.int y.2.2]) N (fun x _=>rfl) (fun a _=>by
    have q:=eqT a.1 l
    unfold z0y
    generalize T2 a.1=A1 at *
    generalize T2 a.2.1=A2 at *
    generalize T2 l=L' at *
    walk_at "dz"
    rw [q]
    walk_at "dz") (fun a _ _=>by
    unfold z0z
    generalize T2 a.1=A1 at *
    generalize T2 a.2.1=A2 at *
    walk_at "dz")]
   rfl
  show ((z2b (iL (z02 0)) (bT 3) [1] z0y z0z ρ).bind fun d=>R.of (items d))=_
  rw [e]
  rfl
 obtain ⟨ρ',q,d',s8',s9',⟨h1,_⟩,hr⟩:=z2o (tg:=.t [8,9]) (g:=z22) (en:=fun y:PA=>D.tup [T2 y.2.1,.int y.2.2])
  (fun r ρ=>∃(d':List Tm) (s8 s9:Sl),(z1d d' ((r.map fun y=>(x.1,y.2.1,x.2.2 * y.2.2)).map ent)=z1d d (((outs N l).map fun y=>(x.1,y.2.1,x.2.2 * y.2.2)).map ent)/\d'.length+r.length<=1000/\∀y∈r,Bt y.2.2)/\ρ=[.im (.lst (N.map TA)),.im (T2 l),.ow (dnA d'),S3,S4,S5,.im (T2 x.1),.im (.int x.2.2),s8,s9])
  (outs N l) [.im (.lst (N.map TA)),.im (T2 l),.ow (dnA d),S3,S4,S5,.im (T2 x.1),.im (.int x.2.2),s8,s9] ⟨d,s8,s9,⟨rfl,hd,fun y hy=>hN y (List.mem_filter.mp hy).1⟩,rfl⟩ (by
   rintro y r ρ ⟨d',s8,s9,⟨h1,h2,h3⟩,rfl⟩
   rw [List.length_cons] at h2
   have e:=zsi (.lst (N.map TA)) (T2 l) S3 S4 S5 d' (by omega) x y hx (h3 y List.mem_cons_self)
   refine ⟨_,_,rfl,Or.inl e,⟨ziu d' (x.1,y.2.1,x.2.2 * y.2.2),_,_,⟨h1,?_,fun z hz=>h3 z (List.mem_cons_of_mem _ hz)⟩,rfl⟩⟩
   have:=zgw d' (x.1,y.2.1,x.2.2 * y.2.2)
   omega)
 refine ⟨s8',s9',?_⟩
 have hh:z1e [.im (.lst (N.map TA)),.im (T2 l),.ow (dnA d),S3,S4,S5,.im (T2 x.1),.im (.int x.2.2),s8,s9]=.nx ρ':=by
  rw [<-q]
  unfold z1e z7c
  rw [hc _ rfl rfl]
  show zbo _ _ _ (z59 false _ _)=_
  walk_at "dz"
  rw [f3,f4,f5]
 rw [hh,hr,show d'=_ from h1]
theorem z7v (d a b:List Tm):z1d d (a++b)=z1d (z1d d a) b:=by unfold z1d;rw [List.foldl_append]
theorem zsj (N:List PA) (hN:∀a∈N,Bt a.2.2) (l:P2) (hl:(z54 N l).length<=1000):z0b [.lst (N.map TA),T2 l]=.ok (.lst ((soA (there (flow (z54 N l))++bck (flow (z54 N l)))).map TA)):=by
 have lo:N.length+(za5 N l).length<=1000:=by unfold z54 at hl;rw [List.length_append,List.length_map] at hl;exact hl
 have hc:∀ρ:DE,ρ[0]?=some (some (.lst (N.map TA)))->ρ[1]?=some (some (T2 l))->iL (z2b (iL (z02 0)) (bT 3) [1] z0w z0x) ρ=.ok ((ins N l).map fun y=>D.tup [T2 y.1,.int y.2.2]):=fun ρ h0 h1=>by
  have e:z2b (iL (z02 0)) (bT 3) [1] z0w z0x ρ=.ok (.lst ((ins N l).map fun y=>D.tup [T2 y.1,.int y.2.2])):=by
   unfold z2b
   rw [show iL (z02 0) ρ=.ok (N.map TA) by unfold iL z02;rw [h0];rfl,R.bind_ok,if_pos (by rw [List.length_map];omega)]
   rw [show sel [1] ρ=[some (T2 l)] by simp [sel,h1]]
   show ((z3j (bT 3) z0w z0x [some (T2 l)] (N.map TA)).bind fun ys=>R.ok (D.lst ys))=_
   rw [z4y (bn:=bT 3) (en:=TA) (bs:=fun a=>[T2 a.1,T2 a.2.1,.int a.2.2]) (p:=fun a=>decide (a.2.1=l)) (g:=fun y=>D.tup [T2 y.1,.int y.2.2]) N (fun x _=>rfl) (fun a _=>by
    have q:=eqT a.2.1 l
    unfold z0w
    generalize T2 a.1=A1 at *
    generalize T2 a.2.1=A2 at *
    generalize T2 l=L' at *
    walk_at "dz"
    rw [q]
    walk_at "dz") (fun a _ _=>by
    unfold z0x
    generalize T2 a.1=A1 at *
    generalize T2 a.2.1=A2 at *
    walk_at "dz")]
   rfl
  show ((z2b (iL (z02 0)) (bT 3) [1] z0w z0x ρ).bind fun d=>R.of (items d))=_
  rw [e]
  rfl
 unfold z0b
 rw [z9l,if_pos (show [D.lst (N.map TA),T2 l].length=2 from rfl)]
 show SR.out true (z3q [.im (.lst (N.map TA)),.im (T2 l),.em,.em,.em,.em,.em,.em,.em,.em])=_
 unfold z3q
 rw [z0d (ρ':=[.im (.lst (N.map TA)),.im (T2 l),.ow (dnA []),.em,.em,.em,.em,.em,.em,.em]) (by
  generalize N.map TA=n
  generalize T2 l=L'
  walk_at "dz"
  simp only [z9q]
  walk_at "dz"
  rw [show keeps true (D.dn [] [])=true from rfl]
  walk_at "dz"
  rfl)]
 obtain ⟨ρ1,q1,d1,s3,s4,s5,⟨h1,h2⟩,⟨f3,f4,f5⟩,hr1⟩:=z2o (tg:=.t [3,4,5]) (g:=z21) (en:=TA)
  (fun r ρ=>∃(d:List Tm) (s3 s4 s5:Sl),(z1d d ((r.map (tb l)).map ent)=z1d [] ((N.map (tb l)).map ent)/\d.length+r.length<=N.length)/\(Sl.frz true s3=s3/\Sl.frz true s4=s4/\Sl.frz true s5=s5)/\ρ=[.im (.lst (N.map TA)),.im (T2 l),.ow (dnA d),s3,s4,s5,.em,.em,.em,.em])
  N [.im (.lst (N.map TA)),.im (T2 l),.ow (dnA []),.em,.em,.em,.em,.em,.em,.em] ⟨[],.em,.em,.em,⟨rfl,by simp⟩,⟨rfl,rfl,rfl⟩,rfl⟩ (by
   rintro a r ρ ⟨d,s3,s4,s5,⟨h1,h2⟩,_,rfl⟩
   rw [List.length_cons] at h2
   have e:=zsf (.lst (N.map TA)) l d (by omega) a .em .em .em .em
   refine ⟨_,_,rfl,Or.inl e,⟨ziu d (tb l a),_,_,_,⟨h1,?_⟩,⟨rfl,rfl,rfl⟩,rfl⟩⟩
   have:=zgw d (tb l a)
   omega)
 rw [z0d (ρ':=ρ1) (by rw [<-q1];rfl),hr1]
 have h1':d1=z1d [] ((N.map (tb l)).map ent):=h1
 have h2':d1.length<=N.length:=by simpa using h2
 obtain ⟨ρ2,q2,d2,s6,s7,s8,s9,⟨g1,g2,_⟩,hr2⟩:=z2o (tg:=.t [6,7]) (g:=z1e) (en:=fun y:PA=>D.tup [T2 y.1,.int y.2.2])
  (fun r ρ=>∃(d:List Tm) (s6 s7 s8 s9:Sl),(z1d d ((r.flatMap fun x=>(outs N l).map fun y=>(x.1,y.2.1,x.2.2 * y.2.2)).map ent)=z1d d1 ((za5 N l).map ent)/\d.length+(r.flatMap fun x=>(outs N l).map fun y=>(x.1,y.2.1,x.2.2 * y.2.2)).length<=1000/\∀x∈r,Bt x.2.2)/\ρ=[.im (.lst (N.map TA)),.im (T2 l),.ow (dnA d),s3,s4,s5,s6,s7,s8,s9])
  (ins N l) [.im (.lst (N.map TA)),.im (T2 l),.ow (dnA d1),s3,s4,s5,.em,.em,.em,.em] ⟨d1,.em,.em,.em,.em,⟨rfl,by
   have:((ins N l).flatMap fun x=>(outs N l).map fun y=>(x.1,y.2.1,x.2.2 * y.2.2)).length=(za5 N l).length:=rfl
   omega,fun x hx=>hN x (List.mem_filter.mp hx).1⟩,rfl⟩ (by
   rintro x r ρ ⟨d,s6,s7,s8,s9,⟨g1,g2,g3⟩,rfl⟩
   rw [List.flatMap_cons,List.length_append,List.length_map] at g2
   obtain ⟨s8',s9',e⟩:=zn8 N hN (by omega) l s3 s4 s5 f3 f4 f5 d x (g3 x List.mem_cons_self) (by omega) s8 s9
   refine ⟨_,_,rfl,Or.inl e,⟨_,_,_,_,_,⟨?_,?_,fun z hz=>g3 z (List.mem_cons_of_mem _ hz)⟩,rfl⟩⟩
   . rw [<-g1,List.flatMap_cons,List.map_append,z7v]
   . have:=zgp (((outs N l).map fun y=>(x.1,y.2.1,x.2.2 * y.2.2)).map ent) d
     rw [List.length_map,List.length_map] at this
     omega)
 rw [z0d (ρ':=ρ2) (by
  rw [<-q2]
  unfold z7c
  rw [hc _ rfl rfl]
  show zbo _ _ _ (z59 false _ _)=_
  walk_at "dz"
  rw [f3,f4,f5])]
 have e2:d2=flow (z54 N l):=by
  have:d2=z1d d1 ((za5 N l).map ent):=g1
  rw [this,h1',<-z7v,<-List.map_append]
  rfl
 have l2:d2.length<=1000:=by simpa using g2
 rw [hr2,zjt,show z18 z1k (z01 (z02 2) z09) (vis [false,false,true] [.im (.lst (N.map TA)),.im (T2 l),.ow (dnA d2),s3,s4,s5,s6,s7,s8,s9])=z1k [dnA d2] from rfl,zsh _ l2,e2]
 rfl
def W:List PA->P2->P2->Int
 | [],_,_=>0
 | a::r,x,y=>(if a.1=x/\a.2.1=y then a.2.2 else 0)+W r x y
theorem zww:∀(N:List PA) (x y:P2),fl N x y=W N x y - W N y x
 | [],_,_=>rfl
 | a::N,x,y=>by
  show one a x y+fl N x y=_
  rw [zww N x y]
  unfold one
  simp only [W]
  omega
theorem zwx {N:List PA} (h:∀a∈N,0<a.2.2) (x y:P2):0<=W N x y:=by
 induction N with
 | nil=>exact Int.le_refl _
 | cons a N ih=>
  have h1:=ih fun b hb=>h b (List.mem_cons_of_mem _ hb)
  have h2:=h a List.mem_cons_self
  simp only [W]
  split<;>omega
theorem zwy {N:List PA} {x y:P2} (h:W N x y≠0):∃a∈N,a.1=x/\a.2.1=y:=by
 induction N with
 | nil=>exact absurd rfl h
 | cons a N ih=>
  by_cases q:a.1=x/\a.2.1=y
  . exact ⟨a,List.mem_cons_self,q⟩
  . simp only [W,if_neg q,Int.zero_add] at h
    obtain ⟨b,hb,z⟩:=ih h
    exact ⟨b,List.mem_cons_of_mem _ hb,z⟩
theorem zgx {a b:PA} (h:Ap a b):Ap b a:=fun z=>h (z.imp (fun q=>⟨q.1.symm,q.2.symm⟩) fun q=>⟨q.2.symm,q.1.symm⟩)
theorem zsk {l:List PA} (h:l.Pairwise Ap) {a b:PA} (ha:a∈l) (hb:b∈l) (n:a≠b):Ap a b:=by
 induction l with
 | nil=>cases ha
 | cons c l ih=>
  rw [List.pairwise_cons] at h
  rcases List.mem_cons.mp ha with rfl | ha'
  . rcases List.mem_cons.mp hb with rfl | hb'
    . exact absurd rfl n
    . exact h.1 b hb'
  . rcases List.mem_cons.mp hb with rfl | hb'
    . exact zgx (h.1 a ha')
    . exact ih h.2 ha' hb'
theorem Simp.W0 {N:List PA} (S:Simp N) (x y:P2):W N x y=0\/W N y x=0:=by
 apply Classical.byContradiction
 intro h
 rw [not_or] at h
 obtain ⟨a,ha,e1⟩:=zwy h.1
 obtain ⟨b,hb,e2⟩:=zwy h.2
 have n:a≠b:=fun z=>S.lp a ha (by rw [e1.1,<-e2.2,<-z])
 exact zsk S.ap ha hb n (.inr ⟨e1.1.trans e2.2.symm,e1.2.trans e2.1.symm⟩)
theorem Simp.Wm {N:List PA} (S:Simp N) (x y:P2):W N x y=max 0 (fl N x y):=by
 rw [zww]
 have h1:=zwx S.ps x y
 have h2:=zwx S.ps y x
 rcases S.W0 x y with h | h<;>omega
theorem zcg {A B:Prop} [Decidable A] [Decidable B] (p:Int):(if A/\B then p else 0)=if A then (if B then p else 0) else 0:=by
 by_cases a:A<;>by_cases b:B<;>simp [a,b]
theorem zch {A:Prop} [Decidable A] (p q:Int):(if A then p else 0) * q=if A then p * q else 0:=by
 by_cases a:A<;>simp [a]
theorem zkf (u:P2) (m:Int) (x y:P2):∀O:List PA,fl (O.map fun b=>(u,b.2.1,m * b.2.2)) x y =
  (if u=x then m * (O.foldr (fun b s=>(if b.2.1=y then b.2.2 else 0)+s) 0) else 0) - (if u=y then m * (O.foldr (fun b s=>(if b.2.1=x then b.2.2 else 0)+s) 0) else 0)
 | []=>by simp [fl]
 | b::O=>by
  rw [List.map_cons]
  show one _ x y+fl _ x y=_
  rw [zkf u m x y O,List.foldr_cons,List.foldr_cons]
  unfold one
  simp only
  generalize O.foldr (fun b s=>(if b.2.1=y then b.2.2 else 0)+s) 0=s1
  generalize O.foldr (fun b s=>(if b.2.1=x then b.2.2 else 0)+s) 0=s2
  have d1:m * ((if b.2.1=y then b.2.2 else 0)+s1)=(if b.2.1=y then m * b.2.2 else 0)+m * s1:=by
   rw [Int.mul_add];split<;>simp
  have d2:m * ((if b.2.1=x then b.2.2 else 0)+s2)=(if b.2.1=x then m * b.2.2 else 0)+m * s2:=by
   rw [Int.mul_add];split<;>simp
  rw [d1,d2]
  generalize m * b.2.2=p
  generalize m * s1=q1
  generalize m * s2=q2
  rw [zcg,zcg]
  generalize (if b.2.1=y then p else 0)=i1
  generalize (if b.2.1=x then p else 0)=i2
  by_cases c1:u=x<;>by_cases c2:u=y
  . simp only [if_pos c1,if_pos c2];omega
  . simp only [if_pos c1,if_neg c2];omega
  . simp only [if_neg c1,if_pos c2];omega
  . simp only [if_neg c1,if_neg c2];omega
theorem zsl (N:List PA) (l y:P2):(outs N l).foldr (fun b s=>(if b.2.1=y then b.2.2 else 0)+s) 0=W N l y:=by
 induction N with
 | nil=>rfl
 | cons a N ih=>
  unfold outs at ih ⊢
  by_cases h:a.1=l
  . rw [List.filter_cons_of_pos (by simpa using h),List.foldr_cons,ih]
    simp only [W,h,true_and]
  . rw [List.filter_cons_of_neg (by simpa using h),ih]
    simp only [W,h,false_and,if_false,Int.zero_add]
theorem ziv (N:List PA) (l x y:P2):fl (za5 N l) x y=W N x l * W N l y - W N y l * W N l x:=by
 have key:∀M:List PA,fl ((ins M l).flatMap fun a=>(outs N l).map fun b=>(a.1,b.2.1,a.2.2 * b.2.2)) x y=W M x l * W N l y - W M y l * W N l x:=by
  intro M
  induction M with
  | nil=>show (0:Int)=0 * _ - 0 * _;rw [Int.zero_mul,Int.zero_mul];rfl
  | cons a M ih=>
   unfold ins at ih ⊢
   by_cases h:a.2.1=l
   . rw [List.filter_cons_of_pos (by simpa using h),List.flatMap_cons,zgr,ih,zkf,zsl,zsl]
     simp only [W,h,and_true]
     rw [Int.add_mul,Int.add_mul,zch,zch]
     generalize W M x l * W N l y=p1
     generalize W M y l * W N l x=p2
     omega
   . rw [List.filter_cons_of_neg (by simpa using h),ih]
     simp only [W,h,and_false,if_false,Int.zero_add]
 exact key N
theorem zsm (l:P2) (a:PA) (x y:P2):one (tb l a) x y=if x=l\/y=l then - one a x y else one a x y:=by
 unfold tb tch
 by_cases t:l=a.1\/l=a.2.1
 . have t':(decide (l=a.1)||decide (l=a.2.1))=true:=by simpa using t
   rw [if_pos t',zn7 a.1 a.2.1 a.2.2 x y]
   show - one a x y=_
   by_cases c:x=l\/y=l
   . rw [if_pos c]
   . rw [if_neg c]
     have z:one a x y=0:=by
      unfold one
      rw [not_or] at c
      rw [if_neg (fun w=>by rcases t with t | t<;>simp_all),if_neg (fun w=>by rcases t with t | t<;>simp_all)]
      rfl
     rw [z];rfl
 . have t':¬(decide (l=a.1)||decide (l=a.2.1))=true:=by simpa using t
   rw [if_neg t']
   by_cases c:x=l\/y=l
   . rw [if_pos c]
     have z:one a x y=0:=by
      unfold one
      rw [not_or] at t
      rw [if_neg (fun w=>by rcases c with c | c<;>simp_all),if_neg (fun w=>by rcases c with c | c<;>simp_all)]
      rfl
     rw [z];rfl
   . rw [if_neg c]
theorem zsn (l x y:P2):∀N:List PA,fl (N.map (tb l)) x y=if x=l\/y=l then - fl N x y else fl N x y
 | []=>by simp [fl]
 | a::N=>by
  rw [List.map_cons]
  show one (tb l a) x y+fl (N.map (tb l)) x y=_
  rw [zsm,zsn l x y N]
  show _=if x=l\/y=l then -(one a x y+fl N x y) else one a x y+fl N x y
  split<;>omega
def mu (f:P2->P2->Int) (l x y:P2):Int:=if x=l\/y=l then - f x y else f x y+max 0 (f x l) * max 0 (f l y) - max 0 (f y l) * max 0 (f l x)
theorem z5s {N:List PA} (S:Simp N) (l x y:P2):fl (z54 N l) x y=mu (fl N) l x y:=by
 unfold z54 mu
 rw [zgr,zsn,ziv]
 have ll:W N l l=0:=by rcases S.W0 l l with h | h<;>exact h
 by_cases c:x=l\/y=l
 . rw [if_pos c,if_pos c]
   rcases c with rfl | rfl
   . rw [ll,Int.zero_mul,Int.mul_zero];omega
   . rw [ll,Int.zero_mul,Int.mul_zero];omega
 . rw [if_neg c,if_neg c,<-S.Wm,<-S.Wm,<-S.Wm,<-S.Wm]
   omega
theorem zvv {f:P2->P2->Int} (ha:∀x y,f y x=- f x y) (l x y:P2):mu (mu f l) l x y=f x y:=by
 by_cases c:x=l\/y=l
 . unfold mu
   rw [if_pos c,if_pos c];omega
 . have e1:∀z,mu f l z l=f l z:=fun z=>by unfold mu;rw [if_pos (.inr rfl),<-ha]
   have e2:∀z,mu f l l z=f z l:=fun z=>by unfold mu;rw [if_pos (.inl rfl),<-ha]
   have e3:mu f l x y=f x y+max 0 (f x l) * max 0 (f l y) - max 0 (f y l) * max 0 (f l x):=by unfold mu;rw [if_neg c]
   show (if x=l\/y=l then - mu f l x y else mu f l x y+max 0 (mu f l x l) * max 0 (mu f l l y) - max 0 (mu f l y l) * max 0 (mu f l l x))=_
   rw [if_neg c,e1,e1,e2,e2,e3,Int.mul_comm (max 0 (f l x)),Int.mul_comm (max 0 (f l y))]
   omega
theorem ziw {f g:P2->P2->Int} (h:∀x y,f x y=g x y) (l x y:P2):mu f l x y=mu g l x y:=by
 unfold mu
 simp only [h]
theorem Simp.lpo {N:List PA} (S:Simp N) (l:P2):∀a∈z54 N l,Lp a:=by
 intro a ha
 rcases List.mem_append.mp ha with h | h
 . obtain ⟨b,hb,rfl⟩:=List.mem_map.mp h
   have:=S.lp b hb
   unfold tb
   split
   . exact fun z=>this z.symm
   . exact this
 . obtain ⟨b,hb,h⟩:=List.mem_flatMap.mp h
   obtain ⟨c,hc,rfl⟩:=List.mem_map.mp h
   obtain ⟨hb,eb⟩:=List.mem_filter.mp hb
   obtain ⟨hc,ec⟩:=List.mem_filter.mp hc
   have eb:=of_decide_eq_true eb
   have ec:=of_decide_eq_true ec
   intro z
   have z:b.1=c.2.1:=z
   refine zsk S.ap hb hc (fun q=>S.lp b hb ?_) (.inr ⟨z,eb.trans ec.symm⟩)
   rw [eb,<-ec,<-q]
def ov (N:List PA) (l:P2):List PA:=soA (there (flow (z54 N l))++bck (flow (z54 N l)))
theorem z55 {N:List PA} (S:Simp N) (l x y:P2) (k:Int):(x,y,k)∈ov N l↔0<k/\x≠y/\mu (fl N) l x y=k:=by
 unfold ov
 rw [(z3g _).mem_iff,zcd (S.lpo l),z5s S]
theorem Simp.ov {N:List PA} (S:Simp N) (l:P2):Simp (ov N l):=by
 have nd:(K56.ov N l).Nodup:=((z3g _).nodup_iff).mpr (zgt (S.lpo l))
 have asy:∀x y,mu (fl N) l y x=- mu (fl N) l x y:=fun x y=>by rw [<-z5s S,<-z5s S];exact z4d _ _ _
 refine ⟨?_,fun a ha=>((z55 S l a.1 a.2.1 a.2.2).mp ha).2.1,fun a ha=>((z55 S l a.1 a.2.1 a.2.2).mp ha).1⟩
 refine List.Pairwise.imp_of_mem (fun {a b} ha hb n z=>?_) nd
 have q1:=(z55 S l a.1 a.2.1 a.2.2).mp ha
 have q2:=(z55 S l b.1 b.2.1 b.2.2).mp hb
 rcases z with ⟨e1,e2⟩ | ⟨e1,e2⟩
 . refine n (Prod.ext e1 (Prod.ext e2 ?_))
   rw [<-q1.2.2,<-q2.2.2,e1,e2]
 . have w:=q1.2.2
   rw [e1,e2,asy,q2.2.2] at w
   have:=q1.1
   have:=q2.1
   omega
theorem zso (N:List PA) (x:P2):fl N x x=0:=by have:=z4d N x x;omega
theorem zix {N:List PA} (S:Simp N) (l x y:P2):fl (ov N l) x y=mu (fl N) l x y:=by
 have asy:∀x y,mu (fl N) l y x=- mu (fl N) l x y:=fun x y=>by rw [<-z5s S,<-z5s S];exact z4d _ _ _
 have S':=S.ov l
 by_cases e:x=y
 . subst e
   have:=asy x x
   rw [zso];omega
 rcases Int.lt_trichotomy 0 (mu (fl N) l x y) with h | h | h
 . exact S'.get ((z55 S l x y _).mpr ⟨h,e,rfl⟩)
 . rw [<-h]
   refine z53 _ fun b hb z=>?_
   have q:=(z55 S l b.1 b.2.1 b.2.2).mp hb
   rcases z with ⟨e1,e2⟩ | ⟨e1,e2⟩
   . have w:=q.2.2;rw [e1,e2,<-h] at w;have:=q.1;omega
   . have w:=q.2.2;rw [e1,e2,asy,<-h] at w;have:=q.1;omega
 . have g:=S'.get ((z55 S l y x (- mu (fl N) l x y)).mpr ⟨by omega,fun z=>e z.symm,asy x y⟩)
   have g:fl (ov N l) y x=- mu (fl N) l x y:=g
   rw [z4d] at g
   omega
theorem zci {A B:List PA} (SA:Simp A) (SB:Simp B) (h:∀x y,fl A x y=fl B x y):soA A=soA B:=
 z8w ((List.perm_ext_iff_of_nodup SA.nd SB.nd).mpr fun ⟨x,y,k⟩=>by rw [SA.mem,SB.mem,h])
theorem zb5 (A:List PA):soA (soA A)=soA A:=z8w (z3g A)
theorem zgy (N:List PA) (l:P2):soA (ov N l)=ov N l:=zb5 _
theorem zsp {N:List PA} (S:Simp N) (hs:soA N=N) (l:P2):ov (ov N l) l=N:=by
 have S1:=S.ov l
 have S2:=S1.ov l
 have e:=zci S2 S fun x y=>by rw [zix S1,ziw (zix S l),zvv fun x y=>z4d N x y]
 rw [zgy,hs] at e
 exact e
def LL (q:List P2):D:=.lst (q.map T2)
theorem zkg:∀(p q:List P2),z46 (p.map T2) (q.map T2)=decide (p=q)
 | [],[]=>by simp [z46]
 | [],b::q=>by simp [z46]
 | a::p,[]=>by simp [z46]
 | a::p,b::q=>by
  rw [List.map_cons,List.map_cons]
  simp only [z46,zkg p q]
  have e:eqD (T2 a) (T2 b)=decide (a=b):=by
   obtain ⟨a1,a2⟩:=a
   obtain ⟨b1,b2⟩:=b
   simp only [T2,eqD,z46]
   by_cases h:a1=b1<;>by_cases h2:a2=b2<;>simp [h,h2]
  rw [e]
  by_cases h:a=b<;>by_cases h2:p=q<;>simp [h,h2]
theorem zsq (q:List P2):(LL q).pl=true:=by unfold LL;simp only [D.pl];exact z6l _ _ fun p=>z5f (zd8 p)
theorem zsr (q:List P2):(LL q).dep<=2:=by unfold LL;simp only [D.dep];have:=z39 q T2 1 zc0;omega
theorem zvw (p:List P2) (S:List (List P2)):dIn false (LL p) (.lst (S.map LL))=some (.bl (decide (p∈S))):=by
 unfold dIn dOr znn
 simp only
 rw [if_pos ⟨zsq p,z6l _ _ zsq,Nat.le_trans (z39 S LL 2 zsr) (by decide)⟩]
 simp only [Bool.false_eq_true,if_false]
 congr 2
 rw [Bool.eq_iff_iff,List.any_map,List.any_eq_true]
 simp only [decide_eq_true_eq,Function.comp,LL,eqD,zkg]
 constructor
 . rintro ⟨x,hx,e⟩;rw [<-e];exact hx
 . intro h;exact ⟨p,h,rfl⟩
theorem zn9 (u v:P2):z3p [.lst [T2 u,T2 v]]=some (LL (so2 [u,v])):=by
 have ok:z29 ([u,v].map T2)=true:=by
  unfold z29
  rw [zfm _ _ zd8,decide_eq_true (Nat.le_trans (z39 [u,v] T2 1 zc0) (by decide)),z7n [u,v] T2 (fun d=>([u,v].map T2).all fun e=>(z2n d e).isSome) (fun x=>z7n _ _ _ fun y=>zr4 x y),z7n [u,v] T2 zh7 (fun x=>rfl)]
  simp
 show (if z29 ([u,v].map T2)=true then some (D.lst (z31 ([u,v].map T2))) else none)=_
 rw [if_pos ok,zmg]
 rfl
theorem zvx (k:Int):z0m [.int k]=.ok (.bl true):=by
 unfold z0m z3i
 walk_at "dz"
theorem zna (X:D) (S:List (List P2)) (a:PA) (s3:Sl) (hS:S.length<=1000) (hp:0<a.2.2) (hl:Lp a) (hn:so2 [a.1,a.2.1]∉S):∃s3',
  z1r [.im X,.ow (.lst (S.map LL)),.im (TA a),s3]=.nx [.im X,.ow (.lst ((S++[so2 [a.1,a.2.1]]).map LL)),.im (TA a),s3']:=by
 have n1:=z0u a.1
 have n2:=z0u a.2.1
 have q:=eqT a.1 a.2.1
 rw [decide_eq_false hl] at q
 have so:=zn9 a.1 a.2.1
 have i:=zvw (so2 [a.1,a.2.1]) S
 rw [decide_eq_false hn] at i
 have ap:z6w (.lst (S.map LL)) [LL (so2 [a.1,a.2.1])]=some (.lst ((S++[so2 [a.1,a.2.1]]).map LL)):=by
  simp only [z6w,List.length_map]
  rw [if_pos (by omega),List.map_append]
  rfl
 have nu:=zvx a.2.2
 have p1:decide (a.2.2<1)=false:=decide_eq_false (by omega)
 unfold LL at so i ap
 generalize (so2 [a.1,a.2.1]).map T2=Z at *
 refine ⟨.im (.lst [T2 a.1,T2 a.2.1]),?_⟩
 unfold z1r TA
 generalize T2 a.1=A1 at *
 generalize T2 a.2.1=A2 at *
 unfold LL at *
 generalize S.map (fun q=>D.lst (q.map T2))=SS at *
 generalize (S++[so2 [a.1,a.2.1]]).map (fun q=>D.lst (q.map T2))=SS' at *
 walk_at "dz"
 rw [nu]
 walk_at "dz"
 rw [p1]
 walk_at "dz"
 rw [n1,n2]
 walk_at "dz"
 rw [q]
 walk_at "dz"
 rw [so]
 walk_at "dz"
 rw [i]
 walk_at "dz"
 rw [so]
 walk_at "dz"
 rw [ap]
 walk_at "dz"
 rfl
theorem zcj {α:Type} [DecidableEq α]:∀{a b:List α},a.Nodup->(∀x∈a,x∈b)->a.length<=b.length
 | [],_,_,_=>Nat.zero_le _
 | x::a,b,h,s=>by
  rw [List.nodup_cons] at h
  have hx:=s x List.mem_cons_self
  have:=zcj (a:=a) (b:=b.erase x) h.2 fun y hy=>(List.mem_erase_of_ne (fun e=>h.1 (by rw [<-e];exact hy))).mpr (s y (List.mem_cons_of_mem _ hy))
  rw [List.length_erase_of_mem hx] at this
  have:=List.length_pos_of_mem hx
  rw [List.length_cons];omega
theorem ziy {a b:PA} (h:so2 [a.1,a.2.1]=so2 [b.1,b.2.1]):¬Ap a b:=by
 have p:[a.1,a.2.1].Perm [b.1,b.2.1]:=(zbz _).symm.trans (by rw [h];exact zbz _)
 have h1:=p.mem_iff.mp (show a.1∈[a.1,a.2.1] by simp)
 simp only [List.mem_cons,List.not_mem_nil,or_false] at h1
 intro n
 rcases h1 with h1 | h1
 . rw [h1] at p
   have p:=(List.perm_cons b.1).mp p
   rw [List.perm_singleton] at p
   exact n (.inl ⟨h1,(List.cons.inj p).1⟩)
 . have p:=p.trans (List.Perm.swap b.2.1 b.1 [])
   rw [h1] at p
   have p:=(List.perm_cons b.2.1).mp p
   rw [List.perm_singleton] at p
   exact n (.inr ⟨h1,(List.cons.inj p).1⟩)
theorem zgz (N:List PA) (S:Simp N) (so:soA N=N) (hN:N.length<=900):z07 [.lst (N.map TA)]=.ok (.bl true):=by
 have ne:=zc3 (d:=.lst (N.map TA)) (by simp only [D.pl];exact z6l _ _ fun q=>z5f (zgu q)) (by simp only [D.dep];have:=z39 N TA 2 zce;omega)
 have st:=z62 N
 rw [so] at st
 unfold z07 z52
 obtain ⟨X,hX⟩:∃X,X=D.lst (N.map TA):=⟨_,rfl⟩
 obtain ⟨ρ',e,Z,s2,s3,_,hr⟩:=z2o (tg:=.n 2) (g:=z1r) (en:=TA)
  (fun r ρ=>∃(Z:List (List P2)) (s2 s3:Sl),(Z.length+r.length=N.length/\Simp r/\∀a∈r,so2 [a.1,a.2.1]∉Z)/\ρ=[.im X,.ow (.lst (Z.map LL)),s2,s3])
  N [.im X,.ow (.lst []),.em,.em] ⟨[],.em,.em,⟨by simp,S,fun _ _ h=>by cases h⟩,rfl⟩ (by
   rintro a r ρ ⟨Z,s2,s3,⟨h1,h2,h3⟩,rfl⟩
   rw [List.length_cons] at h1
   obtain ⟨s3',h⟩:=zna X Z a s3 (by omega) (h2.ps a List.mem_cons_self) (h2.lp a List.mem_cons_self) (h3 a List.mem_cons_self)
   have hp:=List.pairwise_cons.mp h2.ap
   refine ⟨_,_,rfl,Or.inl h,⟨_,_,_,⟨?_,⟨hp.2,fun b hb=>h2.lp b (List.mem_cons_of_mem _ hb),fun b hb=>h2.ps b (List.mem_cons_of_mem _ hb)⟩,fun b hb z=>?_⟩,rfl⟩⟩
   . rw [List.length_append,List.length_cons,List.length_nil];omega
   . rcases List.mem_append.mp z with z | z
     . exact h3 b (List.mem_cons_of_mem _ hb) z
     . exact ziy (List.mem_singleton.mp z).symm (hp.1 b hb))
 subst hX
 walk_at "dz"
 rw [st]
 walk_at "dz"
 rw [ne]
 walk_at "dz"
 rw [e,hr]
 walk_at "dz"
def fds (d:List Tm):List PA->List Tm
 | []=>d
 | a::r=>fds (z4c (z4c d (a.1,a.2.1) a.2.2) (a.2.1,a.1) (-a.2.2)) r
def tc (N:List PA) (x y:P2):Prop:=∃b∈N,(b.1=x/\b.2.1=y)\/(b.1=y/\b.2.1=x)
theorem zb6:∀(N:List PA) (d:List Tm) (x y:P2),Simp N->(tc N x y->z2w (fds d N) (x,y)=fl N x y)/\(¬tc N x y->z2w (fds d N) (x,y)=z2w d (x,y))
 | [],d,x,y,_=>⟨fun ⟨_,h,_⟩=>(by cases h),fun _=>rfl⟩
 | a::N,d,x,y,S=>by
  have hp:=List.pairwise_cons.mp S.ap
  have S':Simp N:=⟨hp.2,fun b hb=>S.lp b (List.mem_cons_of_mem _ hb),fun b hb=>S.ps b (List.mem_cons_of_mem _ hb)⟩
  have la:=S.lp a List.mem_cons_self
  have ih:=zb6 N (z4c (z4c d (a.1,a.2.1) a.2.2) (a.2.1,a.1) (-a.2.2)) x y S'
  have g:z2w (z4c (z4c d (a.1,a.2.1) a.2.2) (a.2.1,a.1) (-a.2.2)) (x,y)=if x=a.2.1/\y=a.1 then -a.2.2 else if x=a.1/\y=a.2.1 then a.2.2 else z2w d (x,y):=by
   rw [zb3,zb3]
   simp only [Prod.mk.injEq]
  show (_->z2w (fds _ N) (x,y)=one a x y+fl N x y)/\(_->z2w (fds _ N) (x,y)=_)
  have out:¬tc N x y->fl N x y=0:=fun h=>z53 N fun b hb z=>h ⟨b,hb,z⟩
  constructor
  . intro tcN
    by_cases h:tc N x y
    . rw [ih.1 h]
      obtain ⟨b,hb,z⟩:=h
      have ap:=hp.1 b hb
      have:one a x y=0:=by
       unfold one
       rw [if_neg (fun w=>ap (z.elim (fun q=>.inl ⟨w.1.trans q.1.symm,w.2.trans q.2.symm⟩) fun q=>.inr ⟨w.1.trans q.2.symm,w.2.trans q.1.symm⟩)),if_neg (fun w=>ap (z.elim (fun q=>.inr ⟨w.1.trans q.2.symm,w.2.trans q.1.symm⟩) fun q=>.inl ⟨w.1.trans q.1.symm,w.2.trans q.2.symm⟩))]
       rfl
      rw [this,Int.zero_add]
    . rw [ih.2 h,out h,g]
      obtain ⟨b,hb,z⟩:=tcN
      rcases List.mem_cons.mp hb with rfl | hb
      . unfold one
        rcases z with z | z
        . rw [if_neg (fun w=>la (by rw [z.1,w.1])),if_pos ⟨z.1.symm,z.2.symm⟩,if_pos z,if_neg (fun w=>la (by rw [w.1,<-z.2]))];omega
        . rw [if_pos ⟨z.2.symm,z.1.symm⟩,if_neg (fun w=>la (by rw [w.1,<-z.2])),if_pos z];omega
      . exact absurd ⟨b,hb,z⟩ h
  . intro h
    have h':¬tc N x y:=fun ⟨b,hb,z⟩=>h ⟨b,List.mem_cons_of_mem _ hb,z⟩
    rw [ih.2 h',g,if_neg (fun w=>h ⟨a,List.mem_cons_self,.inr ⟨w.2.symm,w.1.symm⟩⟩),if_neg (fun w=>h ⟨a,List.mem_cons_self,.inl ⟨w.1.symm,w.2.symm⟩⟩)]
theorem zkh {N:List PA} (S:Simp N) (x y:P2):z2w (fds [] N) (x,y)=fl N x y:=by
 by_cases h:tc N x y
 . exact (zb6 N [] x y S).1 h
 . rw [(zb6 N [] x y S).2 h,zb2,z53 N fun b hb z=>h ⟨b,hb,z⟩]
theorem znb (X:D) (d:List Tm) (hd:d.length<=900) (a:PA) :
  z20 [.im X,.ow (dnA d),.im (T2 a.1),.im (T2 a.2.1),.im (.int a.2.2)]=.nx [.im X,.ow (dnA (z4c (z4c d (a.1,a.2.1) a.2.2) (a.2.1,a.1) (-a.2.2))),.im (T2 a.1),.im (T2 a.2.1),.im (.int a.2.2)]:=by
 have n1:=z0u a.1
 have n2:=z0u a.2.1
 have e1:=zis (l:=d) (by omega) (a.1,a.2.1) a.2.2
 have e2:=zis (l:=z4c d (a.1,a.2.1) a.2.2) (by have:=z6s d (a.1,a.2.1) a.2.2;omega) (a.2.1,a.1) (-a.2.2)
 unfold kD at e1 e2
 simp only at e1 e2
 unfold z20
 unfold dnA at *
 generalize (d.map fun t=>kN t.1)=k0 at *
 generalize (d.map fun t=>D.int t.2)=v0 at *
 generalize ((z4c d (a.1,a.2.1) a.2.2).map fun t=>kN t.1)=k1 at *
 generalize ((z4c d (a.1,a.2.1) a.2.2).map fun t=>D.int t.2)=v1 at *
 generalize T2 a.1=A1 at *
 generalize T2 a.2.1=A2 at *
 walk_at "dz"
 rw [n1,n2]
 walk_at "dz"
 rw [e1]
 walk_at "dz"
 rw [n1,n2]
 walk_at "dz"
 rw [e2]
 rfl
theorem zh0 (N:List PA) (hN:2 * N.length<=800):z17 [.lst (N.map TA)]=.ok (dnA (fds [] N)):=by
 unfold z17 z5u
 obtain ⟨X,hX⟩:∃X,X=D.lst (N.map TA):=⟨_,rfl⟩
 obtain ⟨ρ',e,d,s2,s3,s4,⟨hd,_⟩,hr⟩:=z2o (tg:=.t [2,3,4]) (g:=z20) (en:=TA)
  (fun r ρ=>∃(d:List Tm) (s2 s3 s4:Sl),(fds d r=fds [] N/\d.length+2 * r.length<=800)/\ρ=[.im X,.ow (dnA d),s2,s3,s4])
  N [.im X,.ow (dnA []),.em,.em,.em] ⟨[],.em,.em,.em,⟨rfl,by simpa using hN⟩,rfl⟩ (by
   rintro a r ρ ⟨d,s2,s3,s4,⟨h1,h2⟩,rfl⟩
   rw [List.length_cons] at h2
   refine ⟨_,_,rfl,Or.inl (znb X d (by omega) a),⟨_,_,_,_,⟨h1,?_⟩,rfl⟩⟩
   have:=z6s d (a.1,a.2.1) a.2.2
   have:=z6s (z4c d (a.1,a.2.1) a.2.2) (a.2.1,a.1) (-a.2.2)
   omega)
 rw [show fds d []=d from rfl] at hd
 subst hd
 rw [z9l,if_pos (show [D.lst (N.map TA)].length=1 from rfl)]
 show SR.out true ((z12 (z2m true 1 [] z9q) _) [.im (.lst (N.map TA)),.em,.em,.em,.em])=_
 rw [<-hX,z0d (ρ':=[.im X,.ow (dnA []),.em,.em,.em]) (by
  walk_at "dz"
  simp only [z9q]
  walk_at "dz"
  rw [show keeps true (D.dn [] [])=true from rfl]
  walk_at "dz"
  rfl),z0d (ρ':=ρ') (by rw [<-e,hX];rfl),hr]
 unfold dnA
 walk_at "dz"
structure Net (pts:List P2) (k:Nat) (N:List PA):Prop where
 S:Simp N
 en:∀a∈N,a.1∈pts/\a.2.1∈pts
 so:soA N=N
 bt:∀a∈N,a.2.2<2 ^ k
theorem Net.len {pts:List P2} {k:Nat} {N:List PA} (h:Net pts k N):N.length<=pts.length * pts.length:=by
 have nd:(N.map fun a=>(a.1,a.2.1)).Nodup:=by
  unfold List.Nodup
  rw [List.pairwise_map]
  exact h.S.ap.imp fun {a b} q e=>q (.inl ⟨congrArg (·.1) e,congrArg (·.2) e⟩)
 have l:=zcj (b:=pts.flatMap fun x=>pts.map fun y=>(x,y)) nd fun x hx=>by
  obtain ⟨a,ha,rfl⟩:=List.mem_map.mp hx
  exact List.mem_flatMap.mpr ⟨a.1,(h.en a ha).1,List.mem_map.mpr ⟨a.2.1,(h.en a ha).2,rfl⟩⟩
 rw [List.length_map] at l
 have e:(pts.flatMap fun x=>pts.map fun y=>(x,y)).length=pts.length * pts.length:=by
  have:∀q:List P2,(q.flatMap fun x=>pts.map fun y=>(x,y)).length=q.length * pts.length:=by
   intro q
   induction q with
   | nil=>simp
   | cons c q ih=>rw [List.flatMap_cons,List.length_append,ih,List.length_map,List.length_cons,Nat.succ_mul];omega
  exact this pts
 omega
theorem Net.ins {pts:List P2} {k:Nat} {N:List PA} (h:Net pts k N) (l:P2):(ins N l).length<=pts.length/\(outs N l).length<=pts.length:=by
 constructor
 . have nd:((K56.ins N l).map (·.1)).Nodup:=by
    unfold List.Nodup
    rw [List.pairwise_map]
    exact (h.S.ap.sublist List.filter_sublist).imp_of_mem fun {a b} ha hb q e=>by
     have e1:=of_decide_eq_true (List.mem_filter.mp ha).2
     have e2:=of_decide_eq_true (List.mem_filter.mp hb).2
     exact q (.inl ⟨e,e1.trans e2.symm⟩)
   have:=zcj (b:=pts) nd fun x hx=>by
    obtain ⟨a,ha,rfl⟩:=List.mem_map.mp hx
    exact (h.en a (List.mem_filter.mp ha).1).1
   rwa [List.length_map] at this
 . have nd:((outs N l).map (·.2.1)).Nodup:=by
    unfold List.Nodup
    rw [List.pairwise_map]
    exact (h.S.ap.sublist List.filter_sublist).imp_of_mem fun {a b} ha hb q e=>by
     have e1:=of_decide_eq_true (List.mem_filter.mp ha).2
     have e2:=of_decide_eq_true (List.mem_filter.mp hb).2
     exact q (.inl ⟨e1.trans e2.symm,e⟩)
   have:=zcj (b:=pts) nd fun x hx=>by
    obtain ⟨a,ha,rfl⟩:=List.mem_map.mp hx
    exact (h.en a (List.mem_filter.mp ha).1).2
   rwa [List.length_map] at this
theorem zh1 (N:List PA) (l:P2):(za5 N l).length=(ins N l).length * (outs N l).length:=by
 unfold za5
 have:∀q:List PA,(q.flatMap fun x=>(outs N l).map fun y=>(x.1,y.2.1,x.2.2 * y.2.2)).length=q.length * (outs N l).length:=by
  intro q
  induction q with
  | nil=>simp
  | cons c q ih=>rw [List.flatMap_cons,List.length_append,ih,List.length_map,List.length_cons,Nat.succ_mul];omega
 exact this _
theorem Net.olen {pts:List P2} {k:Nat} {N:List PA} (h:Net pts k N) (hp:pts.length<=12) (l:P2):N.length<=144/\(z54 N l).length<=300:=by
 have h1:=h.len
 have h2:=h.ins l
 have m1:pts.length * pts.length<=12 * 12:=Nat.mul_le_mul hp hp
 have m2:(K56.ins N l).length * (outs N l).length<=12 * 12:=Nat.mul_le_mul (by omega) (by omega)
 unfold z54
 rw [List.length_append,List.length_map,zh1]
 omega
theorem Net.flb {pts:List P2} {k:Nat} {N:List PA} (h:Net pts k N) (x y:P2):fl N x y<2 ^ k:=by
 have p:(0:Int)<2 ^ k:=Int.pow_pos (by decide)
 by_cases q:0<fl N x y
 . have n:x≠y:=fun e=>by subst e;rw [zso] at q;omega
   exact h.bt _ ((h.S.mem x y _).mpr ⟨q,n,rfl⟩)
 . omega
theorem zy5 {pts:List P2} {k:Nat} {N:List PA} (h:Net pts k N) (l x y:P2):mu (fl N) l x y<2 ^ (2 * k+1):=by
 have p:(0:Int)<2 ^ k:=Int.pow_pos (by decide)
 have e:(2:Int) ^ (2 * k+1)=2 * (2 ^ k * 2 ^ k):=by rw [Int.pow_succ,show 2 * k=k+k by omega,Int.pow_add];omega
 have pp:(2:Int) ^ k<=2 ^ k * 2 ^ k:=by
  have:=Int.mul_le_mul_of_nonneg_left (show (1:Int)<=2 ^ k by omega) (show (0:Int)<=2 ^ k by omega)
  omega
 rw [e]
 unfold mu
 split
 . have:=h.flb y x
   rw [z4d] at this
   omega
 . have f:=h.flb x y
   have f1:=h.flb x l
   have f2:=h.flb l y
   have m1:max 0 (fl N x l) * max 0 (fl N l y)<=2 ^ k * 2 ^ k:=Int.mul_le_mul (by omega) (by omega) (by omega) (by omega)
   have m2:0<=max 0 (fl N y l) * max 0 (fl N l x):=Int.mul_nonneg (by omega) (by omega)
   omega
theorem Net.ov {pts:List P2} {k:Nat} {N:List PA} (h:Net pts k N) (l:P2):Net pts (2 * k+1) (ov N l):=by
 refine ⟨h.S.ov l,fun a ha=>?_,zgy N l,fun a ha=>?_⟩
 . have q:=(z55 h.S l a.1 a.2.1 a.2.2).mp ha
   rw [<-z5s h.S] at q
   have t:∃b∈z54 N l,(b.1=a.1/\b.2.1=a.2.1)\/(b.1=a.2.1/\b.2.1=a.1):=by
    apply Classical.byContradiction
    intro n
    have:=z53 (x:=a.1) (y:=a.2.1) (z54 N l) fun b hb z=>n ⟨b,hb,z⟩
    omega
   obtain ⟨b,hb,z⟩:=t
   have eb:b.1∈pts/\b.2.1∈pts:=by
    rcases List.mem_append.mp hb with hb | hb
    . obtain ⟨c,hc,rfl⟩:=List.mem_map.mp hb
      have:=h.en c hc
      unfold tb
      split
      . exact ⟨this.2,this.1⟩
      . exact this
    . obtain ⟨c,hc,hb⟩:=List.mem_flatMap.mp hb
      obtain ⟨d,hd,rfl⟩:=List.mem_map.mp hb
      exact ⟨(h.en c (List.mem_filter.mp hc).1).1,(h.en d (List.mem_filter.mp hd).1).2⟩
   rcases z with z | z
   . rw [<-z.1,<-z.2];exact eb
   . rw [<-z.1,<-z.2];exact ⟨eb.2,eb.1⟩
 . have q:=(z55 h.S l a.1 a.2.1 a.2.2).mp ha
   rw [<-q.2.2]
   exact zy5 h l _ _
theorem znc {v:Int} {k:Nat} (h0:-(2 ^ k)<v) (h:v<2 ^ k) (hk:k<=2 ^ 20):Bt v:=by
 refine Nat.le_trans (PySem.intBits_le_iff.mpr (show v.natAbs<2 ^ k from ?_)) hk
 have e:((2 ^ k:Nat):Int)=2 ^ k:=by rw [Int.natCast_pow];rfl
 omega
theorem Net.bts {pts:List P2} {k:Nat} {N:List PA} (h:Net pts k N) (hk:k<=2 ^ 20):∀a∈N,Bt a.2.2:=fun a ha=>by
 have p:(0:Int)<2 ^ k:=Int.pow_pos (by decide)
 have:=h.S.ps a ha
 exact znc (by omega) (h.bt a ha) hk
theorem Net.over {pts:List P2} {k:Nat} {N:List PA} (h:Net pts k N) (hp:pts.length<=12) (hk:k<=2 ^ 20) (l:P2):z0b [.lst (N.map TA),T2 l]=.ok (.lst ((K56.ov N l).map TA)):=
 zsj N (h.bts hk) l (by have:=(h.olen hp l).2;omega)
theorem Net.isnet {pts:List P2} {k:Nat} {N:List PA} (h:Net pts k N) (hp:pts.length<=12):z07 [.lst (N.map TA)]=.ok (.bl true):=
 zgz N h.S h.so (by have:=(h.olen hp (0,0)).1;omega)
theorem znd (p:P2) (S:List P2):dIn false (T2 p) (.lst (S.map T2))=some (.bl (decide (p∈S))):=by
 unfold dIn dOr znn
 simp only
 rw [if_pos ⟨z5f (zd8 p),z6l _ _ fun q=>z5f (zd8 q),Nat.le_trans (z39 S T2 1 zc0) (by decide)⟩]
 simp only [Bool.false_eq_true,if_false]
 congr 2
 rw [Bool.eq_iff_iff,List.any_map,List.any_eq_true]
 have e:∀a b:P2,eqD (T2 a) (T2 b)=decide (a=b):=fun a b=>by
  obtain ⟨a1,a2⟩:=a
  obtain ⟨b1,b2⟩:=b
  simp only [T2,eqD,z46]
  by_cases h:a1=b1<;>by_cases h2:a2=b2<;>simp [h,h2]
 simp only [decide_eq_true_eq,Function.comp,e]
 constructor
 . rintro ⟨x,hx,e⟩;rw [<-e];exact hx
 . intro h;exact ⟨p,h,rfl⟩
theorem neT (x y:P2):dNe (T2 x) (T2 y)=some (.bl (!decide (x=y))):=by
 obtain ⟨a,b⟩:=x
 obtain ⟨c,d⟩:=y
 unfold dNe
 rw [if_pos (by simp [T2,D.pl,pls,D.dep,z3v])]
 simp only [T2,eqD,z46]
 by_cases h:a=c<;>by_cases h2:b=d<;>simp [h,h2]
theorem zte (v:Int):(if v > 0 then v else 0)=max 0 v:=by
 by_cases h:v > 0
 . rw [if_pos h,Int.max_eq_right (by omega)]
 . rw [if_neg h,Int.max_eq_left (by omega)]
theorem zss (F Nn P:D) (d1 d2:List Tm) (p x y:P2) (f:P2->P2->Int) (hf:∀u v,z2w d1 (u,v)=f u v) (hb:∀u v,Bt (max 0 (f u v))) (hg:x≠y->z2w d2 (x,y)=mu f p x y) (s8:Sl):∃s8',
  z2c [.im F,.im Nn,.im P,.im (T2 p),.ow (dnA d1),.ow (dnA d2),.im (T2 x),.im (T2 y),s8]=.nx [.im F,.im Nn,.im P,.im (T2 p),.ow (dnA d1),.ow (dnA d2),.im (T2 x),.im (T2 y),s8']:=by
 have nx:=z0u x
 have ny:=z0u y
 have np:=z0u p
 have g1:∀u v,dGetN (dnA d1) (.tup [T2 u,T2 v]) (.int 0)=some (.int (f u v)):=fun u v=>by rw [<-hf];exact zir d1 (u,v)
 have g2:=zir d2 (x,y)
 have qx:=eqT x p
 have qy:=eqT y p
 have qn:=neT x y
 have e1:=g1 x y
 have e2:=g1 x p
 have e3:=g1 p y
 have e4:=g1 y p
 have e5:=g1 p x
 have m1:=z8i (hb x p) (hb p y)
 have m2:=z8i (hb y p) (hb p x)
 have x1:=zte (f x p)
 have x2:=zte (f p y)
 have x3:=zte (f y p)
 have x4:=zte (f p x)
 unfold kD at g2
 simp only at g2
 refine ⟨.im (.int (mu f p x y)),?_⟩
 unfold z2c
 have hmu:mu f p x y=if x=p\/y=p then - f x y else f x y+max 0 (f x p) * max 0 (f p y) - max 0 (f y p) * max 0 (f p x):=rfl
 generalize mu f p x y=M at *
 unfold dnA at *
 generalize (d1.map fun t=>kN t.1)=k1 at *
 generalize (d1.map fun t=>D.int t.2)=v1 at *
 generalize (d2.map fun t=>kN t.1)=k2 at *
 generalize (d2.map fun t=>D.int t.2)=v2 at *
 generalize f x y=a1 at *
 generalize max 0 (f x p)=b2 at *
 generalize max 0 (f p y)=b3 at *
 generalize max 0 (f y p)=b4 at *
 generalize max 0 (f p x)=b5 at *
 rw [z0d (ρ':=[.im F,.im Nn,.im P,.im (T2 p),.ow (.dn k1 v1),.ow (.dn k2 v2),.im (T2 x),.im (T2 y),.im (.int a1)]) (by
  generalize T2 p=P' at *
  generalize T2 x=X' at *
  generalize T2 y=Y' at *
  walk_at "dz"
  rw [z5v rfl rfl rfl e1]
  walk_at "dz")]
 rw [z0d (ρ':=[.im F,.im Nn,.im P,.im (T2 p),.ow (.dn k1 v1),.ow (.dn k2 v2),.im (T2 x),.im (T2 y),.im (.int M)]) (by
  by_cases hx:x=p
  . rw [decide_eq_true hx] at qx
    rw [if_pos (.inl hx)] at hmu
    generalize T2 p=P' at *
    generalize T2 x=X' at *
    generalize T2 y=Y' at *
    walk_at "dz"
    rw [qx]
    walk_at "dz"
    rw [hmu]
  . by_cases hy:y=p
    . rw [decide_eq_false hx] at qx
      rw [decide_eq_true hy] at qy
      rw [if_pos (.inr hy)] at hmu
      generalize T2 p=P' at *
      generalize T2 x=X' at *
      generalize T2 y=Y' at *
      walk_at "dz"
      rw [qx]
      walk_at "dz"
      rw [qy]
      walk_at "dz"
      rw [hmu]
    . rw [decide_eq_false hx] at qx
      rw [decide_eq_false hy] at qy
      rw [if_neg (fun z=>z.elim hx hy)] at hmu
      generalize T2 p=P' at *
      generalize T2 x=X' at *
      generalize T2 y=Y' at *
      walk_at "dz"
      rw [qx]
      walk_at "dz"
      rw [qy]
      walk_at "dz"
      rw [z5v rfl rfl rfl e2]
      walk_at "dz"
      rw [z5v rfl rfl rfl e3]
      walk_at "dz"
      rw [x1,x2,m1]
      walk_at "dz"
      rw [z5v rfl rfl rfl e4]
      walk_at "dz"
      rw [z5v rfl rfl rfl e5]
      walk_at "dz"
      rw [x3,x4,m2]
      walk_at "dz"
      rw [hmu])]
 by_cases hxy:x=y
 . rw [decide_eq_true hxy] at qn
   generalize T2 p=P' at *
   generalize T2 x=X' at *
   generalize T2 y=Y' at *
   walk_at "dz"
   rw [qn]
   walk_at "dz"
 . rw [decide_eq_false hxy] at qn
   rw [hg hxy] at g2
   generalize T2 p=P' at *
   generalize T2 x=X' at *
   generalize T2 y=Y' at *
   walk_at "dz"
   rw [qn]
   walk_at "dz"
   rw [z5v rfl rfl rfl g2]
   walk_at "dz"
theorem zh2 (l:List Tm):keeps true (.dn (l.map fun t=>kN t.1) (l.map fun t=>D.int t.2))=true:=by
 have:z3l (l.map fun t=>D.int t.2)=true:=by
  induction l with
  | nil=>rfl
  | cons a r ih=>simp only [List.map_cons,z3l,ih,Bool.and_true];rfl
 unfold keeps
 simp [D.noL,D.shal,this]
theorem zst (F Nn:D) (pts:List P2) (d1 d2:List Tm) (p x:P2) (f:P2->P2->Int) (hf:∀u v,z2w d1 (u,v)=f u v) (hb:∀u v,Bt (max 0 (f u v))) (hg:∀u v,z2w d2 (u,v)=mu f p u v) (s7 s8:Sl):∃s7' s8',
  z2d [.im F,.im Nn,.im (.lst (pts.map T2)),.im (T2 p),.ow (dnA d1),.ow (dnA d2),.im (T2 x),s7,s8]=.nx [.im F,.im Nn,.im (.lst (pts.map T2)),.im (T2 p),.ow (dnA d1),.ow (dnA d2),.im (T2 x),s7',s8']:=by
 obtain ⟨ρ',e,s7',s8',hr⟩:=z2o (tg:=.n 7) (g:=z2c) (en:=T2)
  (fun r ρ=>∃(s7 s8:Sl),ρ=[.im F,.im Nn,.im (.lst (pts.map T2)),.im (T2 p),.ow (dnA d1),.ow (dnA d2),.im (T2 x),s7,s8])
  pts [.im F,.im Nn,.im (.lst (pts.map T2)),.im (T2 p),.ow (dnA d1),.ow (dnA d2),.im (T2 x),s7,s8] ⟨s7,s8,rfl⟩ (by
   rintro y r ρ ⟨s7,s8,rfl⟩
   obtain ⟨s8',h⟩:=zss F Nn (.lst (pts.map T2)) d1 d2 p x y f hf hb (fun _=>hg x y) s8
   exact ⟨_,_,rfl,Or.inl h,⟨_,_,rfl⟩⟩)
 refine ⟨s7',s8',?_⟩
 rw [<-hr,<-e]
 unfold z2d
 generalize T2 p=P' at *
 generalize T2 x=X' at *
 generalize pts.map T2=pp at *
 unfold dnA
 walk_at "dz"
theorem zsu {pts:List P2} {k:Nat} {N:List PA} (h:Net pts k N) (hp:pts.length<=12) (hk:k<=1000) (p:P2) :
  z1u [.lst ((ov N p).map TA),.lst (N.map TA),.lst (pts.map T2),T2 p]=.ok (.bl true):=by
 have h':=h.ov p
 have i1:=h'.isnet hp
 have l1:=(h.olen hp p).1
 have l2:=(h'.olen hp p).1
 have f1:=zh0 N (by omega)
 have f2:=zh0 (ov N p) (by omega)
 have hc:z3j b1 zhy z3e [some (.lst (pts.map T2))] ((ov N p).map TA)=.ok ((ov N p).map fun _=>D.bl true):=z9m (en:=TA) (bs:=fun q=>[TA q]) (g:=fun _=>D.bl true) (ov N p) (fun q _=>rfl) (fun q hq=>by
  have e:=h'.en q hq
  have q1:=znd q.1 pts
  have q2:=znd q.2.1 pts
  rw [decide_eq_true e.1] at q1
  rw [decide_eq_true e.2] at q2
  unfold z3e TA
  generalize T2 q.1=A1 at *
  generalize T2 q.2.1=A2 at *
  generalize pts.map T2=pp at *
  walk_at "dz"
  rw [q1]
  walk_at "dz"
  rw [q2]
  walk_at "dz")
 have al:=all_map (ov N p) fun _=>true
 have lo:((ov N p).map TA).length<=1000:=by rw [List.length_map];omega
 have g1:=zkh h.S
 have g2:∀u v,z2w (fds [] (ov N p)) (u,v)=mu (fl N) p u v:=fun u v=>by rw [zkh h'.S,zix h.S]
 have hb:∀u v,Bt (max 0 (fl N u v)):=fun u v=>by
  have q:(0:Int)<2 ^ k:=Int.pow_pos (by decide)
  have:=h.flb u v
  exact znc (k:=k) (by omega) (by omega) (Nat.le_trans hk (by decide))
 obtain ⟨F,hF⟩:∃F,F=D.lst ((ov N p).map TA):=⟨_,rfl⟩
 obtain ⟨Nn,hN⟩:∃Nn,Nn=D.lst (N.map TA):=⟨_,rfl⟩
 obtain ⟨ρ',e,s6,s7,s8,hr⟩:=z2o (tg:=.n 6) (g:=z2d) (en:=T2)
  (fun r ρ=>∃(s6 s7 s8:Sl),ρ=[.im F,.im Nn,.im (.lst (pts.map T2)),.im (T2 p),.ow (dnA (fds [] N)),.ow (dnA (fds [] (ov N p))),s6,s7,s8])
  pts [.im F,.im Nn,.im (.lst (pts.map T2)),.im (T2 p),.ow (dnA (fds [] N)),.ow (dnA (fds [] (ov N p))),.em,.em,.em] ⟨.em,.em,.em,rfl⟩ (by
   rintro x r ρ ⟨s6,s7,s8,rfl⟩
   obtain ⟨s7',s8',h⟩:=zst F Nn pts _ _ p x (fl N) g1 hb g2 s7 s8
   exact ⟨_,_,rfl,Or.inl h,⟨_,_,_,rfl⟩⟩)
 rw [<-hF] at i1 f2
 rw [<-hN] at f1
 unfold z1u
 rw [z9l,if_pos (show [D.lst ((ov N p).map TA),D.lst (N.map TA),D.lst (pts.map T2),T2 p].length=4 from rfl),<-hF,<-hN]
 show SR.out false (z4l [.im F,.im Nn,.im (.lst (pts.map T2)),.im (T2 p),.em,.em,.em,.em,.em])=_
 unfold z4l
 rw [z0d (ρ':=[.im F,.im Nn,.im (.lst (pts.map T2)),.im (T2 p),.em,.em,.em,.em,.em]) (by
  generalize pts.map T2=pp
  generalize T2 p=P'
  walk_at "dz"
  rw [i1]
  walk_at "dz")]
 rw [z0d (ρ':=[.im F,.im Nn,.im (.lst (pts.map T2)),.im (T2 p),.em,.em,.em,.em,.em]) (by
  rw [hF]
  generalize pts.map T2=pp at *
  generalize T2 p=P'
  generalize (ov N p).map TA=oo at *
  walk_at "dz"
  rw [if_pos (by omega),hc]
  walk_at "dz"
  rw [al,show (ov N p).all (fun _=>true)=true by simp]
  walk_at "dz")]
 rw [z0d (ρ':=[.im F,.im Nn,.im (.lst (pts.map T2)),.im (T2 p),.ow (dnA (fds [] N)),.em,.em,.em,.em]) (by
  unfold dnA at *
  generalize pts.map T2=pp at *
  generalize T2 p=P'
  walk_at "dz"
  rw [f1]
  walk_at "dz"
  rw [zh2]
  walk_at "dz")]
 rw [z0d (ρ':=[.im F,.im Nn,.im (.lst (pts.map T2)),.im (T2 p),.ow (dnA (fds [] N)),.ow (dnA (fds [] (ov N p))),.em,.em,.em]) (by
  unfold dnA at *
  generalize pts.map T2=pp at *
  generalize T2 p=P'
  walk_at "dz"
  rw [f2]
  walk_at "dz"
  rw [zh2]
  walk_at "dz")]
 rw [z0d (ρ':=ρ') (by
  rw [<-e]
  generalize T2 p=P'
  unfold dnA
  generalize (pts.map T2)=pp
  walk_at "dz")]
 rw [hr]
 unfold dnA
 walk_at "dz"
theorem zsv (N:List PA):dNe (.lst (N.map TA)) (.lst (N.map TA))=some (.bl false):=
 zc3 (d:=.lst (N.map TA)) (by simp only [D.pl];exact z6l _ _ fun q=>z5f (zgu q)) (by simp only [D.dep];have:=z39 N TA 2 zce;omega)
theorem zwz (N:List PA):dEq (.lst (N.map TA)) (.lst (N.map TA))=some (.bl true):=by
 have hp:(D.lst (N.map TA)).pl=true:=by simp only [D.pl];exact z6l _ _ fun q=>z5f (zgu q)
 have hd:(D.lst (N.map TA)).dep<=20:=by simp only [D.dep];have:=z39 N TA 2 zce;omega
 unfold dEq
 rw [if_pos ⟨hp,hp,hd⟩,z4o _ hp]
theorem zki {pts:List P2} {k:Nat} {N:List PA} (h:Net pts k N) (hp:pts.length<=12) (hk:k<=1000) (p:P2) :
  z1j [.lst (N.map TA),.lst (pts.map T2),T2 p]=.ok (.lst ((ov N p).map TA)):=by
 have o:=h.over hp (Nat.le_trans hk (by decide)) p
 have f:=zsu h hp hk p
 have n:=zsv N
 have k1:=z3r N
 have k2:=z3r (ov N p)
 unfold z1j z6q
 generalize (ov N p).map TA=O at *
 generalize N.map TA=n at *
 generalize pts.map T2=pp at *
 generalize T2 p=P' at *
 walk_at "dz"
 rw [k1]
 walk_at "dz"
 rw [o]
 walk_at "dz"
 rw [k2]
 walk_at "dz"
 rw [f]
 walk_at "dz"
 rw [n]
 walk_at "dz"
theorem zsw (X:D) (l w:P2) (M:List PA) (hM:M.length<=1000) (a:PA) :
  z1f [.im X,.im (T2 l),.im (T2 w),.ow (.lst (M.map TA)),.im (T2 a.1),.im (T2 a.2.1),.im (.int a.2.2)]=.nx [.im X,.im (T2 l),.im (T2 w),.ow (.lst ((M++[rnA l w a]).map TA)),.im (T2 a.1),.im (T2 a.2.1),.im (.int a.2.2)]:=by
 have ix:∀x:P2,∀b:Bool,b=decide (x=l)->dIx (.lst [T2 x,T2 w]) (.int (if b then 1 else 0))=some (T2 (rnm l w x)):=fun x b hb=>by
  subst hb
  unfold rnm
  by_cases h:x=l
  . rw [if_pos h,decide_eq_true h];rfl
  . rw [if_neg h,decide_eq_false h];rfl
 have q1:=eqT a.1 l
 have q2:=eqT a.2.1 l
 have i1:=ix a.1 _ rfl
 have i2:=ix a.2.1 _ rfl
 have n1:=z0u (rnm l w a.1)
 have n2:=z0u (rnm l w a.2.1)
 have ap:z6w (.lst (M.map TA)) [.tup [T2 (rnm l w a.1),T2 (rnm l w a.2.1),.int a.2.2]]=some (.lst ((M++[rnA l w a]).map TA)):=by
  simp only [z6w,List.length_map]
  rw [if_pos (by omega),List.map_append]
  rfl
 generalize decide (a.1=l)=c1 at *
 generalize decide (a.2.1=l)=c2 at *
 generalize (M++[rnA l w a]).map TA=M' at *
 generalize M.map TA=M0 at *
 generalize T2 (rnm l w a.1)=B1 at *
 generalize T2 (rnm l w a.2.1)=B2 at *
 generalize T2 a.1=A1 at *
 generalize T2 a.2.1=A2 at *
 generalize T2 l=L' at *
 generalize T2 w=W' at *
 unfold z1f
 walk_at "dz"
 rw [q1]
 walk_at "dz"
 rw [i1]
 walk_at "dz"
 rw [q2]
 walk_at "dz"
 rw [i2]
 walk_at "dz"
 rw [n1,n2]
 walk_at "dz"
 rw [ap]
 walk_at "dz"
theorem zsx (N:List PA) (hN:N.length<=900) (l w:P2):z0v [.lst (N.map TA),T2 l,T2 w]=.ok (.lst ((soA (N.map (rnA l w))).map TA)):=by
 have so:=z62 (N.map (rnA l w))
 obtain ⟨X,hX⟩:∃X,X=D.lst (N.map TA):=⟨_,rfl⟩
 obtain ⟨ρ',e,M,s4,s5,s6,⟨hM,_⟩,hr⟩:=z2o (tg:=.t [4,5,6]) (g:=z1f) (en:=TA)
  (fun r ρ=>∃(M:List PA) (s4 s5 s6:Sl),(M++r.map (rnA l w)=N.map (rnA l w)/\M.length+r.length=N.length)/\ρ=[.im X,.im (T2 l),.im (T2 w),.ow (.lst (M.map TA)),s4,s5,s6])
  N [.im X,.im (T2 l),.im (T2 w),.ow (.lst []),.em,.em,.em] ⟨[],.em,.em,.em,⟨rfl,by simp⟩,rfl⟩ (by
   rintro a r ρ ⟨M,s4,s5,s6,⟨h1,h2⟩,rfl⟩
   rw [List.length_cons] at h2
   refine ⟨_,_,rfl,Or.inl (zsw X l w M (by omega) a),⟨_,_,_,_,⟨?_,?_⟩,rfl⟩⟩
   . rw [List.append_assoc];exact h1
   . rw [List.length_append,List.length_cons,List.length_nil];omega)
 rw [List.map_nil,List.append_nil] at hM
 subst hM
 unfold z0v z4b
 rw [hX] at e hr
 generalize N.map TA=n at *
 generalize (soA (N.map (rnA l w))).map TA=z at *
 generalize (N.map (rnA l w)).map TA=y at *
 generalize T2 l=L' at *
 generalize T2 w=W' at *
 walk_at "dz"
 rw [e,hr]
 walk_at "dz"
 rw [so]
 walk_at "dz"
theorem z6v {l w x y:P2} (hx:x≠w) (hy:y≠w) (h:rnm l w x=rnm l w y):x=y:=by
 unfold rnm at h
 split at h<;>split at h
 . rename_i e1 e2;rw [e1,e2]
 . exact absurd h.symm hy
 . exact absurd h hx
 . exact h
theorem Simp.ren {N:List PA} (S:Simp N) {l w:P2} (hw:∀a∈N,a.1≠w/\a.2.1≠w):Simp (soA (N.map (rnA l w))):=by
 have p:=z3g (N.map (rnA l w))
 refine ⟨(p.pairwise_iff (fun {a b} h=>zgx h)).mpr ?_,fun a ha=>?_,fun a ha=>?_⟩
 . rw [List.pairwise_map]
   refine S.ap.imp_of_mem fun {a b} ha hb h z=>h ?_
   have o1:=hw a ha
   have o2:=hw b hb
   rcases z with z | z
   . exact .inl ⟨z6v o1.1 o2.1 z.1,z6v o1.2 o2.2 z.2⟩
   . exact .inr ⟨z6v o1.1 o2.2 z.1,z6v o1.2 o2.1 z.2⟩
 . obtain ⟨b,hb,rfl⟩:=List.mem_map.mp (p.mem_iff.mp ha)
   exact fun z=>S.lp b hb (z6v (hw b hb).1 (hw b hb).2 z)
 . obtain ⟨b,hb,rfl⟩:=List.mem_map.mp (p.mem_iff.mp ha)
   exact S.ps b hb
theorem ziz {N:List PA} (so:soA N=N) {l w:P2} (hw:∀a∈N,a.1≠w/\a.2.1≠w):soA ((soA (N.map (rnA l w))).map (rnA w l))=N:=by
 have p:((soA (N.map (rnA l w))).map (rnA w l)).Perm N:=by
  refine ((z3g _).map _).trans ?_
  rw [List.map_map]
  have:N.map (rnA w l∘rnA l w)=N:=by
   conv=>rhs;rw [<-List.map_id N]
   refine List.map_congr_left fun a ha=>?_
   have key:∀x:P2,x≠w->rnm w l (rnm l w x)=x:=fun x hx=>by
    unfold rnm
    by_cases h:x=l
    . rw [if_pos h,if_pos rfl,h]
    . rw [if_neg h,if_neg hx]
   show (rnm w l (rnm l w a.1),rnm w l (rnm l w a.2.1),a.2.2)=a
   rw [key _ (hw a ha).1,key _ (hw a ha).2]
  rw [this]
 rw [z8w p,so]
theorem zsy {N:List PA} (S:Simp N) (so:soA N=N) {w:P2} (hw:∀a∈N,a.1≠w/\a.2.1≠w):ov N w=N:=by
 have z:∀x,fl N x w=0:=fun x=>z53 N fun b hb q=>q.elim (fun q=>(hw b hb).2 q.2) fun q=>(hw b hb).1 q.1
 have z':∀x,fl N w x=0:=fun x=>by rw [z4d,z];rfl
 have e:=zci (S.ov w) S fun x y=>by
  rw [zix S]
  unfold mu
  split
  . rename_i c
    rcases c with rfl | rfl
    . rw [z'];rfl
    . rw [z];rfl
  . rw [z,z,z',z']
    simp
 rw [zgy,so] at e
 exact e
theorem zne {N:List PA} (so:soA N=N) {w o:P2} (hw:∀a∈N,a.1≠w/\a.2.1≠w):soA (N.map (rnA w o))=N:=by
 have:N.map (rnA w o)=N:=by
  conv=>rhs;rw [<-List.map_id N]
  exact List.map_congr_left fun a ha=>zn6 (hw a ha)
 rw [this,so]
theorem zvy {pts:List P2} {k:Nat} {N:List PA} (h:Net pts k N) (hp:pts.length<=12) (hk:k<=1000) {w o:P2} (hw:∀a∈N,a.1≠w/\a.2.1≠w) :
  z2f [.lst (N.map TA),T2 w,T2 o]=.ok (.bl true):=by
 have ove:=h.over hp (Nat.le_trans hk (by decide)) w
 rw [zsy h.S h.so hw] at ove
 have l1:=(h.olen hp w).1
 have re:=z6u N (by omega) w o
 rw [zne h.so hw] at re
 have i:=h.isnet hp
 have n:=zsv N
 have q:=zwz N
 have k1:=z3r N
 have n1:=z0u w
 have n2:=z0u o
 have ap:∀u v:P2,z6w (.lst (N.map TA)) [.tup [T2 u,T2 v,.int 7]]=some (.lst (N.map TA++[.tup [T2 u,T2 v,.int 7]])):=fun u v=>by
  simp only [z6w,List.length_map]
  rw [if_pos (by omega)]
 have a1:=ap w o
 have a2:=ap o w
 unfold z2f z7u
 generalize N.map TA=nn at *
 generalize T2 w=W' at *
 generalize T2 o=O' at *
 generalize nn++[D.tup [W',O',.int 7]]=nn1 at *
 generalize nn++[D.tup [O',W',.int 7]]=nn2 at *
 walk_at "dz"
 rw [k1]
 walk_at "dz"
 rw [ove]
 walk_at "dz"
 rw [k1]
 walk_at "dz"
 rw [re]
 walk_at "dz"
 rw [k1]
 walk_at "dz"
 rw [i]
 walk_at "dz"
 rw [n]
 walk_at "dz"
 rw [n1,n2]
 walk_at "dz"
 rw [a1]
 walk_at "dz"
 (try rw [n1,n2])
 walk_at "dz"
 rw [a2]
 walk_at "dz"
 rw [q]
 walk_at "dz"
theorem zck (ns:List Int) (k:Int) (hk:0<=k):z0j [.scr ns,.int k]=.ok (.int (ns.getD k.toNat 0)):=by
 unfold z0j z6p
 walk_at "dz"
 by_cases h:k<ns.length
 . rw [if_pos (by simpa using h),zm4 hk h]
   rfl
 . rw [if_neg (by simpa using h)]
   rw [List.getD_eq_getElem?_getD,List.getElem?_eq_none (by omega)]
   rfl
theorem znf (ns:List Int) (a b:Option Int):(zd4 ns a b).length<=ns.length:=by
 unfold zd4;simp only [List.length_drop,List.length_take];omega
theorem zkj (p:P2) (S:List P2):dIn true (T2 p) (.lst (S.map T2))=some (.bl (!decide (p∈S))):=by
 have h:=znd p S
 unfold dIn dOr znn at h ⊢
 simp only at h ⊢
 rw [if_pos ⟨z5f (zd8 p),z6l _ _ fun q=>z5f (zd8 q),Nat.le_trans (z39 S T2 1 zc0) (by decide)⟩] at h ⊢
 simp only [Bool.false_eq_true,if_false,if_true] at h ⊢
 injection h with h
 injection h with h
 rw [h]
def InS (Z:Int) (p:P2):Prop:=(0<=p.1/\p.1<Z)/\0<=p.2/\p.2<Z
theorem zdo {v:Int} (h:0<=v/\v<2 ^ 200):Bt v:=znc (k:=200) (by omega) h.2 (by decide)
theorem zvz (ns:List Int) (cell Z:Int) (hz:60<=Z/\Z<=10 ^ 40) (pts:List P2) (hp:pts.length<=20) (hi:∀p∈pts,InS Z p) (x i:Int) (hx:0<=x/\x<2147483647) (h9:0<=i/\i<20) (s6 s7:Sl) :
  ∃(pts':List P2) (y:Int) (s6' s7':Sl),(0<=y/\y<2147483647)/\pts'.length<=pts.length+1/\(∀p∈pts',InS Z p) /\
   z0f [.im (.scr ns),.im (.int cell),.im (.int Z),.ow (.lst (pts.map T2)),.im (.int x),.im (.int i),s6,s7]=.nx [.im (.scr ns),.im (.int cell),.im (.int Z),.ow (.lst (pts'.map T2)),.im (.int y),.im (.int i),s6',s7']:=by
 have m1:=z8i (i:=x) (j:=48271) (zdo (by omega)) (zdo (by omega))
 have m2:=z8i (i:=i) (j:=i) (zdo (by omega)) (zdo (by omega))
 have p1:z3m (.int (x * 48271+i * i+1)) (.int 2147483647)=some (.int ((x * 48271+i * i+1) % 2147483647)):=z4i (by decide)
 have y0:=Int.emod_nonneg (x * 48271+i * i+1) (show (2147483647:Int)≠0 by decide)
 have y1:=Int.emod_lt_of_pos (x * 48271+i * i+1) (show (0:Int)<2147483647 by decide)
 generalize (x * 48271+i * i+1) % 2147483647=y at *
 have d0:0<=Z / 60/\Z / 60<=10 ^ 40:=by omega
 have dv:zbp (.int Z) (.int 60)=some (.int (Z / 60)):=zi6 (by decide)
 generalize Z / 60=e at *
 have yy0:0<=y * y:=Int.mul_nonneg y0 y0
 have yy1:y * y<=2147483647 * 2147483647:=Int.mul_le_mul (by omega) (by omega) (by omega) (by omega)
 have m3:=z8i (i:=y) (j:=y) (zdo (by omega)) (zdo (by omega))
 generalize y * y=yy at *
 have m4:=z8i (i:=yy) (j:=e) (zdo (by omega)) (zdo (by omega))
 have p2:z3m (.int (yy * e+y)) (.int Z)=some (.int ((yy * e+y) % Z)):=z4i (by omega)
 have a0:=Int.emod_nonneg (yy * e+y) (show Z≠0 by omega)
 have a1:=Int.emod_lt_of_pos (yy * e+y) (show 0<Z by omega)
 generalize (yy * e+y) % Z=a at *
 have m5:=z8i (i:=y) (j:=69621) (zdo (by omega)) (zdo (by omega))
 have p3:z3m (.int (y * 69621)) (.int 2147483629)=some (.int (y * 69621 % 2147483629)):=z4i (by decide)
 have u0:=Int.emod_nonneg (y * 69621) (show (2147483629:Int)≠0 by decide)
 have u1:=Int.emod_lt_of_pos (y * 69621) (show (0:Int)<2147483629 by decide)
 generalize y * 69621 % 2147483629=u at *
 have m6:=z8i (i:=u) (j:=e) (zdo (by omega)) (zdo (by omega))
 have p4:z3m (.int (u * e)) (.int Z)=some (.int (u * e % Z)):=z4i (by omega)
 have c0:=Int.emod_nonneg (u * e) (show Z≠0 by omega)
 have c1:=Int.emod_lt_of_pos (u * e) (show 0<Z by omega)
 generalize u * e % Z=b at *
 have ap:z6w (.lst (pts.map T2)) [.tup [.int (if b<a then b else a),.int (if b > a then b else a)]]=some (.lst ((pts++[(if b<a then b else a,if b > a then b else a)]).map T2)):=by
  simp only [z6w,List.length_map]
  rw [if_pos (by omega),List.map_append]
  rfl
 have q:=zkj (if b<a then b else a,if b > a then b else a) pts
 rw [show T2 (if b<a then b else a,if b > a then b else a)=.tup [.int (if b<a then b else a),.int (if b > a then b else a)] from rfl] at q
 have hin:InS Z (if b<a then b else a,if b > a then b else a):=by unfold InS;constructor<;>split<;>omega
 by_cases hab:a=b
 . refine ⟨pts,y,.im (.int a),.im (.int b),⟨y0,y1⟩,by omega,hi,?_⟩
   generalize pts.map T2=pp at *
   unfold z0f
   walk_at "dz"
   rw [m1,m2]
   walk_at "dz"
   rw [p1]
   walk_at "dz"
   rw [m3]
   walk_at "dz"
   rw [dv]
   walk_at "dz"
   rw [m4]
   walk_at "dz"
   rw [p2]
   walk_at "dz"
   rw [m5]
   walk_at "dz"
   rw [p3]
   walk_at "dz"
   rw [dv]
   walk_at "dz"
   rw [m6]
   walk_at "dz"
   rw [p4]
   walk_at "dz"
   rw [decide_eq_true hab]
   walk_at "dz"
 . by_cases hm:(if b<a then b else a,if b > a then b else a)∈pts
   . rw [decide_eq_true hm] at q
     refine ⟨pts,y,.im (.int a),.im (.int b),⟨y0,y1⟩,by omega,hi,?_⟩
     generalize pts.map T2=pp at *
     unfold z0f
     walk_at "dz"
     rw [m1,m2]
     walk_at "dz"
     rw [p1]
     walk_at "dz"
     rw [m3]
     walk_at "dz"
     rw [dv]
     walk_at "dz"
     rw [m4]
     walk_at "dz"
     rw [p2]
     walk_at "dz"
     rw [m5]
     walk_at "dz"
     rw [p3]
     walk_at "dz"
     rw [dv]
     walk_at "dz"
     rw [m6]
     walk_at "dz"
     rw [p4]
     walk_at "dz"
     rw [decide_eq_false hab]
     walk_at "dz"
     rw [q]
     walk_at "dz"
   . rw [decide_eq_false hm] at q
     refine ⟨pts++[(if b<a then b else a,if b > a then b else a)],y,.im (.int a),.im (.int b),⟨y0,y1⟩,by simp,fun p hp=>?_,?_⟩
     . rcases List.mem_append.mp hp with h | h
       . exact hi p h
       . rw [List.mem_singleton.mp h];exact hin
     generalize (pts++[(if b<a then b else a,if b > a then b else a)]).map T2=pp' at *
     generalize pts.map T2=pp at *
     unfold z0f
     walk_at "dz"
     rw [m1,m2]
     walk_at "dz"
     rw [p1]
     walk_at "dz"
     rw [m3]
     walk_at "dz"
     rw [dv]
     walk_at "dz"
     rw [m4]
     walk_at "dz"
     rw [p2]
     walk_at "dz"
     rw [m5]
     walk_at "dz"
     rw [p3]
     walk_at "dz"
     rw [dv]
     walk_at "dz"
     rw [m6]
     walk_at "dz"
     rw [p4]
     walk_at "dz"
     rw [decide_eq_false hab]
     walk_at "dz"
     rw [q]
     walk_at "dz"
     rw [ap]
     walk_at "dz"
theorem zx0:z7e (.int 10) (.int 40)=some (.int (10 ^ 40)):=by
 unfold z7e;rw [z49,if_pos (show ze0 10 40 from ⟨by decide,by decide,by decide⟩)];rfl
theorem zy6:z7e (.int 10) (.int 41)=some (.int (10 ^ 41)):=by
 unfold z7e;rw [z49,if_pos (show ze0 10 41 from ⟨by decide,by decide,by decide⟩)];rfl
theorem zy7:z7e (.int 10) (.int 42)=some (.int (10 ^ 42)):=by
 unfold z7e;rw [z49,if_pos (show ze0 10 42 from ⟨by decide,by decide,by decide⟩)];rfl
theorem zy8:z7e (.int 10) (.int 44)=some (.int (10 ^ 44)):=by
 unfold z7e;rw [z49,if_pos (show ze0 10 44 from ⟨by decide,by decide,by decide⟩)];rfl
theorem zy9:z7e (.int 10) (.int 14)=some (.int (10 ^ 14)):=by
 unfold z7e;rw [z49,if_pos (show ze0 10 14 from ⟨by decide,by decide,by decide⟩)];rfl
abbrev pA:DS->SR:=z12 (z7c true [false,true] (zjj (z01 (eOp z36 (eC (.int 2)) (eOp z3m (eOp zbp (z02 1) (eC (.int 4))) (eC (.int 7)))) z09)) (.n 5) z0f)
 (z12 (sIf (z25 asB (eOp (dIn true) (z2z (z01 (eC (.int 0)) (z01 (eC (.int 1)) z09))) (z02 3)))
  (zbl "list" z6w 3 [] (z01 (z2z (z01 (eC (.int 0)) (z01 (eC (.int 1)) z09))) z09))
  sNx)
 (z12 (sIf (z25 asB (eOp (dIn true) (z2z (z01 (eC (.int 1)) (z01 (eC (.int 2)) z09))) (z02 3)))
  (zbl "list" z6w 3 [] (z01 (z2z (z01 (eC (.int 1)) (z01 (eC (.int 2)) z09))) z09))
  sNx)
 (zal 3)))
theorem zcl (ns:List Int) (cell Z x:Int) (pts:List P2) (hp:pts.length<=20) (u v:Int) (s5 s6 s7:Sl):∃pts':List P2,(pts'.length<=pts.length+1/\(u,v)∈pts'/\∀p∈pts',p∈pts\/p=(u,v)) /\
  sIf (z25 asB (eOp (dIn true) (z2z (z01 (eC (.int u)) (z01 (eC (.int v)) z09))) (z02 3))) (zbl "list" z6w 3 [] (z01 (z2z (z01 (eC (.int u)) (z01 (eC (.int v)) z09))) z09)) sNx [.im (.scr ns),.im (.int cell),.im (.int Z),.ow (.lst (pts.map T2)),.im (.int x),s5,s6,s7]=.nx [.im (.scr ns),.im (.int cell),.im (.int Z),.ow (.lst (pts'.map T2)),.im (.int x),s5,s6,s7]:=by
 have q:=zkj (u,v) pts
 rw [show T2 (u,v)=.tup [.int u,.int v] from rfl] at q
 have ap:=zr7 (ls:=pts) (a:=u) (b:=v) (by omega)
 by_cases h:(u,v)∈pts
 . rw [decide_eq_true h] at q
   refine ⟨pts,⟨by omega,h,fun p hp=>.inl hp⟩,?_⟩
   generalize pts.map T2=pp at *
   walk_at "dz"
   rw [q]
   walk_at "dz"
 . rw [decide_eq_false h] at q
   refine ⟨pts++[(u,v)],⟨by simp,by simp,fun p hp=>?_⟩,?_⟩
   . rcases List.mem_append.mp hp with h | h
     . exact .inl h
     . exact .inr (List.mem_singleton.mp h)
   generalize (pts++[(u,v)]).map T2=pp' at *
   generalize pts.map T2=pp at *
   walk_at "dz"
   rw [q]
   walk_at "dz"
   rw [ap]
   walk_at "dz"
theorem zya (ns:List Int) (cell Z:Int) (hz:60<=Z/\Z<=10 ^ 40) (x:Int) (hx:0<=x/\x<2147483647):∃pts:List P2,(pts.length<=12/\0<pts.length/\∀p∈pts,0<=p.1/\p.1<10 ^ 41) /\
  pA [.im (.scr ns),.im (.int cell),.im (.int Z),.ow (.lst []),.im (.int x),.em,.em,.em]=.rt (.lst (pts.map T2)):=by
 have m0:=Int.emod_nonneg (cell / 4) (show (7:Int)≠0 by decide)
 have m1:=Int.emod_lt_of_pos (cell / 4) (show (0:Int)<7 by decide)
 obtain ⟨m,hm⟩:∃m:Nat,2+cell / 4 % 7=(m:Int):=⟨(2+cell / 4 % 7).toNat,by omega⟩
 obtain ⟨ρ',e,pts,y,s5,s6,s7,⟨hl,hy,hi⟩,hr⟩:=zbx (tg:=.n 5) (g:=z0f) m (fun (i:Nat)=>D.int (0+(i:Int)))
  (fun k ρ=>∃(pts:List P2) (y:Int) (s5 s6 s7:Sl),(pts.length<=k/\(0<=y/\y<2147483647)/\∀p∈pts,InS Z p)/\ρ=[.im (.scr ns),.im (.int cell),.im (.int Z),.ow (.lst (pts.map T2)),.im (.int y),s5,s6,s7])
  [.im (.scr ns),.im (.int cell),.im (.int Z),.ow (.lst []),.im (.int x),.em,.em,.em] ⟨[],x,.em,.em,.em,⟨Nat.le_refl _,hx,fun _ h=>by cases h⟩,rfl⟩ (by
   rintro i hi ρ ⟨pts,y,s5,s6,s7,⟨hl,hy,hp⟩,rfl⟩
   obtain ⟨pts',y',s6',s7',h1,h2,h3,h⟩:=zvz ns cell Z hz pts (by omega) hp y (0+(i:Int)) hy (by omega) s6 s7
   exact ⟨_,_,rfl,Or.inl h,⟨pts',y',_,_,_,⟨by omega,h1,h3⟩,rfl⟩⟩)
 have st:z7c true [false,true] (zjj (z01 (eOp z36 (eC (.int 2)) (eOp z3m (eOp zbp (z02 1) (eC (.int 4))) (eC (.int 7)))) z09)) (.n 5) z0f [.im (.scr ns),.im (.int cell),.im (.int Z),.ow (.lst []),.im (.int x),.em,.em,.em]=.nx ρ':=by
  rw [<-e]
  have iv:∀ρ:DE,ρ[1]?=some (some (.int cell))->zjj (z01 (eOp z36 (eC (.int 2)) (eOp z3m (eOp zbp (z02 1) (eC (.int 4))) (eC (.int 7)))) z09) ρ=.ok (zD 0 m):=fun ρ hρ=>by
   rw [zvd (m:Int) (by omega) (by
    have ev:z02 1 ρ=.ok (.int cell):=by unfold z02;rw [hρ]
    simp only [z01,eOp,eC,z09,ev,R.bind_ok]
    rw [zi6 (by decide),R.of_some,R.bind_ok,z4i (by decide),R.of_some,R.bind_ok]
    simp only [z36,zq7,R.of_some,R.bind_ok,hm]),Int.toNat_natCast]
  unfold z7c
  rw [iv _ rfl,zju]
  simp only [zD]
  walk_at "dz"
 obtain ⟨p1,⟨l1,i1,j1⟩,e1⟩:=zcl ns cell Z y pts (by omega) 0 1 s5 s6 s7
 obtain ⟨p2,⟨l2,i2,j2⟩,e2⟩:=zcl ns cell Z y p1 (by omega) 1 2 s5 s6 s7
 refine ⟨p2,⟨by omega,List.length_pos_of_mem i2,fun p hp=>?_⟩,?_⟩
 . rcases j2 p hp with h | rfl
   . rcases j1 p h with h | rfl
     . have:=(hi p h).1;omega
     . exact ⟨by decide,by decide⟩
   . exact ⟨by decide,by decide⟩
 . show z12 _ _ _=_
   rw [z0d st,hr,z0d e1,z0d e2]
   generalize p2.map T2=pp
   walk_at "dz"
theorem zj0 (ns:List Int):∃pts:List P2,(pts.length<=12/\0<pts.length/\∀p∈pts,0<=p.1/\p.1<10 ^ 41)/\z1a [.scr ns]=.ok (.lst (pts.map T2)):=by
 have pk:=zck ns 0 (by decide)
 generalize ns.getD (Int.toNat 0) 0=cell at *
 have x0:=Int.emod_nonneg cell (show (2147483647:Int)≠0 by decide)
 have x1:=Int.emod_lt_of_pos cell (show (0:Int)<2147483647 by decide)
 have md:z3m (.int cell) (.int 2147483647)=some (.int (cell % 2147483647)):=z4i (by decide)
 have m4:z3m (.int cell) (.int 4)=some (.int (cell % 4)):=z4i (by decide)
 obtain ⟨Z,hZ,hz⟩:∃Z:Int,(Z=if cell % 4=1 then 10 ^ 40 else 60)/\(60<=Z/\Z<=10 ^ 40):=⟨_,rfl,by split<;>decide⟩
 obtain ⟨pts,h,e⟩:=zya ns cell Z hz (cell % 2147483647) ⟨x0,x1⟩
 refine ⟨pts,h,?_⟩
 unfold z1a
 rw [z9l,if_pos (show [D.scr ns].length=1 from rfl)]
 show SR.out true (z3d [.im (.scr ns),.em,.em,.em,.em,.em,.em,.em])=_
 unfold z3d
 rw [z0d (ρ':=[.im (.scr ns),.im (.int cell),.em,.em,.em,.em,.em,.em]) (by walk_at "dz";rw [pk];walk_at "dz")]
 rw [z0d (ρ':=[.im (.scr ns),.im (.int cell),.im (.int 60),.em,.em,.em,.em,.em]) (by walk_at "dz")]
 rw [z0d (ρ':=[.im (.scr ns),.im (.int cell),.im (.int Z),.em,.em,.em,.em,.em]) (by
  by_cases c:cell % 4=1
  . rw [if_pos c] at hZ
    walk_at "dz"
    rw [m4]
    walk_at "dz"
    rw [decide_eq_true c]
    walk_at "dz"
    rw [zx0]
    walk_at "dz"
    rw [hZ]
  . rw [if_neg c] at hZ
    walk_at "dz"
    rw [m4]
    walk_at "dz"
    rw [decide_eq_false c]
    walk_at "dz"
    rw [hZ])]
 rw [z0d (ρ':=[.im (.scr ns),.im (.int cell),.im (.int Z),.ow (.lst []),.em,.em,.em,.em]) (by walk_at "dz")]
 rw [z0d (ρ':=[.im (.scr ns),.im (.int cell),.im (.int Z),.ow (.lst []),.im (.int (cell % 2147483647)),.em,.em,.em]) (by walk_at "dz";rw [md];walk_at "dz")]
 show SR.out true (pA _)=_
 rw [e]
 walk_at "dz"
abbrev TV:=Ky×PA
def z3s (l:List TV):List Ky:=l.map (·.1)
def dnV (l:List TV):D:=.dn (l.map fun t=>kN t.1) (l.map fun t=>TA t.2)
def zdp (l:List TV) (k:Ky) (v:PA):List TV:=if k∈z3s l then l.map (fun t=>if t.1=k then (k,v) else t) else l++[(k,v)]
theorem kmemB {k:Ky} {l:List TV}:kN k∈(l.map fun t=>kN t.1)↔k∈z3s l:=by
 unfold z3s
 rw [List.mem_map,List.mem_map]
 constructor
 . rintro ⟨t,h,e⟩;exact ⟨t,h,za4 e⟩
 . rintro ⟨t,h,e⟩;exact ⟨t,h,by rw [e]⟩
theorem za7 (l:List TV) (k:Ky) (v:PA):z3s (zdp l k v)=if k∈z3s l then z3s l else z3s l++[k]:=by
 unfold zdp
 by_cases h:k∈z3s l
 . rw [if_pos h,if_pos h]
   unfold z3s
   rw [List.map_map]
   apply List.map_congr_left
   intro t _
   show (if t.1=k then (k,v) else t).1=t.1
   split
   . rename_i z;exact z.symm
   . rfl
 . rw [if_neg h,if_neg h]
   simp [z3s]
theorem zkk (k:Ky) (v:PA):∀l:List TV,List.zipWith (fun k' d'=>if k'=kN k then TA v else d') (l.map fun t=>kN t.1) (l.map fun t=>TA t.2)=(l.map fun t=>if t.1=k then (k,v) else t).map fun t=>TA t.2
 | []=>rfl
 | t::l=>by
  rw [List.map_cons,List.map_cons,List.map_cons,List.map_cons,List.zipWith_cons_cons,zkk k v l]
  congr 1
  by_cases h:t.1=k
  . rw [if_pos (by rw [h]),if_pos h]
  . rw [if_neg (fun e=>h (za4 e)),if_neg h]
theorem zsz {l:List TV} (hl:l.length<=1000) (k:Ky) (v:PA):dSetN (dnV l) (kD k) (TA v)=some (dnV (zdp l k v)):=by
 have nk:=zgm k
 unfold kD at nk ⊢
 simp only [dnV,dSetN,nk]
 rw [if_pos ⟨by rw [List.length_map];omega,zgn k⟩]
 have ek:zcz (l.map fun t=>kN t.1) (kN k)=(zdp l k v).map fun t=>kN t.1:=by
  have:=congrArg (List.map kN) (za7 l k v)
  have e2:∀x:List TV,(z3s x).map kN=x.map fun t=>kN t.1:=fun x=>by unfold z3s;rw [List.map_map];rfl
  rw [e2] at this
  rw [this]
  unfold zcz
  by_cases h:k∈z3s l
  . rw [if_pos (kmemB.mpr h),if_pos h,e2]
  . rw [if_neg (fun z=>h (kmemB.mp z)),if_neg h,List.map_append,e2];rfl
 have ev:zao (l.map fun t=>kN t.1) (l.map fun t=>TA t.2) (kN k) (TA v)=(zdp l k v).map fun t=>TA t.2:=by
  unfold zao zdp
  by_cases h:k∈z3s l
  . rw [if_pos (kmemB.mpr h),if_pos h,zkk]
  . rw [if_neg (fun z=>h (kmemB.mp z)),if_neg h,List.map_append];rfl
 rw [ek,ev]
def mnP (u v:P2):P2:=if lt2 v u=true then v else u
def mxP (u v:P2):P2:=if lt2 u v=true then v else u
theorem zx1 (u v:P2):HT.lexLt [u.1,u.2] [v.1,v.2]=lt2 u v:=by
 rw [HT.lexLt_cons,HT.lexLt_cons]
 unfold lt2
 by_cases h:u.1=v.1
 . rw [if_pos h]
   by_cases h2:u.2=v.2
   . rw [if_pos h2,show HT.lexLt [] []=false from rfl,Eq.comm,decide_eq_false_iff_not];omega
   . rw [if_neg h2]
     by_cases h3:u.2<v.2
     . rw [decide_eq_true h3,decide_eq_true (.inr ⟨h,h3⟩)]
     . rw [decide_eq_false h3,decide_eq_false (by omega)]
 . rw [if_neg h]
   by_cases h3:u.1<v.1
   . rw [decide_eq_true h3,decide_eq_true (.inl h3)]
   . rw [decide_eq_false h3,decide_eq_false (by omega)]
theorem zw0 (u v:P2):zc7 [T2 u,T2 v]=some (T2 (mnP u v)):=by
 show some (if HT.lexLt [v.1,v.2] [u.1,u.2]=true then T2 v else T2 u)=_
 rw [zx1]
 unfold mnP
 split<;>rfl
theorem zw1 (u v:P2):zc8 [T2 u,T2 v]=some (T2 (mxP u v)):=by
 show some (if z32 [v.1,v.2] [u.1,u.2]=true then T2 v else T2 u)=_
 rw [zc6,zx1]
 unfold mxP
 split<;>rfl
theorem zw2 {u v x y:P2} (huv:u≠v) (hn:(mnP u v,mxP u v)≠(mnP x y,mxP x y)) (hxy:x≠y) (k m:Int):Ap (u,v,k) (x,y,m):=by
 intro z
 apply hn
 rcases z with ⟨e1,e2⟩ | ⟨e1,e2⟩
 . have e1:u=x:=e1
   have e2:v=y:=e2
   rw [e1,e2]
 . have e1:u=y:=e1
   have e2:v=x:=e2
   subst e1 e2
   unfold mnP mxP
   cases q:lt2 u v with
   | true=>rw [zb4 q];rfl
   | false=>rw [z8t huv q];rfl
structure Dr (pts:List P2) (n:Nat) (l:List TV):Prop where
 nd:(z3s l).Nodup
 ok:∀t∈l,t.1=(mnP t.2.1 t.2.2.1,mxP t.2.1 t.2.2.1)/\t.2.1≠t.2.2.1/\(t.2.1∈pts/\t.2.2.1∈pts)/\0<t.2.2.2/\t.2.2.2<2 ^ 47
 few:l.length<=n
theorem Dr.put {pts:List P2} {n:Nat} {l:List TV} (g:Dr pts n l) {u v:P2} (hu:u∈pts) (hv:v∈pts) (n':u≠v) {m:Int} (hm:0<m/\m<2 ^ 47):Dr pts (n+1) (zdp l (mnP u v,mxP u v) (u,v,m)):=by
 refine ⟨?_,fun t ht=>?_,?_⟩
 . rw [za7]
   split
   . exact g.nd
   . rename_i hk
     exact List.nodup_append.mpr ⟨g.nd,by simp,fun x hx y hy e=>hk (by rw [List.mem_singleton.mp hy] at e;rw [<-e];exact hx)⟩
 . have new:((mnP u v,mxP u v),(u,v,m))=t->t.1=(mnP t.2.1 t.2.2.1,mxP t.2.1 t.2.2.1)/\t.2.1≠t.2.2.1/\(t.2.1∈pts/\t.2.2.1∈pts)/\0<t.2.2.2/\t.2.2.2<2 ^ 47:=fun e=>by rw [<-e];exact ⟨rfl,n',⟨hu,hv⟩,hm⟩
   unfold zdp at ht
   split at ht
   . obtain ⟨s,hs,e⟩:=List.mem_map.mp ht
     split at e
     . exact new e
     . rw [<-e];exact g.ok s hs
   . rcases List.mem_append.mp ht with h | h
     . exact g.ok t h
     . exact new (List.mem_singleton.mp h).symm
 . have:=g.few
   unfold zdp
   split
   . rw [List.length_map];omega
   . rw [List.length_append,List.length_cons,List.length_nil];omega
theorem Dr.net {pts:List P2} {n:Nat} {l:List TV} (g:Dr pts n l):Net pts 47 (soA (l.map (·.2))):=by
 have p:=z3g (l.map (·.2))
 have mem:∀a∈soA (l.map (·.2)),∃t∈l,t.2=a:=fun a ha=>List.mem_map.mp (p.mem_iff.mp ha)
 refine ⟨⟨(p.pairwise_iff (fun {a b} h=>zgx h)).mpr ?_,fun a ha=>?_,fun a ha=>?_⟩,fun a ha=>?_,zb5 _,fun a ha=>?_⟩
 . rw [List.pairwise_map]
   have nd:=g.nd
   unfold z3s List.Nodup at nd
   rw [List.pairwise_map] at nd
   refine nd.imp_of_mem fun {a b} ha hb h=>?_
   have q1:=g.ok a ha
   have q2:=g.ok b hb
   rw [q1.1,q2.1] at h
   exact zw2 q1.2.1 h q2.2.1 _ _
 . obtain ⟨t,ht,rfl⟩:=mem a ha;exact (g.ok t ht).2.1
 . obtain ⟨t,ht,rfl⟩:=mem a ha;exact (g.ok t ht).2.2.2.1
 . obtain ⟨t,ht,rfl⟩:=mem a ha;exact (g.ok t ht).2.2.1
 . obtain ⟨t,ht,rfl⟩:=mem a ha;exact (g.ok t ht).2.2.2.2
theorem zj1 {pts:List P2} {x:Int} (h0:0<=x) (h1:x<pts.length):∃p∈pts,dIx (.lst (pts.map T2)) (.int x)=some (T2 p):=by
 have h1':x.toNat<pts.length:=by omega
 refine ⟨pts[x.toNat],List.getElem_mem _,?_⟩
 have e:(pts.map T2)[x.toNat]?=some (T2 pts[x.toNat]):=by rw [List.getElem?_map,List.getElem?_eq_getElem h1'];rfl
 have:=zqi e
 rwa [show ((x.toNat:Nat):Int)=x by omega] at this
theorem zt0 (X:D) (pts:List P2) (hp:0<pts.length) (hp2:pts.length<=12) (n:Nat) (l:List TV) (g:Dr pts n l) (hn:n<=200) (k:Nat) (hk:k<=200) (cell:Int) (s5 s6 s7:Sl):∃(l':List TV) (s5' s6' s7':Sl),Dr pts (n+1) l' /\
  z26 [.im X,.im (.lst (pts.map T2)),.ow (dnV l),.im (.int (k:Int)),.im (.int cell),s5,s6,s7]=.nx [.im X,.im (.lst (pts.map T2)),.ow (dnV l'),.im (.int (k:Int)),.im (.int cell),s5',s6',s7']:=by
 have m1:zez (.int cell) (.int 48271)=some (.int (cell * 48271)):=zr2 (by decide)
 have m2:zez (.int (k:Int)) (.int (k:Int))=some (.int ((k:Int) * k)):=zvc (by omega)
 have m3:zez (.int ((k:Int) * k)) (.int 16807)=some (.int ((k:Int) * k * 16807)):=zr2 (by decide)
 have p1:z3m (.int (cell * 48271+(k:Int) * k * 16807+5)) (.int 2147483629)=some (.int ((cell * 48271+(k:Int) * k * 16807+5) % 2147483629)):=z4i (by decide)
 have y0:=Int.emod_nonneg (cell * 48271+(k:Int) * k * 16807+5) (show (2147483629:Int)≠0 by decide)
 generalize (cell * 48271+(k:Int) * k * 16807+5) % 2147483629=y at *
 have p2:z3m (.int y) (.int (pts.length:Int))=some (.int (y % pts.length)):=z4i (by omega)
 have d1:zbp (.int y) (.int 64)=some (.int (y / 64)):=zi6 (by decide)
 have p3:z3m (.int (y / 64)) (.int (pts.length:Int))=some (.int (y / 64 % pts.length)):=z4i (by omega)
 obtain ⟨u,hu,iu⟩:=zj1 (pts:=pts) (Int.emod_nonneg y (show (pts.length:Int)≠0 by omega)) (Int.emod_lt_of_pos y (by omega))
 obtain ⟨v,hv,iv⟩:=zj1 (pts:=pts) (Int.emod_nonneg (y / 64) (show (pts.length:Int)≠0 by omega)) (Int.emod_lt_of_pos (y / 64) (by omega))
 have d3:zbp (.int cell) (.int 3)=some (.int (cell / 3)):=zi6 (by decide)
 have p4:z3m (.int (cell / 3)) (.int (10 ^ 14))=some (.int (cell / 3 % 10 ^ 14)):=z4i (by decide)
 have w0:=Int.emod_nonneg (cell / 3) (show (10 ^ 14:Int)≠0 by decide)
 have w1:=Int.emod_lt_of_pos (cell / 3) (show (0:Int)<10 ^ 14 by decide)
 have pw:=zy9
 generalize cell / 3 % 10 ^ 14=w at *
 have q:=neT u v
 have n1:=z0u u
 have n2:=z0u v
 have mn:=zw0 u v
 have mx:=zw1 u v
 have se:=zsz (l:=l) (by have:=g.few;omega) (mnP u v,mxP u v) (u,v,1+w)
 have n3:=z0u (mnP u v)
 have n4:=z0u (mxP u v)
 have lp:(pts.map T2).length=pts.length:=List.length_map _
 unfold kD TA at se
 simp only at se
 by_cases huv:u=v
 . rw [decide_eq_true huv] at q
   refine ⟨l,.im (.int y),.im (T2 u),.im (T2 v),⟨g.nd,g.ok,Nat.le_succ_of_le g.few⟩,?_⟩
   unfold dnV
   generalize pts.map T2=pp at *
   generalize T2 u=U at *
   generalize T2 v=V at *
   unfold z26
   walk_at "dz"
   rw [m1,m2]
   walk_at "dz"
   rw [m3]
   walk_at "dz"
   rw [p1]
   walk_at "dz"
   rw [lp,p2]
   walk_at "dz"
   rw [iu]
   walk_at "dz"
   rw [show keeps false U=true by unfold keeps;simp [n1]]
   walk_at "dz"
   rw [d1]
   walk_at "dz"
   rw [lp,p3]
   walk_at "dz"
   rw [iv]
   walk_at "dz"
   rw [show keeps false V=true by unfold keeps;simp [n2]]
   walk_at "dz"
   rw [q]
   walk_at "dz"
 . rw [decide_eq_false huv] at q
   refine ⟨zdp l (mnP u v,mxP u v) (u,v,1+w),.im (.int y),.im (T2 u),.im (T2 v),g.put hu hv huv ⟨by omega,by omega⟩,?_⟩
   unfold dnV at *
   generalize ((zdp l (mnP u v,mxP u v) (u,v,1+w)).map fun t=>kN t.1)=k2 at *
   generalize ((zdp l (mnP u v,mxP u v) (u,v,1+w)).map fun t=>TA t.2)=v2 at *
   generalize (l.map fun t=>kN t.1)=k1 at *
   generalize (l.map fun t=>TA t.2)=v1 at *
   generalize pts.map T2=pp at *
   generalize T2 (mnP u v)=MN at *
   generalize T2 (mxP u v)=MX at *
   generalize T2 u=U at *
   generalize T2 v=V at *
   unfold z26
   walk_at "dz"
   rw [m1,m2]
   walk_at "dz"
   rw [m3]
   walk_at "dz"
   rw [p1]
   walk_at "dz"
   rw [lp,p2]
   walk_at "dz"
   rw [iu]
   walk_at "dz"
   rw [show keeps false U=true by unfold keeps;simp [n1]]
   walk_at "dz"
   rw [d1]
   walk_at "dz"
   rw [lp,p3]
   walk_at "dz"
   rw [iv]
   walk_at "dz"
   rw [show keeps false V=true by unfold keeps;simp [n2]]
   walk_at "dz"
   rw [q]
   walk_at "dz"
   rw [d3,pw]
   walk_at "dz"
   rw [p4]
   walk_at "dz"
   rw [n1,n2]
   walk_at "dz"
   rw [mn]
   walk_at "dz"
   rw [mx]
   walk_at "dz"
   (try rw [n3,n4])
   walk_at "dz"
   rw [se]
   walk_at "dz"
theorem zt1 (cells:List Int) (hc:cells.length<=150) (pts:List P2) (hp:0<pts.length) (hp2:pts.length<=12):∃N:List PA,Net pts 47 N/\z2e [L cells,.lst (pts.map T2)]=.ok (.lst (N.map TA)):=by
 unfold z2e
 rw [z9l,if_pos (show [L cells,D.lst (pts.map T2)].length=2 from rfl)]
 show ∃N:List PA,Net pts 47 N/\SR.out true (z5p [.im (L cells),.im (.lst (pts.map T2)),.em,.em,.em,.em,.em,.em])=_
 unfold z5p
 rw [z0d (ρ':=[.im (L cells),.im (.lst (pts.map T2)),.ow (.dn [] []),.em,.em,.em,.em,.em]) (by
  generalize pts.map T2=pp
  walk_at "dz"
  simp only [z9q]
  walk_at "dz"
  rw [show keeps true (D.dn [] [])=true from rfl]
  walk_at "dz")]
 obtain ⟨ρ',q,l,s3,s4,s5,s6,s7,g,hr⟩:=zbx (tg:=.t [3,4]) (g:=z26) cells.length (fun (i:Nat)=>D.tup [.int (i:Int),.int (cells.getD i 0)])
  (fun k ρ=>∃(l:List TV) (s3 s4 s5 s6 s7:Sl),Dr pts k l/\ρ=[.im (L cells),.im (.lst (pts.map T2)),.ow (dnV l),s3,s4,s5,s6,s7])
  [.im (L cells),.im (.lst (pts.map T2)),.ow (.dn [] []),.em,.em,.em,.em,.em] ⟨[],.em,.em,.em,.em,.em,⟨by simp [z3s],by simp,by simp⟩,rfl⟩ (by
   rintro i hi ρ ⟨l,s3,s4,s5,s6,s7,g,rfl⟩
   obtain ⟨l',s5',s6',s7',g',e⟩:=zt0 (L cells) pts hp hp2 i l g (by omega) i (by omega) (cells.getD i 0) s5 s6 s7
   exact ⟨_,_,rfl,Or.inl e,⟨_,_,_,_,_,_,g',rfl⟩⟩)
 rw [z0d (ρ':=ρ') (by
  rw [<-q]
  unfold z7c
  rw [show iEn (z01 (z02 0) z09) (vis [true] [.im (L cells),.im (.lst (pts.map T2)),.ow (.dn [] []),.em,.em,.em,.em,.em])=.ok ((List.range cells.length).map fun (i:Nat)=>D.tup [.int (i:Int),.int (cells.getD i 0)]) by
   unfold iEn
   show R.of (some (((zD 0 (cells.map D.int).length).zip (cells.map D.int)).map fun p=>D.tup [p.1,p.2]))=_
   rw [R.of_some,show cells.map D.int=(List.range cells.length).map fun i=>D.int (cells.getD i 0) by
    conv=>lhs;rw [zqy cells 0]
    rw [List.map_map];rfl,zi5]]
  rfl)]
 rw [hr]
 refine ⟨soA (l.map (·.2)),g.net,?_⟩
 have sv:z9t (dnV l)=some (.lst ((soA (l.map (·.2))).map TA)):=by
  have ok:=za6 (l.map (·.2))
  have e:=z8v (l.map (·.2))
  rw [List.map_map] at ok e
  unfold dnV z9t
  simp only
  rw [if_pos ⟨by rw [List.length_map,List.length_map],ok⟩]
  exact congrArg (fun z=>some (D.lst z)) e
 unfold dnV at *
 generalize pts.map T2=pp at *
 walk_at "dz"
 rw [sv]
 walk_at "dz"
theorem zj2 (ns:List Int) (hns:ns.length<=63):zdi [.scr ns]=.ok (.bl true):=by
 obtain ⟨pts,⟨hp,hp0,hb⟩,pe⟩:=zj0 ns
 obtain ⟨N,hN,ne⟩:=zt1 (zd4 ns (some 4) (some 104)) (by have:=znf ns (some 4) (some 104);omega) pts hp0 hp
 have k1:=zck ns 1 (by decide)
 have k2:=zck ns 2 (by decide)
 have k3:=zck ns 3 (by decide)
 generalize ns.getD (Int.toNat 1) 0=c1 at *
 generalize ns.getD (Int.toNat 2) 0=c2 at *
 generalize ns.getD (Int.toNat 3) 0=c3 at *
 have z0:(pts.length:Int)≠0:=by omega
 obtain ⟨p,ip,ep⟩:=zj1 (pts:=pts) (Int.emod_nonneg c1 z0) (Int.emod_lt_of_pos c1 (by omega))
 obtain ⟨o',io,eo⟩:=zj1 (pts:=pts) (Int.emod_nonneg c2 z0) (Int.emod_lt_of_pos c2 (by omega))
 have p1:z3m (.int c1) (.int (pts.length:Int))=some (.int (c1 % pts.length)):=z4i (by omega)
 have p2:z3m (.int c2) (.int (pts.length:Int))=some (.int (c2 % pts.length)):=z4i (by omega)
 have p3:z3m (.int c3) (.int (10 ^ 40))=some (.int (c3 % 10 ^ 40)):=z4i (by decide)
 have p4:z3m (.int c3) (.int 3)=some (.int (c3 % 3)):=z4i (by decide)
 have t41:=zy6
 have t40:=zx0
 have t42:=zy7
 have t44:=zy8
 obtain ⟨w,hw⟩:∃w:P2,w=((10 ^ 41:Int),10 ^ 41+1+c3 % 10 ^ 40):=⟨_,rfl⟩
 obtain ⟨v,hv⟩:∃v:P2,v=((10 ^ 44:Int),10 ^ 44+1):=⟨_,rfl⟩
 obtain ⟨o,ho⟩:∃o:P2,o=if c3 % 3=1 then ((10 ^ 42:Int),10 ^ 42+1) else o':=⟨_,rfl⟩
 have h1:=hN.ov p
 have h2:=h1.ov o
 have off:∀a∈ov N p,a.1≠w/\a.2.1≠w:=fun a ha=>by
  have e:=h1.en a ha
  have e1:=hb _ e.1
  have e2:=hb _ e.2
  constructor
  . intro z;rw [z,hw] at e1;exact absurd e1.2 (Int.lt_irrefl _)
  . intro z;rw [z,hw] at e2;exact absurd e2.2 (Int.lt_irrefl _)
 have s1:=zki hN hp (by decide) p
 have s2:=zki h1 hp (by decide) o
 have b1:=h1.over hp (by decide) p
 rw [zsp hN.S hN.so p] at b1
 have b2:=h2.over hp (by decide) o
 rw [zsp h1.S h1.so o] at b2
 have l1:=(h1.olen hp p).1
 have r1:=z6u (ov N p) (by omega) p w
 have sw:=zsx (ov N p) (by omega) p w
 have S3:=h1.S.ren (l:=p) off
 have l3:(soA ((ov N p).map (rnA p w))).length<=144:=by rw [(z3g _).length_eq,List.length_map];exact l1
 have i3:=zgz _ S3 (zb5 _) (by omega)
 have r2:=z6u (soA ((ov N p).map (rnA p w))) (by omega) w p
 rw [ziz h1.so off] at r2
 have ow:=zvy h1 hp (by decide) (w:=w) (o:=v) off
 have n0:=zsv N
 have n1:=zsv (ov N p)
 have n3:=zsv (soA ((ov N p).map (rnA p w)))
 have q1:=zwz (ov N p)
 have y0:=z3r N
 have y1:=z3r (ov N p)
 have y3:=z3r (soA ((ov N p).map (rnA p w)))
 have lp:(pts.map T2).length=pts.length:=List.length_map _
 have npt:z3l (pts.map T2)=true:=zc2 pts
 have np:=z0u p
 have no:=z0u o'
 have nw:D.tup [.int (10 ^ 41),.int (10 ^ 41+1+c3 % 10 ^ 40)]=T2 w:=by rw [hw];rfl
 have nv:D.tup [.int (10 ^ 44),.int (10 ^ 44+1)]=T2 v:=by rw [hv];rfl
 have no2:(if c3 % 3=1 then D.tup [.int (10 ^ 42),.int (10 ^ 42+1)] else T2 o')=T2 o:=by rw [ho];split<;>rfl
 generalize (soA ((ov N p).map (rnA p w))).map TA=R3 at *
 generalize (ov (ov N p) o).map TA=R2 at *
 generalize (ov N p).map TA=R1 at *
 generalize N.map TA=R0 at *
 have non1:znq (.lst R1) .non=some (.bl false):=rfl
 have non2:znq (.lst R2) .non=some (.bl false):=rfl
 generalize pts.map T2=pp at *
 unfold zdi
 rw [z9l,if_pos (show [D.scr ns].length=1 from rfl)]
 show SR.out false (zn2 [.im (.scr ns),.em,.em,.em,.em,.em,.em,.em,.em,.em])=_
 unfold zn2
 rw [z0d (ρ':=[.im (.scr ns),.ow (.lst pp),.em,.em,.em,.em,.em,.em,.em,.em]) (by walk_at "dz";rw [pe];walk_at "dz";(try rw [npt]);walk_at "dz")]
 rw [z0d (ρ':=[.im (.scr ns),.ow (.lst pp),.ow (.lst R0),.em,.em,.em,.em,.em,.em,.em]) (by walk_at "dz";rw [ne];walk_at "dz";(try rw [y0]);walk_at "dz")]
 rw [z0d (ρ':=[.im (.scr ns),.ow (.lst pp),.ow (.lst R0),.im (T2 p),.em,.em,.em,.em,.em,.em]) (by
  generalize T2 p=P' at *
  walk_at "dz";rw [k1];walk_at "dz";rw [lp,p1];walk_at "dz";rw [ep];walk_at "dz";rw [show keeps false P'=true by unfold keeps;simp [np]];walk_at "dz")]
 rw [z0d (ρ':=[.im (.scr ns),.ow (.lst pp),.ow (.lst R0),.im (T2 p),.im (T2 o'),.em,.em,.em,.em,.em]) (by
  generalize T2 p=P' at *
  generalize T2 o'=O' at *
  walk_at "dz";rw [k2];walk_at "dz";rw [lp,p2];walk_at "dz";rw [eo];walk_at "dz";rw [show keeps false O'=true by unfold keeps;simp [no]];walk_at "dz")]
 rw [z0d (ρ':=[.im (.scr ns),.ow (.lst pp),.ow (.lst R0),.im (T2 p),.im (T2 o'),.im (T2 w),.em,.em,.em,.em]) (by
  rw [<-nw]
  generalize T2 p=P' at *
  generalize T2 o'=O' at *
  walk_at "dz";rw [t41];walk_at "dz";rw [k3];walk_at "dz";rw [t40];walk_at "dz";rw [p3];walk_at "dz")]
 rw [z0d (ρ':=[.im (.scr ns),.ow (.lst pp),.ow (.lst R0),.im (T2 p),.im (T2 o),.im (T2 w),.em,.em,.em,.em]) (by
  rw [<-no2]
  generalize T2 p=P' at *
  generalize T2 w=W' at *
  by_cases c:c3 % 3=1
  . rw [if_pos c]
    generalize T2 o'=O' at *
    walk_at "dz";rw [k3];walk_at "dz";rw [p4];walk_at "dz";rw [decide_eq_true c];walk_at "dz";rw [t42];walk_at "dz"
  . rw [if_neg c]
    generalize T2 o'=O' at *
    walk_at "dz";rw [k3];walk_at "dz";rw [p4];walk_at "dz";rw [decide_eq_false c];walk_at "dz")]
 generalize T2 o'=O' at *
 rw [z0d (ρ':=[.im (.scr ns),.im (.lst pp),.im (.lst R0),.im (T2 p),.im (T2 o),.im (T2 w),.im (.lst R1),.em,.em,.em]) (by
  generalize T2 p=P' at *
  generalize T2 w=W' at *
  generalize T2 o=O at *
  walk_at "dz";rw [s1];walk_at "dz")]
 rw [z0d (ρ':=[.im (.scr ns),.im (.lst pp),.im (.lst R0),.im (T2 p),.im (T2 o),.im (T2 w),.im (.lst R1),.em,.em,.em]) (by
  generalize T2 p=P' at *
  generalize T2 w=W' at *
  generalize T2 o=O at *
  walk_at "dz";rw [non1];walk_at "dz")]
 rw [z0d (ρ':=[.im (.scr ns),.im (.lst pp),.im (.lst R0),.im (T2 p),.im (T2 o),.im (T2 w),.im (.lst R1),.im (.lst R2),.em,.em]) (by
  generalize T2 p=P' at *
  generalize T2 w=W' at *
  generalize T2 o=O at *
  walk_at "dz";rw [s2];walk_at "dz")]
 rw [z0d (ρ':=[.im (.scr ns),.im (.lst pp),.im (.lst R0),.im (T2 p),.im (T2 o),.im (T2 w),.im (.lst R1),.im (.lst R2),.em,.em]) (by
  generalize T2 p=P' at *
  generalize T2 w=W' at *
  generalize T2 o=O at *
  walk_at "dz";rw [non2];walk_at "dz";rw [b2];walk_at "dz";rw [n1];walk_at "dz";rw [b1];walk_at "dz";rw [n0];walk_at "dz")]
 rw [z0d (ρ':=[.im (.scr ns),.im (.lst pp),.im (.lst R0),.im (T2 p),.im (T2 o),.im (T2 w),.im (.lst R1),.im (.lst R2),.ow (.lst R1),.em]) (by
  generalize T2 p=P' at *
  generalize T2 w=W' at *
  generalize T2 o=O at *
  walk_at "dz";(try rw [y1]);walk_at "dz")]
 rw [z0d (ρ':=[.im (.scr ns),.im (.lst pp),.im (.lst R0),.im (T2 p),.im (T2 o),.im (T2 w),.im (.lst R1),.im (.lst R2),.ow (.lst R1),.ow (.lst R3)]) (by
  generalize T2 p=P' at *
  generalize T2 w=W' at *
  generalize T2 o=O at *
  walk_at "dz";rw [r1];walk_at "dz";(try rw [y3]);walk_at "dz")]
 rw [z0d (ρ':=[.im (.scr ns),.im (.lst pp),.im (.lst R0),.im (T2 p),.im (T2 o),.im (T2 w),.im (.lst R1),.im (.lst R2),.ow (.lst R1),.ow (.lst R3)]) (by
  generalize T2 p=P' at *
  generalize T2 w=W' at *
  generalize T2 o=O at *
  walk_at "dz";rw [i3];walk_at "dz";rw [sw];walk_at "dz";rw [n3];walk_at "dz";rw [n1];walk_at "dz")]
 rw [<-nv] at ow
 generalize T2 p=P' at *
 generalize T2 w=W' at *
 generalize T2 o=O at *
 walk_at "dz"
 rw [r2]
 walk_at "dz"
 rw [q1]
 walk_at "dz"
 rw [t44]
 walk_at "dz"
 rw [ow]
 walk_at "dz"
end K56
namespace K56
open PySem PySem.Spec PyProof.Rows L2
theorem walk {l:PySem.W.OpenLaw} {q:Program} {loose:List Str} {XP:(Str->Option Value)->Heap->Prop} {YP:World->Heap->Prop} {d:DefRec} {K:Params->Frag} (hn:l.most=some 63) (hdf:d.params.defaults=[])
  (hY:∀(w:World) (h:Heap),YP w h->(K w.params).In h)
  (F:∀(w:World) (mg:Str->Option Value) (fa:Addr) (h:Heap),(K w.params).In h->h.Ns mainGlobals mg->mg d.name=some (.ref fa) ->
   ∃fd:FuncData,(∀(s:Shared) (u:Value),BindsTo s fd ⟨[u],[]⟩ [("_law_script",u)])/\∀base:Heap,(K w.params).In base->base.Ns mainGlobals mg->FnOk l.prog w (K w.params) mg base (CX1 l.prog w) 5 fa fd ["_law_script"] (spL (K w.params) false zdi 1)) :
  PySem.W.WalkO q loose XP YP l.row.toRowW d [] (fun f vs=>PySem.call f vs):=
 L2.walk_of (n:=63) (k:=5) (x:="_law_script") (CX:=fun w=>CX1 l.prog w) (sp:=fun w=>(spL (K w.params) false zdi 1)) hn (by decide) hdf ⟨rfl,by decide,by decide⟩ hY F (fun _ _ a ns hl hO hS=>zpo hO hS (zj2 ns hl)) fun _ _ _ _ _ ⟨_,_,_,_,_,z⟩=>z
end K56
open PySem PySem.W PyProof.Rows
set_option maxRecDepth 100000 in
set_option maxHeartbeats 0 in
theorem PySem.Challenge.cw_friezeyard_k56_nets_overturned_back_holds : PySem.Challenge.rw_friezeyard_k56_nets_overturned_back.Holds := by
 w_on;o_law
 refine holds_open (q:=K56.q) (loose:=[]) (Xt:=K56.xt) (XP:=XL K56.q []) (Yf:=K56.hook.obs) (Ya:=K56.hook.val)
  (YP:=K56.hook.says) (N:=1168) K56.left K56.hook.of K56.hook.keeps
  (fun s e=>xl_of s (Bool.and_eq_true_iff.mp e).1) XL.keeps (by rfl) (by rfl) (by rfl)
  (fun s e=>recFacts_of (Bool.and_eq_true_iff.mp e).2) (by rfl) (by assumption) (by decide +kernel)
  ⟨rfl,rfl,rfl,rfl,rfl,by decide +kernel⟩ ?hw ?hc
 (case hw=>w_witness2)
 refine K56.walk (l:=PySem.Challenge.rw_friezeyard_k56_nets_overturned_back) (K:=K56.K) rfl rfl (fun w h Y=>Y) ?F
 case F=>
  intro w mg fa h KX G hmg
  k_fill
  refine' K56.all_mk KX G hmg ?a0 ?l0 ?c0 ?k0 ?a1 ?l1 ?c1 ?k1 ?a2 ?l2 ?c2 ?k2 ?a3 ?l3 ?c3 ?k3 ?a4 ?l4 ?c4 ?k4 ?a5 ?l5 ?c5 ?k5 ?a6 ?l6 ?c6 ?k6 ?a7 ?l7 ?c7 ?k7 ?a8 ?l8 ?c8 ?k8 ?a9 ?l9 ?c9 ?k9 ?a10 ?l10 ?c10 ?k10 ?a11 ?l11 ?c11 ?k11 ?a12 ?l12 ?c12 ?k12 ?a13 ?l13 ?c13 ?k13 ?a14 ?l14 ?c14 ?k14 ?a15 ?l15 ?c15 ?k15 ?z_all ?z_bool ?z_enumerate ?z_int ?z_isinstance ?z_len ?z_list ?z_max ?z_min ?z_range ?z_sorted ?z_tuple
  (case a0=>k_is)
  (case l0=>k_is)
  (case c0=>k_is)
  (case k0=>k_is)
  (case a1=>k_is)
  (case l1=>k_is)
  (case c1=>k_is)
  (case k1=>k_is)
  (case a2=>k_is)
  (case l2=>k_is)
  (case c2=>k_is)
  (case k2=>k_is)
  (case a3=>k_is)
  (case l3=>k_is)
  (case c3=>k_is)
  (case k3=>k_is)
  (case a4=>k_is)
  (case l4=>k_is)
  (case c4=>k_is)
  (case k4=>k_is)
  (case a5=>k_is)
  (case l5=>k_is)
  (case c5=>k_is)
  (case k5=>k_is)
  (case a6=>k_is)
  (case l6=>k_is)
  (case c6=>k_is)
  (case k6=>k_is)
  (case a7=>k_is)
  (case l7=>k_is)
  (case c7=>k_is)
  (case k7=>k_is)
  (case a8=>k_is)
  (case l8=>k_is)
  (case c8=>k_is)
  (case k8=>k_is)
  (case a9=>k_is)
  (case l9=>k_is)
  (case c9=>k_is)
  (case k9=>k_is)
  (case a10=>k_is)
  (case l10=>k_is)
  (case c10=>k_is)
  (case k10=>k_is)
  (case a11=>k_is)
  (case l11=>k_is)
  (case c11=>k_is)
  (case k11=>k_is)
  (case a12=>k_is)
  (case l12=>k_is)
  (case c12=>k_is)
  (case k12=>k_is)
  (case a13=>k_is)
  (case l13=>k_is)
  (case c13=>k_is)
  (case k13=>k_is)
  (case a14=>k_is)
  (case l14=>k_is)
  (case c14=>k_is)
  (case k14=>k_is)
  (case a15=>k_is)
  (case l15=>k_is)
  (case c15=>k_is)
  (case k15=>k_is)
  (case z_all=>k_is)
  (case z_bool=>k_is)
  (case z_enumerate=>k_is)
  (case z_int=>k_is)
  (case z_isinstance=>k_is)
  (case z_len=>k_is)
  (case z_list=>k_is)
  (case z_max=>k_is)
  (case z_min=>k_is)
  (case z_range=>k_is)
  (case z_sorted=>k_is)
  (case z_tuple=>k_is)
